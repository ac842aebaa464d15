import PyProof.Rows.All
import Wide.All
import OpenK.AllK
import Wide.FinOn
import HandS.ForMost
import HandS.FStr
import HandS.Strs
import HandS.StrMore
import HandS.DeepEq
import HandS.OwnEq
import HandS.DictComp
import PySem.Challenge.RW_boardheld_k02_whole_images_listed
set_option Elab.async false
set_option linter.all false
set_option maxRecDepth 100000
set_option maxHeartbeats 4000000
/-! Texts and rows: what a row of a word is, what a row of a text lays. Plain lists of codes; no program here. -/
namespace Bh
open PySem PySem.Spec PyProof.Rows L2
open TL

/-! ### codes below 128 -/
theorem dig_small : ∀ c : Nat, c < 128 → Unicode.isDigit c = (decide (48 ≤ c) && decide (c ≤ 57)) := by decide +kernel
theorem alp_small : ∀ c : Nat, c < 128 → Unicode.isAlpha c = ((decide (65 ≤ c) && decide (c ≤ 90)) || (decide (97 ≤ c) && decide (c ≤ 122))) := by decide +kernel
theorem low_small : ∀ c : Nat, c < 128 → Unicode.isLower c = (decide (97 ≤ c) && decide (c ≤ 122)) := by decide +kernel
theorem upp_small : ∀ c : Nat, c < 128 → Unicode.isUpper c = (decide (65 ≤ c) && decide (c ≤ 90)) := by decide +kernel
theorem tit_small : ∀ c : Nat, c < 128 → Unicode.isTitle c = false := by decide +kernel

/-- a text by its codes -/
def sS (l : List Nat) : Str := ⟨l.toArray⟩
theorem tl_sS (l : List Nat) : tl (sS l) = l := rfl
theorem sS_tl (x : Str) : sS (tl x) = x := mk_tl x
theorem sS_inj {l m : List Nat} (h : sS l = sS m) : l = m := by
  have e := congrArg tl h
  exact e
theorem eq_sS {x : Str} {l : List Nat} (h : tl x = l) : x = sS l := by
  rw [← h]
  exact (mk_tl x).symm
theorem len_sS (l : List Nat) : (sS l).length = l.length := by
  rw [len_tl, tl_sS]
theorem all_tl (x : Str) (f : Nat → Bool) : x.cps.all f = (tl x).all f := by
  show x.cps.all f = x.cps.toList.all f
  simp
theorem any_tl (x : Str) (f : Nat → Bool) : x.cps.any f = (tl x).any f := by
  show x.cps.any f = x.cps.toList.any f
  simp

def digB (c : Nat) : Bool := decide (48 ≤ c) && decide (c ≤ 57)
def lowB (c : Nat) : Bool := decide (97 ≤ c) && decide (c ≤ 122)

/-- isascii and isdigit, together -/
theorem asc_dig (x : Str) : (Txt.isascii x && Txt.isdigit x) = (!(tl x).isEmpty && (tl x).all digB) := by
  unfold Txt.isascii Txt.isdigit
  rw [all_tl, all_tl, len_tl]
  generalize tl x = l
  cases l with
  | nil => rfl
  | cons a r =>
    have e : ∀ m : List Nat, (m.all (· < 128) && m.all Unicode.isDigit) = m.all digB := by
      intro m
      induction m with
      | nil => rfl
      | cons c t ih =>
        simp only [List.all_cons]
        rw [← ih]
        by_cases hc : c < 128
        · rw [dig_small c hc]
          unfold digB
          simp [hc]
          cases decide (48 ≤ c) <;> cases decide (c ≤ 57) <;> simp
        · have : digB c = false := by
            unfold digB
            simp
            omega
          rw [this]
          simp [hc]
    rw [← e]
    simp
theorem asc_low (x : Str) : (Txt.isascii x && (Txt.isalpha x && Txt.islower x)) = (!(tl x).isEmpty && (tl x).all lowB) := by
  unfold Txt.isascii Txt.isalpha Txt.islower
  rw [all_tl, all_tl, any_tl, any_tl, len_tl]
  generalize tl x = l
  by_cases ha : l.all (· < 128) = true
  · have hc : ∀ c ∈ l, c < 128 := by simpa [List.all_eq_true] using ha
    rw [ha, Bool.true_and]
    have e1 : l.all Unicode.isAlpha = l.all (fun c => (decide (65 ≤ c) && decide (c ≤ 90)) || lowB c) := by
      rw [Bool.eq_iff_iff, List.all_eq_true, List.all_eq_true]
      constructor <;> intro h c hm <;> have := h c hm <;> rw [alp_small c (hc c hm)] at * <;> exact this
    have e2 : l.any Unicode.isLower = l.any lowB := by
      rw [Bool.eq_iff_iff, List.any_eq_true, List.any_eq_true]
      constructor <;> rintro ⟨c, hm, h⟩ <;> refine ⟨c, hm, ?_⟩ <;> rw [low_small c (hc c hm)] at * <;> exact h
    have e3 : (l.any fun c => Unicode.isUpper c || Unicode.isTitle c) = l.any fun c => decide (65 ≤ c) && decide (c ≤ 90) := by
      rw [Bool.eq_iff_iff, List.any_eq_true, List.any_eq_true]
      constructor <;> rintro ⟨c, hm, h⟩ <;> refine ⟨c, hm, ?_⟩ <;> rw [upp_small c (hc c hm), tit_small c (hc c hm), Bool.or_false] at * <;> exact h
    rw [e1, e2, e3]
    cases l with
    | nil => rfl
    | cons a r =>
      rw [Bool.eq_iff_iff]
      simp only [List.isEmpty_cons, Bool.not_false, Bool.true_and, Bool.and_eq_true, List.all_eq_true, List.any_eq_true, Bool.not_eq_true', List.any_eq_false]
      constructor
      · rintro ⟨⟨_, h1⟩, _, h3⟩ c hm
        have q := h1 c hm
        have q3 := h3 c hm
        rw [Bool.or_eq_true] at q
        rcases q with q | q
        · exact absurd (Eq.mp (Bool.and_eq_true _ _) q) q3
        · exact q
      · intro h
        refine ⟨⟨by simp, fun c hm => by rw [h c hm]; simp⟩, ⟨a, List.mem_cons_self, h a List.mem_cons_self⟩, fun c hm => ?_⟩
        have := h c hm
        unfold lowB at this
        simp at this ⊢
        omega
  · have hf : l.all (· < 128) = false := by simpa using ha
    rw [hf, Bool.false_and]
    symm
    rw [Bool.and_eq_false_iff]
    right
    rw [← Bool.not_eq_true]
    intro h
    apply ha
    rw [List.all_eq_true] at h ⊢
    intro c hm
    have := h c hm
    unfold lowB at this
    simp at this ⊢
    omega

/-! ### numbers and names of a row -/
/-- what number a part writes -/
def numOf (p : Str) : Option Int :=
  if (!(tl p).isEmpty && (tl p).all digB && decide ((tl p).length ≤ 5)) = true then
    (if ((tl p).head? = some 48 ∧ tl p ≠ [48]) then none else some ((NumText.digitsVal (tl p) : Nat) : Int))
  else none
def isNm (p : Str) : Bool := !(tl p).isEmpty && (tl p).all lowB && decide ((tl p).length ≤ 8)
theorem allDig {l : List Nat} (h : l.all digB = true) : NumText.AllDigits l := by
  intro c hm
  have q := (List.all_eq_true.mp h) c hm
  unfold digB at q
  simp at q
  exact q
theorem numOf_nonneg {p : Str} {n : Int} (h : numOf p = some n) : 0 ≤ n := by
  unfold numOf at h
  split at h
  · split at h
    · cases h
    · cases h
      exact Int.natCast_nonneg _
  · cases h
theorem dv_lt : ∀ (l : List Nat), NumText.AllDigits l → NumText.digitsVal l < 10 ^ l.length := by
  have key : ∀ (l : List Nat) (a : Nat), NumText.AllDigits l → l.foldl (fun acc c => acc * 10 + (c - 48)) a < (a + 1) * 10 ^ l.length := by
    intro l
    induction l with
    | nil => intro a _; simp
    | cons c r ih =>
      intro a h
      have hc : 48 ≤ c ∧ c ≤ 57 := h c List.mem_cons_self
      have q := ih (a * 10 + (c - 48)) (fun d hd => h d (List.mem_cons_of_mem _ hd))
      rw [List.foldl_cons, List.length_cons, Nat.pow_succ]
      refine Nat.lt_of_lt_of_le q ?_
      have : (a * 10 + (c - 48) + 1) ≤ (a + 1) * 10 := by omega
      calc (a * 10 + (c - 48) + 1) * 10 ^ r.length ≤ ((a + 1) * 10) * 10 ^ r.length := Nat.mul_le_mul_right _ this
        _ = (a + 1) * (10 ^ r.length * 10) := by rw [Nat.mul_assoc, Nat.mul_comm 10]
  intro l h
  have := key l 0 h
  simpa [NumText.digitsVal] using this
theorem numOf_lt {p : Str} {n : Int} (h : numOf p = some n) : n < 100000 := by
  unfold numOf at h
  split at h
  · rename_i hc
    split at h
    · cases h
    · cases h
      simp only [Bool.and_eq_true, decide_eq_true_eq] at hc
      have q := dv_lt (tl p) (allDig hc.1.2)
      have q2 : 10 ^ (tl p).length ≤ 10 ^ 5 := Nat.pow_le_pow_right (by decide) hc.2
      omega
  · cases h

/-! ### the ops -/
def opN : List Str := ["mark", "lit", "get", "put", "add", "sub", "and", "xor", "getb", "putb", "tob", "swap", "go", "ifz", "ifn", "call", "ret", "push", "pop", "sleep", "let", "back", "half"]
def opX : List Str := ["lit", "get", "put", "add", "sub", "and", "xor", "getb", "putb", "go", "ifz", "ifn", "call", "let"]
def nmL (op : Nat) : List Nat := tl (opN.getD op Str.empty)
def posN (z : Str) : Nat := opN.findIdx (fun y => y == z)
def wordL (w : Nat) : List Nat := [119, 111, 114, 100, 32] ++ numL w
/-- the row of a word, its codes -/
def rowL (w : Nat) : List Nat :=
  if 23 ≤ w / 1024 then wordL w else
  if opN.getD (w / 1024) Str.empty ∈ opX then nmL (w / 1024) ++ 32 :: numL (w % 1024) else
  if w % 1024 = 0 then nmL (w / 1024) else wordL w
def rowM (w : Nat) : Str := sS (rowL w)

/-! ### the mirror of the sheet -/
structure Sh where
  words : List Int
  names : List (Str × Int)
  uses : List (Int × Int × Str)
def sh0 : Sh := ⟨[], [], []⟩
def layM (w : Int) (m : Int) (s : Sh) : Bool × Sh :=
  if (s.words.length : Int) + m > 512 then (false, s) else (true, { s with words := s.words ++ List.replicate m.toNat w })
def hasN (ns : List (Str × Int)) (x : Str) : Bool := ns.any fun p => p.1 == x
def nameM (x : Str) (s : Sh) : Bool × Sh :=
  if isNm x = false ∨ hasN s.names x = true then (false, s) else (true, { s with names := s.names ++ [(x, (s.words.length : Int))] })
def bareM (x : Str) (s : Sh) : Bool × Sh := if x ∉ opN ∨ x ∈ opX then (false, s) else layM ((posN x : Int) * 1024) 1 s
def worthM (at_ : Int) (base : Int) (p : Str) (most : Int) (s : Sh) : Bool × Sh :=
  if isNm p = true then layM base 1 { s with uses := s.uses ++ [(at_, (s.words.length : Int), p)] } else
  match numOf p with
  | none => (false, s)
  | some n => if n > most then (false, s) else layM (base + n) 1 s
def atM (o : Option Int) (s : Sh) : Bool × Sh := match o with
  | none => (false, s)
  | some n => if n < (s.words.length : Int) then (false, s) else layM 65535 (n - s.words.length) s
def keepM (o : Option Int) (s : Sh) : Bool × Sh := match o with
  | none => (false, s)
  | some n => layM 0 n s
def pairM (at_ : Int) (h p : Str) (s : Sh) : Bool × Sh :=
  if h = "at" then atM (numOf p) s else
  if h = "keep" then keepM (numOf p) s else
  if h = "word" then worthM at_ 0 p 65535 s else
  if h ∈ opX then worthM at_ ((posN h : Int) * 1024) p 1023 s else (false, s)
def takeM (at_ : Int) (row : Str) (s : Sh) : Bool × Sh :=
  if row = "" then (true, s) else
  if Txt.endswith row ":" = true then nameM (cutS row none (some (-1))) s else
  match Txt.split row " " with
  | [_] => bareM row s
  | [a, b] => pairM at_ a b s
  | _ => (false, s)
/-- the rows of a text, one behind the other -/
def runM : Int → List Str → Sh → Option Sh
  | _, [], s => some s
  | i, r :: rs, s => if (takeM i r s).1 = true then runM (i + 1) rs (takeM i r s).2 else none
end Bh

/-! The row of a word is read to the word. -/
namespace Bh
open PySem PySem.Spec PyProof.Rows L2
open TL
theorem ends_colon (x : Str) : Txt.endswith x ":" = true ↔ (tl x).getLast? = some 58 := by
  have e : (":" : Str) = ⟨#[58]⟩ := by decide +kernel
  rw [e]
  have h1 : (⟨#[58]⟩ : Str).length = 1 := rfl
  unfold Txt.endswith
  rw [List.getLast?_eq_getElem?, ← len_tl, Bool.and_eq_true, decide_eq_true_eq, h1]
  have q := PySem.StrLaws.subAt_one x 58 (x.length - 1)
  rw [h1] at q
  constructor
  · rintro ⟨a, b⟩
    exact q.mp ⟨by omega, b⟩
  · intro h
    have z := q.mpr h
    have : (tl x)[x.length - 1]? = some 58 := h
    have hl := (List.getElem?_eq_some_iff.mp this).1
    rw [← len_tl] at hl
    exact ⟨by omega, z.2⟩
theorem sp_tl : tl (" " : Str) = [32] := by decide +kernel
theorem sp_k : (" " : Str).cps.all (· < 256) = true := by decide +kernel
theorem split_two {p r : List Nat} (hp : 32 ∉ p) (hr : 32 ∉ r) : Txt.split (sS (p ++ 32 :: r)) " " = [sS p, sS r] := by
  apply map_tl_inj
  rw [split_spl _ _ (by rw [sp_tl]; exact List.cons_ne_nil _ _) (kind_ok sp_k), sp_tl]
  show spl [32] 0 [] (p ++ ([32] ++ r)) = _
  rw [spl_part1 hp, spl_last1 hr]
  rfl
theorem split_one {p : List Nat} (hp : 32 ∉ p) : Txt.split (sS p) " " = [sS p] := by
  apply map_tl_inj
  rw [split_spl _ _ (by rw [sp_tl]; exact List.cons_ne_nil _ _) (kind_ok sp_k), sp_tl]
  show spl [32] 0 [] p = _
  rw [spl_last1 hp]
  rfl
theorem sS_ne {l m : List Nat} (h : l ≠ m) : sS l ≠ sS m := fun e => h (sS_inj e)
theorem str_sS (x : Str) : x = sS (tl x) := (sS_tl x).symm
/-- a number's first figure -/
theorem numL_head : ∀ n : Nat, 1 ≤ n → ∃ c r, numL n = c :: r ∧ 49 ≤ c := by
  intro n
  induction n using Nat.strongRecOn with
  | _ n ih =>
    intro h1
    by_cases h : n < 10
    · rw [numL_lt h]
      exact ⟨48 + n, [], rfl, by omega⟩
    · obtain ⟨c, r, e, hc⟩ := ih (n / 10) (by omega) (by omega)
      rw [numL_step (by omega), e]
      exact ⟨c, r ++ [48 + n % 10], rfl, hc⟩
theorem numL_zero : numL 0 = [48] := numL_lt (by decide)
theorem numL_all (n : Nat) : (numL n).all digB = true := by
  rw [List.all_eq_true]
  intro c hm
  have q := numL_digits n c hm
  unfold digB
  simp
  exact q
theorem numOf_num {n : Nat} (h : n < 100000) : numOf (sS (numL n)) = some (n : Int) := by
  unfold numOf
  rw [tl_sS, numL_all]
  have hne : (numL n).isEmpty = false := by
    cases e : numL n with
    | nil => exact absurd e (numL_ne n)
    | cons _ _ => rfl
  have hl : (numL n).length ≤ 5 := numL_len (by decide) (by omega)
  rw [hne, decide_eq_true hl]
  rw [if_pos (by rfl), if_neg, numL_val]
  rintro ⟨h1, h2⟩
  by_cases h0 : n = 0
  · rw [h0] at h2
    exact h2 numL_zero
  · obtain ⟨c, r, e, hc⟩ := numL_head n (by omega)
    rw [e] at h1
    have := Option.some.inj h1
    omega
theorem not_nm_num (n : Nat) : isNm (sS (numL n)) = false := by
  unfold isNm
  rw [tl_sS]
  cases e : numL n with
  | nil => exact absurd e (numL_ne n)
  | cons c r =>
    have q := numL_digits n c (by rw [e]; exact List.mem_cons_self)
    have : lowB c = false := by
      unfold lowB
      have : decide (97 ≤ c) = false := decide_eq_false (by omega)
      rw [this]
      rfl
    rw [List.all_cons, this]
    rfl
theorem numL_nosp (n : Nat) : 32 ∉ numL n := numL_free (.inl (by decide))
theorem numL_last (n : Nat) (p : List Nat) : (p ++ numL n).getLast? ≠ some 58 := by
  intro h
  have hne := numL_ne n
  rw [List.getLast?_append] at h
  cases e : (numL n).getLast? with
  | none => exact hne (List.getLast?_eq_none_iff.mp e)
  | some c =>
    rw [e] at h
    have h' : some c = some 58 := h
    have hm := List.mem_of_getLast? e
    rw [Option.some.inj h'] at hm
    exact numL_free (.inr (by decide)) hm
/-- facts of the ops -/
def opOk (op : Nat) : Bool :=
  decide (posN (opN.getD op Str.empty) = op) && decide (opN.getD op Str.empty ∈ opN) && decide (32 ∉ nmL op) && decide (nmL op ≠ []) && decide ((nmL op).getLast? ≠ some 58) &&
    decide (opN.getD op Str.empty ≠ ("at" : Str)) && decide (opN.getD op Str.empty ≠ ("keep" : Str)) && decide (opN.getD op Str.empty ≠ ("word" : Str)) && decide (opN.getD op Str.empty ≠ ("" : Str))
theorem ops_ok : ∀ op : Nat, op < 23 → opOk op = true := by decide +kernel
theorem lay_one {w : Int} {s : Sh} (hl : s.words.length < 512) : layM w 1 s = (true, { s with words := s.words ++ [w] }) := by
  unfold layM
  rw [if_neg (by omega)]
  rfl
theorem take_row {i : Int} {w : Nat} (hw : w ≤ 65535) {s : Sh} (hl : s.words.length < 512) : takeM i (rowM w) s = (true, { s with words := s.words ++ [(w : Int)] }) := by
  have hword : ∀ s : Sh, s.words.length < 512 → takeM i (sS (wordL w)) s = (true, { s with words := s.words ++ [(w : Int)] }) := fun s hl => by
    have e0 : ("" : Str) = sS [] := by decide +kernel
    unfold takeM
    rw [e0, if_neg (sS_ne (by unfold wordL; simp))]
    rw [if_neg (fun h => numL_last w _ ((ends_colon _).mp h))]
    have e1 : sS (wordL w) = sS ([119, 111, 114, 100] ++ 32 :: numL w) := by
      unfold wordL
      simp
    rw [e1, split_two (by decide) (numL_nosp w)]
    show pairM i (sS [119, 111, 114, 100]) (sS (numL w)) s = _
    unfold pairM
    have n1 : ¬ sS [119, 111, 114, 100] = ("at" : Str) := by decide +kernel
    have n2 : ¬ sS [119, 111, 114, 100] = ("keep" : Str) := by decide +kernel
    have n3 : sS [119, 111, 114, 100] = ("word" : Str) := by decide +kernel
    rw [if_neg n1, if_neg n2, if_pos n3]
    unfold worthM
    rw [not_nm_num, if_neg Bool.false_ne_true, numOf_num (by omega)]
    show (if (w : Int) > 65535 then (false, s) else layM (0 + (w : Int)) 1 s) = _
    rw [if_neg (by omega), lay_one hl, Int.zero_add]
  unfold rowM rowL
  by_cases h23 : 23 ≤ w / 1024
  · rw [if_pos h23]
    exact hword s hl
  rw [if_neg h23]
  have ok := ops_ok (w / 1024) (by omega)
  unfold opOk at ok
  simp only [Bool.and_eq_true, decide_eq_true_eq] at ok
  obtain ⟨⟨⟨⟨⟨⟨⟨⟨o1, o2⟩, o3⟩, o4⟩, o5⟩, o6⟩, o7⟩, o8⟩, o9⟩ := ok
  have enm : sS (nmL (w / 1024)) = opN.getD (w / 1024) Str.empty := sS_tl _
  have e0 : ("" : Str) = sS [] := by decide +kernel
  by_cases hx : opN.getD (w / 1024) Str.empty ∈ opX
  · rw [if_pos hx]
    unfold takeM
    rw [e0, if_neg (sS_ne (by simp)), if_neg (fun h => by
      have q := (ends_colon _).mp h
      rw [tl_sS] at q
      have e : nmL (w / 1024) ++ 32 :: numL (w % 1024) = (nmL (w / 1024) ++ [32]) ++ numL (w % 1024) := by simp
      rw [e] at q
      exact numL_last _ _ q), split_two o3 (numL_nosp _)]
    show pairM i (sS (nmL (w / 1024))) (sS (numL (w % 1024))) s = _
    unfold pairM
    rw [enm, if_neg o6, if_neg o7, if_neg o8, if_pos hx, o1]
    unfold worthM
    rw [not_nm_num, if_neg Bool.false_ne_true, numOf_num (by omega)]
    show (if ((w % 1024 : Nat) : Int) > 1023 then (false, s) else layM ((((w / 1024 : Nat) : Int)) * 1024 + ((w % 1024 : Nat) : Int)) 1 s) = _
    rw [if_neg (by omega), lay_one hl]
    have : (((w / 1024 : Nat) : Int)) * 1024 + ((w % 1024 : Nat) : Int) = (w : Int) := by omega
    rw [this]
  · rw [if_neg hx]
    by_cases h0 : w % 1024 = 0
    · rw [if_pos h0]
      unfold takeM
      rw [e0, if_neg (sS_ne o4), if_neg (fun h => o5 (by have q := (ends_colon _).mp h; rw [tl_sS] at q; exact q)), split_one o3]
      show bareM (sS (nmL (w / 1024))) s = _
      unfold bareM
      rw [enm, if_neg (fun q => q.elim (fun q => q o2) hx), o1, lay_one hl]
      have : (((w / 1024 : Nat) : Int)) * 1024 = (w : Int) := by omega
      rw [this]
    · rw [if_neg h0]
      exact hword s hl
theorem run_rows : ∀ (ws : List Nat) (i : Int) (s : Sh), (∀ w ∈ ws, w ≤ 65535) → s.words.length + ws.length ≤ 512 → runM i (ws.map rowM) s = some { s with words := s.words ++ ws.map fun w => ((w : Nat) : Int) }
  | [], i, s, _, _ => by
    show some s = _
    rw [List.map_nil, List.append_nil]
  | w :: ws, i, s, h, hl => by
    rw [List.length_cons] at hl
    rw [List.map_cons]
    unfold runM
    rw [take_row (h w List.mem_cons_self) (by omega), if_pos rfl]
    have ih := run_rows ws (i + 1) { s with words := s.words ++ [(w : Int)] } (fun y hy => h y (List.mem_cons_of_mem _ hy)) (by
      show (s.words ++ [(w : Int)]).length + ws.length ≤ 512
      rw [List.length_append, List.length_singleton]
      omega)
    show runM (i + 1) (ws.map rowM) { s with words := s.words ++ [(w : Int)] } = _
    rw [ih]
    simp
end Bh

/-! != of two tuples whose items are the same: flat things, lists, dicts. -/
namespace Bh
open PySem PySem.Spec PyProof.Rows L2 PySem.Calls PySem.SeqAt
open AutoSeq1 (wpAny_loadPart')
open MeetsSeq MeetsSeq2 MeetsSeq3
section
variable {prog : Program} {w : World} {A : Around} {R : Result → Shared → Prop}
theorem tup_ne_body (x y : Addr) (us vs : Array Value) (n1 n2 : Nat) (d1 d2 : Option Addr) (sl1 sl2 : Array (Option Value)) (hsz : us.size = vs.size) {s : Shared}
    (hx : s.heap.get? x = some { cls := .type "tuple", dict := d1, data := .seq us n1, slots := sl1 }) (hy : s.heap.get? y = some { cls := .type "tuple", dict := d2, data := .seq vs n2, slots := sl2 })
    (same : ∀ i (h1 : i < us.size) (h2 : i < vs.size), EqP prog w A.in1 s us[i] vs[i] true) (fin : R (.ok (.ret (.bool false))) s) :
    wpAny (model prog w) A.in1 (Builtin.«tuple.__ne__» ⟨[.ref x, .ref y], []⟩) (GQ.FinOf prog w A R) (fun e s' => R (.error e) s') s := by
  have f2 := AutoSeq1.sub_tuple_tuple
  have hz : (us.toList.zip vs.toList).length = us.size := by simp [hsz]
  obtain ⟨hp, g, d, tk, os⟩ := s
  wp_walk using wpAny_loadPart' hx, wpAny_loadPart' hy, wpAny_forIn_list _ (fun rest acc s' => acc.1 = none ∧ s' = ⟨hp, g, d, tk, os⟩ ∧ ∃ k, k ≤ us.size ∧ rest = (us.toList.zip vs.toList).drop k) _
  case turn =>
    rintro ⟨u, v⟩ rest acc s' ⟨ha, rfl, k, hk, hr⟩
    have hlt : k < (us.toList.zip vs.toList).length := by
      rcases Nat.lt_or_ge k (us.toList.zip vs.toList).length with q | q
      · exact q
      · rw [List.drop_of_length_le q] at hr
        cases hr
    have h1 : k < us.size := hz ▸ hlt
    have h2 : k < vs.size := hsz ▸ h1
    rw [List.drop_eq_getElem_cons hlt] at hr
    obtain ⟨hpair, htail⟩ := List.cons.inj hr
    have e1 : u = us[k] := by
      have q := congrArg Prod.fst hpair
      simpa using q
    have e2 : v = vs[k] := by
      have q := congrArg Prod.snd hpair
      simpa using q
    subst e1 e2
    refine wpAny_bind (same k h1 h2 _ _ ?_)
    wp_walk
    exact ⟨rfl, rfl, k + 1, h1, htail⟩
  case fin =>
    rintro ⟨b1, b2⟩ s' ⟨ha, rfl, k, hk, hr⟩
    simp only at ha
    subst ha
    wp_walk
    simpa [Builtin.Tuple.tupleCompareSizes, hsz] using fin
  case h =>
    exact ⟨rfl, rfl, 0, Nat.zero_le _, rfl⟩
end
section
variable {prog : Program} {w : World} {A : Around} {E : Value → Shared → Prop} {s : Shared}
theorem rc_tup_ne {x y : Addr} {us vs : Array Value} {Q : Value → Shared → Prop} (hx : s.heap.IsTuple x us) (hy : s.heap.IsTuple y vs) (hsz : us.size = vs.size) (hu : A.units < cLine)
    (same : ∀ i (h1 : i < us.size) (h2 : i < vs.size), EqP prog w A.in1 s us[i] vs[i] true) (q : Q (.bool false) s) : wpAny (model prog w) A (richCompare .NotEq (.ref x) (.ref y)) Q E s := by
  obtain ⟨⟨c1, d1, data1, sl1⟩, ho1, hc1, n1, hd1⟩ := id hx
  obtain ⟨⟨c2, d2, data2, sl2⟩, ho2, hc2, n2, hd2⟩ := id hy
  simp only at hc1 hd1 hc2 hd2
  subst hc1 hd1 hc2 hd2
  refine wpAny_richCompare_same_room (op := .NotEq) ⟨_, ho1, rfl⟩ ⟨_, ho2, rfl⟩ F.slot_tuple_ne (GQ.call_here F.slot_tuple_ne ⟨_, ho1, rfl⟩ F.entry_tuple_ne (F.args_tuple_ne_2 _ _) ?_) hu
  exact tup_ne_body (R := wants (fun v s' => v ≠ .notImplemented ∧ Q v s') E) x y us vs n1 n2 d1 d2 sl1 sl2 hsz ho1 ho2 same ⟨(fun z => nomatch z), q⟩
end
section
variable {X : Cx}
/-- t != u, two tuples that are equal: items flat and the same, lists or dicts that are equal -/
def rNeT (K : PySem.W.Frag) : R2 := fun x y H Q => ∃ a b xs ys n, x = .ref a ∧ y = .ref b ∧ SqT K H a xs ∧ SqT K H b ys ∧ n ≤ 60 ∧ Paired (EqV K H n) xs ys ∧ Q (.bl false) H
theorem op_neT (hu : X.A.units + 64 < cLine) : OpR X (compareOp .NotEq) (rNeT X.K) := by
  intro pins s σ H x y v u Q I rx ry h
  obtain ⟨a, b, xs, ys, n, rfl, rfl, ha, hb, hn, hp, q⟩ := h
  cases rx
  cases ry
  obtain ⟨us, r1, p1, _⟩ := I.tuple ha
  obtain ⟨ws, r2, p2, _⟩ := I.tuple hb
  have hl : xs.length = ys.length := Paired.length hp
  have hsz : us.toArray.size = ws.toArray.size := by
    rw [List.size_toArray, List.size_toArray, ← r1.length, ← r2.length]
    exact hl
  refine rc_tup_ne p1 p2 hsz (by omega) (fun i h1 h2 => ?_) ⟨.bl false, H, I, rfl, q⟩
  have k := items_run (fun x y v u hxy rv ru => eqV_run I n X.A.in1 (by show X.A.units + 1 + n < cLine; omega) x y v u hxy rv ru) hp r1 r2 i (by simpa using h1) (by simpa using h2)
  simpa using k
end
end Bh

/-! The program's defs, each with its promise: row_of, listed, number_of, is_name. -/
namespace Bh
open PySem PySem.Spec PyProof.Rows L2
open TL
def topS (i : Nat) : Stmt := PySem.Challenge.pw_boardheld_k02_whole_images_listed.main.body.getD i (.Pass ⟨0, 0, 0, 0⟩)
abbrev sRow : Stmt := topS 14
abbrev sListed : Stmt := topS 15
abbrev sNum : Stmt := topS 16
abbrev sNm : Stmt := topS 17
/-- what the top holds -/
structure Tx (K : PySem.W.Frag) (mg : Str → Option Value) (aN aX C : Addr) : Prop where
  xs : ∃ t, mg "X_SPAN" = some (.int 1024 t)
  fm : ∃ t, mg "FIGURES_MOST" = some (.int 5 t)
  lm : ∃ t, mg "LETTERS_MOST" = some (.int 8 t)
  fe : ∃ t, mg "FLASH_END" = some (.int 512 t)
  wm : ∃ t, mg "WORD_MOST" = some (.int 65535 t)
  er : ∃ t, mg "ERASED" = some (.int 65535 t)
  gN : mg "OP_NAMES" = some (.ref aN)
  vN : ∀ H, SqT K H aN (opN.map V.str)
  tN : ∃ o, K.lookup aN = some o ∧ o.cls = .type "tuple" ∧ o.dict = none
  gX : mg "OPS_WITH_X" = some (.ref aX)
  vX : ∀ H, SqT K H aX (opX.map V.str)
  len : mg "len" = none
  int : mg "int" = none
  enu : mg "enumerate" = none
  cl : Cls K C
  nW : NoAttr K C "words"
  nN : NoAttr K C "names"
  nU : NoAttr K C "uses"
  gC : mg "Sheet" = some (.ref C)
theorem in_strs (z : Str) : ∀ ys : List Str, inV (.str z) (ys.map V.str) = decide (z ∈ ys)
  | [] => rfl
  | y :: ys => by
    have ih := in_strs z ys
    unfold inV at ih ⊢
    rw [List.map_cons, List.any_cons, ih]
    show ((y == z) || decide (z ∈ ys)) = decide (z ∈ y :: ys)
    by_cases e : y = z
    · subst e
      simp
    · have e2 : ¬ z = y := fun q => e q.symm
      have : (y == z) = false := by simpa using e
      rw [this]
      simp [e2]
theorem flat_strs' (ys : List Str) : (ys.map V.str).all flatV = true := by
  rw [List.all_eq_true]
  intro v hv
  obtain ⟨y, _, rfl⟩ := List.mem_map.mp hv
  rfl
theorem num_small {n : Nat} (h : n ≤ 65535) : ((n : Int)).natAbs.log2 < 1920 := by
  have e : ((n : Int)).natAbs = n := rfl
  rw [e]
  by_cases h0 : n = 0
  · subst h0
    decide
  · exact (Nat.log2_lt h0).mpr (Nat.lt_of_le_of_lt h (by decide +kernel))
theorem numL5 {n : Nat} (h : n ≤ 65535) : (numL n).length ≤ 5 := numL_len (by decide) (Nat.lt_of_le_of_lt h (by decide))
theorem fits_small {n : Nat} (h : n ≤ 100000) : n ≤ sizeLine := Nat.le_trans h (by decide)
theorem tl_empty : tl Str.empty = [] := rfl
theorem opN_len : ∀ op : Nat, op < 23 → (opN.getD op Str.empty).length ≤ 5 := by decide +kernel
theorem opN_at : ∀ op : Nat, op < 23 → opN[op]? = some (opN.getD op Str.empty) := by decide +kernel

theorem ifN {c : Bool} {A B : Prop} (h1 : c = false → A) (h2 : c = true → B) : if (!c) = true then A else B := by
  cases c with
  | true => exact h2 rfl
  | false => exact h1 rfl
theorem ifB {c : Bool} {A B : Prop} (h1 : c = true → A) (h2 : c = false → B) : if c = true then A else B := by
  cases c with
  | true => exact h1 rfl
  | false => exact h2 rfl
section
variable {X : Cx}
theorem pgI {x : Str} {n : Int} {t : Tok} {pos : Pos} (hm : X.mg x = some (.int n t)) (hg : Gl X x := by rfl) (hd : (x == ("__debug__" : Str)) = false := by decide) : PE X (.Name x pos) (tC (.int n)) := pe_glob (v := .int n) hg hm ⟨t, rfl⟩ hd
theorem pgR {x : Str} {a : Addr} {pos : Pos} (hm : X.mg x = some (.ref a)) (hg : Gl X x := by rfl) (hd : (x == ("__debug__" : Str)) = false := by decide) : PE X (.Name x pos) (tC (.ref a)) := pe_glob (v := .ref a) hg hm rfl hd
end
section
variable {P : Program} {w : World} {K : PySem.W.Frag} {mg : Str → Option Value} {base : Heap} {aN aX C : Addr}
theorem scRow : FnScope ["word", "op", "x", "name"] ["word"] (defScope sRow) := ⟨rfl, rfl, rfl, by decide +kernel, rfl, by decide +kernel, by decide +kernel⟩
def spRow : Sp := fun vs H Q _ => ∃ n : Nat, vs = [.int n] ∧ n ≤ 65535 ∧ Q (.str (rowM n)) H
theorem wordT {n : Nat} : (Str.empty ++ ("word " : Str) ++ ((toString (n : Int) : String) : Str)) = sS (wordL n) := by
  apply ext_tl
  rw [tl_append, tl_append, tl_num, tl_empty]
  rfl
theorem ok_row {f : Addr} {fd : FuncData} (F : Fun K "row_of" "row_of" sRow f fd) (T : Tx K mg aN aX C) : FnOk P w K mg base CX0 2 f fd ["word"] spRow := by
  obtain ⟨tx, gxs⟩ := T.xs
  refine F.ok scRow (fun vs H Q E h => by obtain ⟨n, rfl, _⟩ := h; rfl) (fun cdv A outer s H vs Q E hr h => ?_)
  obtain ⟨n, rfl, hn, q⟩ := h
  refine ⟨_, pss_cons (ps_set (i := 1) scRow.nd rfl (.inl rfl) (pe_op op_fdiv (pv 0) (pgI gxs)))
    (pss_cons (ps_set (i := 2) scRow.nd rfl (.inl rfl) (pe_op op_mod (pv 0) (pgI gxs)))
    (pss_cons (ps_if (pt_cmpR op_ge (pv 1) (pe_callB call_len (by rfl) T.len PySem.boot_len (pa_cons (pgR T.gN) pa_nil)) (nomark _))
        (pss_one (ps_ret (pe_joined (.cons pe_str (.cons (pe_fmt (pv 0)) .nil))))) pss_nil)
    (pss_cons (ps_set (i := 3) scRow.nd rfl (.inl rfl) (pe_ix ix_tup (pgR T.gN) (pv 1) (fun _ _ => rfl)))
    (pss_cons (ps_if (pt_cmpR op_in_seq (pv 3) (pgR T.gX) (by rfl))
        (pss_one (ps_ret (pe_joined (.cons (pe_fmt (pv 3)) (.cons pe_str (.cons (pe_fmt (pv 2)) .nil)))))) pss_nil)
    (pss_cons (ps_if (pt_cmpR op_eq (pv 2) pe_int (nomark _)) (pss_one (ps_ret (pv 3))) pss_nil)
    (pss_one (ps_ret (pe_joined (.cons pe_str (.cons (pe_fmt (pv 0)) .nil)))))))))), ?_⟩
  have hz := num_small hn
  have hx : n % 1024 ≤ 65535 := by omega
  have hzx := num_small hx
  have hlw : (Str.empty ++ ("word " : Str) ++ ((toString (n : Int) : String) : Str)).length ≤ sizeLine := by
    rw [wordT, len_sS]
    unfold wordL
    rw [List.length_append]
    have := numL5 hn
    exact fits_small (by simp only [List.length_cons, List.length_nil]; omega)
  refine ⟨_, rfl, _, _, rfl, rfl, ⟨by decide, by decide⟩, ?_⟩
  refine ⟨_, rfl, _, _, rfl, rfl, (by show (0 : Int) < 1024; decide), ?_⟩
  refine ⟨_, rfl, _, 23, rfl, .inr ⟨_, T.vN _, rfl⟩, _, _, rfl, rfl, _, rfl, ite2 (fun hb => ?_) (fun hb => ?_)⟩
  · have h23 : 23 ≤ n / 1024 := by
      have := of_decide_eq_true hb
      omega
    refine ⟨_, rfl, by decide, _, rfl, .inr ⟨_, rfl, hz, _, rfl, hlw, ?_⟩⟩
    rw [wordT]
    unfold rowM rowL at q
    rw [if_pos h23] at q
    exact q
  · have h23 : n / 1024 < 23 := by
      have : ¬ ((23 : Nat) : Int) ≤ (n : Int) / 1024 := fun z => hb (decide_eq_true z)
      omega
    have e1 : ((n : Int) / 1024) = ((n / 1024 : Nat) : Int) := by omega
    have e2 : ((n : Int) % 1024) = ((n % 1024 : Nat) : Int) := by omega
    have hat := opN_at _ h23
    have hln := opN_len _ h23
    refine ⟨_, rfl, aN, _, _, .str (opN.getD (n / 1024) Str.empty), rfl, rfl, T.vN _, (by rw [e1]; exact atI_nat (by rw [List.getElem?_map, hat]; rfl)), ?_⟩
    refine ⟨_, rfl, aX, _, rfl, .inr (T.vX _), rfl, flat_strs' _, _, rfl, ?_⟩
    rw [if_neg Bool.false_ne_true, in_strs]
    refine ite2 (fun hi => ?_) (fun hi => ?_)
    · have hi' := of_decide_eq_true hi
      have et : (Str.empty ++ opN.getD (n / 1024) Str.empty ++ (" " : Str) ++ ((toString (((n : Int) % 1024)) : String) : Str)) = sS (nmL (n / 1024) ++ 32 :: numL (n % 1024)) := by
        apply ext_tl
        rw [tl_append, tl_append, tl_append, e2, tl_num, tl_empty]
        simp only [List.nil_append, List.append_assoc]
        rfl
      have hl1 : (Str.empty ++ opN.getD (n / 1024) Str.empty).length ≤ sizeLine := by
        rw [Str.length_append]
        exact fits_small (by show 0 + _ ≤ _; omega)
      have hl2 : (Str.empty ++ opN.getD (n / 1024) Str.empty ++ (" " : Str)).length ≤ sizeLine := by
        rw [Str.length_append, Str.length_append]
        exact fits_small (by show 0 + _ + 1 ≤ _; omega)
      have hl3 : (Str.empty ++ opN.getD (n / 1024) Str.empty ++ (" " : Str) ++ ((toString (((n : Int) % 1024)) : String) : Str)).length ≤ sizeLine := by
        rw [et, len_sS, List.length_append, List.length_cons]
        have := numL5 hx
        have q5 : (nmL (n / 1024)).length = (opN.getD (n / 1024) Str.empty).length := (len_tl _).symm
        exact fits_small (by omega)
      refine ⟨_, rfl, .inl ⟨_, rfl, fits_small (by omega), _, rfl, hl1, _, rfl, hl2, _, rfl, .inr ⟨_, rfl, (by rw [e2]; exact hzx), _, rfl, hl3, ?_⟩⟩⟩
      rw [et]
      unfold rowM rowL at q
      rw [if_neg (by omega), if_pos hi'] at q
      exact q
    · have hi' : ¬ opN.getD (n / 1024) Str.empty ∈ opX := fun z => hi (decide_eq_true z)
      refine ⟨_, rfl, rfl, _, rfl, ite2 (fun h0 => ?_) (fun h0 => ?_)⟩
      · have h0' : n % 1024 = 0 := by
          have z : V.int ((n : Int) % 1024) = V.int 0 := of_decide_eq_true h0
          have z2 := V.int.inj z
          omega
        refine ⟨_, rfl, ?_⟩
        unfold rowM rowL at q
        rw [if_neg (by omega), if_neg hi', if_pos h0'] at q
        unfold nmL at q
        rw [sS_tl] at q
        exact q
      · have h0' : ¬ n % 1024 = 0 := fun z => h0 (decide_eq_true (by
          show V.int ((n : Int) % 1024) = V.int 0
          rw [e2, z]
          rfl))
        refine ⟨_, rfl, by decide, _, rfl, .inr ⟨_, rfl, hz, _, rfl, hlw, ?_⟩⟩
        rw [wordT]
        unfold rowM rowL at q
        rw [if_neg (by omega), if_neg hi', if_neg h0'] at q
        exact q
theorem scListed : FnScope ["image", "word"] ["image"] (defScope sListed) := ⟨rfl, rfl, rfl, by decide +kernel, rfl, by decide +kernel, by decide +kernel⟩
/-- the text of an image, its rows' codes -/
abbrev nV (n : Nat) : V := V.int (n : Int)
def textM (ws : List Nat) : Str := Str.join ("\n" : Str) (ws.map rowM)
def spListed (K : PySem.W.Frag) : Sp := fun vs H Q _ => ∃ (a : Addr) (ws : List Nat), vs = [.ref a] ∧ SqL K H a (ws.map nV) ∧ ws.length ≤ 512 ∧ (∀ n ∈ ws, n ≤ 65535) ∧ ∀ H', Same H H' → Q (.str (textM ws)) H'
theorem same_upd' {H : Hp} {p : Addr} {o : HO} (h : H p = none) : Same H (upd H p o) := fun b x e => by
  rw [upd_ne (ne_of_none e h)]
  exact e
theorem rowL_len {n : Nat} (hn : n ≤ 65535) : (rowL n).length ≤ 12 := by
  have h5 := numL5 hn
  have h5' := numL5 (show n % 1024 ≤ 65535 by omega)
  unfold rowL
  split
  · unfold wordL
    simp only [List.length_append, List.length_cons, List.length_nil]
    omega
  · have h23 : n / 1024 < 23 := by omega
    have hln := opN_len _ h23
    rw [len_tl] at hln
    split
    · rw [List.length_append, List.length_cons]
      unfold nmL
      omega
    · split
      · unfold nmL
        omega
      · unfold wordL
        simp only [List.length_append, List.length_cons, List.length_nil]
        omega
theorem sum_le_mul {α : Type} (f : α → Nat) (c : Nat) : ∀ (l : List α), (∀ x ∈ l, f x ≤ c) → (l.map f).sum ≤ l.length * c
  | [], _ => by simp
  | x :: r, h => by
    have ih := sum_le_mul f c r fun y hy => h y (List.mem_cons_of_mem _ hy)
    have hx := h x List.mem_cons_self
    rw [List.map_cons, List.sum_cons, List.length_cons, Nat.succ_mul]
    omega
theorem ok_listed {f fR : Addr} {fd fdR : FuncData} (F : Fun K "listed" "listed" sListed f fd) (T : Tx K mg aN aX C) (FR : Fun K "row_of" "row_of" sRow fR fdR) (bR : Binds K fdR ["word"] []) (gR : mg "row_of" = some (.ref fR)) :
    FnOk P w K mg base CX0 3 f fd ["image"] (spListed K) := by
  have GR : FnOk P w K mg base CX0 2 fR fdR ["word"] spRow := ok_row FR T
  refine F.ok scListed (fun vs H Q E h => by obtain ⟨a, ws, rfl, _⟩ := h; rfl) (fun cdv A outer s H vs Q E hr h => ?_)
  obtain ⟨a, ws, rfl, hS, hlen, hw, q⟩ := h
  refine ⟨_, pss_one (ps_ret (pe_join pe_str (pe_lc (own := [("word", 1)]) (g := gName 1) (tt := tYes) (by rfl) scListed.nd (pi_list (pv 0)) (blkOk_by (own := [("word", 1)]) (N := ["image", "word"]) (sc := defScope sListed) (by decide +kernel))
    (fun _ _ _ _ _ => pg_name (i := 1) scListed.nd rfl (Or.inl rfl)) (fun _ _ _ _ _ => pts_nil) (fun _ _ _ _ _ => pe_call GR hr (by rfl) gR FR.kp bR .nil pass0 (pa_cons (pv 1) pa_nil))))), ?_⟩
  refine ⟨⟨_, rfl⟩, _, rfl, a, rfl, ⟨_, hS⟩, fun D nD => ?_⟩
  refine lc_list (K := K) (a := a) (xs := ws.map nV) (fun i H' => Same H H' ∧ H' D = some (.lst ((ws.take i).map fun n => V.str (rowM n)))) ⟨same_upd' nD, by rw [upd_same]; rfl⟩ (fun i H' _ h => h.1.seq hS) ?_ ?_
  · intro i x H' hi hP
    obtain ⟨sm, hD⟩ := hP
    obtain ⟨n, hn, rfl⟩ : ∃ n, ws[i]? = some n ∧ nV n = x := by
      rw [List.getElem?_map] at hi
      cases e : ws[i]? with
      | none => rw [e] at hi; cases hi
      | some n => rw [e] at hi; exact ⟨n, rfl, Option.some.inj hi⟩
    have hm : n ∈ ws := List.mem_of_getElem? hn
    have hil : i < ws.length := (List.getElem?_eq_some_iff.mp hn).1
    refine ⟨rfl, ?_⟩
    refine ⟨_, rfl, n, rfl, hw n hm, _, hD, ?_, fun b o e => ?_, ?_⟩
    · rw [List.length_map, List.length_take]
      exact Nat.lt_of_le_of_lt (Nat.min_le_left _ _) (small1000 (by omega))
    · rw [upd_ne (ne_of_none e nD)]
      exact sm _ _ e
    · rw [upd_same, List.take_add_one, hn, List.map_append]
      rfl
  · intro H' hP
    obtain ⟨sm, hD⟩ := hP
    rw [List.length_map, List.take_length] at hD
    refine ⟨_, D, ws.map rowM, rfl, rfl, .inl (.inl (.inl (by rw [List.map_map]; exact hD))), ?_, ?_⟩
    · have h1 := sum_le_mul (fun n => (rowM n).length) 12 ws (fun n hm => by
        show (rowM n).length ≤ 12
        unfold rowM
        rw [len_sS]
        exact rowL_len (hw n hm))
      rw [List.map_map, List.length_map]
      have e1 : ((·.length) ∘ rowM : Nat → Nat) = fun n => (rowM n).length := rfl
      rw [e1]
      have e2 : (("\n" : Str)).length = 1 := rfl
      rw [e2]
      omega
    · rw [join_eq]
      exact q H' sm
abbrev sFig : Stmt := topS 10
theorem scFig : FnScope ["part", "most"] ["part", "most"] (defScope sFig) := ⟨rfl, rfl, rfl, by decide +kernel, rfl, by decide +kernel, by decide +kernel⟩
theorem scNum : FnScope ["part"] ["part"] (defScope sNum) := ⟨rfl, rfl, rfl, by decide +kernel, rfl, by decide +kernel, by decide +kernel⟩
def oV : Option Int → V
  | none => .non
  | some n => .int n
def spNum : Sp := fun vs H Q _ => ∃ p : Str, vs = [.str p] ∧ p.length ≤ 100000 ∧ Q (oV (numOf p)) H
def spFig : Sp := fun vs H Q _ => ∃ p : Str, vs = [.str p, .int 5] ∧ p.length ≤ 100000 ∧ Q (oV (numOf p)) H
theorem ok_fig {f : Addr} {fd : FuncData} (F : Fun K "figured" "figured" sFig f fd) (T : Tx K mg aN aX C) : FnOk P w K mg base CX0 1 f fd ["part", "most"] spFig := by
  refine F.ok scFig (fun vs H Q E h => by obtain ⟨n, rfl, _⟩ := h; rfl) (fun cdv A outer s H vs Q E hr h => ?_)
  obtain ⟨p, rfl, hp, q⟩ := h
  refine ⟨_, pss_cons (ps_if (PW.pt (pw_or (pt_not (pt_val (pe_m0 PySem.F.slot_str_isascii PySem.F.type_str_isascii mt_isascii (pv 0))))
      (pw_or (pt_not (pt_val (pe_m0 PySem.F.slot_str_isdigit PySem.F.type_str_isdigit mt_isdigit (pv 0))))
        (pw_or1 (pt_cmpR op_gt (pe_callB call_len_str (by rfl) T.len PySem.boot_len (pa_cons (pv 0) pa_nil)) (pv 1) (nomark _))))))
      (pss_one (ps_ret pe_non)) pss_nil)
    (pss_cons (ps_if (PW.pt (pw_and (pt_cmpR op_eq (pe_item_str (pv 0) pe_int (fun _ _ => rfl)) pe_str (nomark _)) (pw_and1 (pt_cmpR op_ne (pv 0) pe_str (nomark _)))))
      (pss_one (ps_ret pe_non)) pss_nil)
    (pss_one (ps_ret (pe_callTy call_int_str (by rfl) T.int (by decide +kernel) (pa_cons (pv 0) pa_nil))))), ?_⟩
  have hline : p.length ≤ sizeLine := fits_small hp
  unfold numOf at q
  have key := asc_dig p
  have e5 : (decide ((5 : Int) < (p.length : Int))) = !decide ((tl p).length ≤ 5) := by
    rw [← len_tl]
    by_cases z : p.length ≤ 5
    · rw [decide_eq_true z]
      exact decide_eq_false (by omega)
    · rw [decide_eq_false z]
      exact decide_eq_true (by omega)
  have bad : ∀ {B : Prop}, (!(tl p).isEmpty && (tl p).all digB && decide ((tl p).length ≤ 5)) = false → Q .non H := fun h => by
    rw [h, if_neg Bool.false_ne_true] at q
    exact q
  refine ⟨_, rfl, ⟨_, rfl⟩, _, rfl, rfl, trivial, _, rfl, ifN (fun ha => ?_) (fun ha => ?_)⟩
  · exact bad (B := True) (by rw [← key, ha] <;> rfl)
  refine ⟨_, rfl, ⟨_, rfl⟩, _, rfl, rfl, trivial, _, rfl, ifN (fun hd => ?_) (fun hd => ?_)⟩
  · exact bad (B := True) (by rw [← key, hd, Bool.and_false] <;> rfl)
  refine ⟨_, rfl, _, rfl, hline, _, rfl, _, _, rfl, rfl, _, rfl, ?_⟩
  rw [ha, hd] at key
  have key2 : (!(tl p).isEmpty && (tl p).all digB) = true := key.symm
  refine ifB (fun h5 => ?_) (fun h5 => ?_)
  · refine bad (B := True) ?_
    rw [key2, Bool.true_and]
    have h5' := of_decide_eq_true h5
    rw [len_tl] at h5'
    exact decide_eq_false (by omega)
  have h5' : (tl p).length ≤ 5 := by
    have z := of_decide_eq_false h5
    rw [len_tl] at z
    omega
  rw [key2, Bool.true_and, decide_eq_true h5', if_pos rfl] at q
  rw [Bool.and_eq_true] at key2
  obtain ⟨c, r, hl⟩ : ∃ c r, tl p = c :: r := by
    cases e : tl p with
    | nil => rw [e] at key2; exact absurd key2.1 (by decide)
    | cons c r => exact ⟨c, r, rfl⟩
  have h0 : p.cps[0]? = some c := by
    have : p.cps.toList[0]? = some c := by
      show (tl p)[0]? = some c
      rw [hl]
      rfl
    simpa using this
  have hpl : 0 < p.length := by
    rw [len_tl, hl]
    exact Nat.succ_pos _
  have hint : intText? p = some ((NumText.digitsVal (tl p) : Nat) : Int) := PySem.intText_digits (allDig key2.2) (by
    show tl p ≠ []
    rw [hl]
    exact List.cons_ne_nil _ _) (by rw [len_tl]; omega)
  refine ⟨_, rfl, _, 0, c, rfl, rfl, by decide, by decide, by omega, h0, rfl, _, rfl, ?_⟩
  refine ifB (fun hc => ?_) (fun hc => ?_)
  · have hc' : c = 48 := by
      have z : V.str ⟨#[c]⟩ = V.str ("0" : Str) := of_decide_eq_true hc
      have z2 := congrArg tl (V.str.inj z)
      have z3 : [c] = [48] := z2
      exact List.head_eq_of_cons_eq z3
    refine ⟨_, rfl, rfl, _, rfl, ifN (fun hz => ?_) (fun hz => ?_)⟩
    · have hz' : ¬ p = ("0" : Str) := fun z => by
        have := of_decide_eq_false hz
        exact this (by rw [z])
      have hne : tl p ≠ [48] := fun z => hz' (ext_tl z)
      rw [if_pos ⟨by rw [hl, hc'] <;> rfl, hne⟩] at q
      exact q
    · have hz' : p = ("0" : Str) := V.str.inj (of_decide_eq_true hz)
      have hne : tl p = [48] := congrArg tl hz'
      rw [if_neg (fun z => z.2 hne)] at q
      exact ⟨_, rfl, _, _, rfl, hint, by rw [len_tl]; omega, q⟩
  · have hc' : ¬ c = 48 := fun z => by
      have := of_decide_eq_false hc
      exact this (by rw [z] <;> rfl)
    rw [if_neg (fun z => by
      have z1 := z.1
      rw [hl] at z1
      exact hc' (Option.some.inj z1))] at q
    exact ⟨_, rfl, _, _, rfl, hint, by rw [len_tl]; omega, q⟩
theorem ok_num {f fF : Addr} {fd fdF : FuncData} (F : Fun K "number_of" "number_of" sNum f fd) (T : Tx K mg aN aX C) (FF : Fun K "figured" "figured" sFig fF fdF) (bF : Binds K fdF ["part", "most"] []) (gF : mg "figured" = some (.ref fF)) : FnOk P w K mg base CX0 2 f fd ["part"] spNum := by
  obtain ⟨tf, gf⟩ := T.fm
  refine F.ok scNum (fun vs H Q E h => by obtain ⟨n, rfl, _⟩ := h; rfl) (fun cdv A outer s H vs Q E hr h => ?_)
  obtain ⟨p, rfl, hp, q⟩ := h
  refine ⟨_, pss_one (ps_ret (pe_call (ok_fig FF T) hr (by rfl) gF FF.kp bF .nil pass0 (pa_cons (pv 0) (pa_cons (pgI gf) pa_nil)))), ?_⟩
  exact ⟨_, rfl, p, rfl, hp, q⟩
theorem scNm : FnScope ["part"] ["part"] (defScope sNm) := ⟨rfl, rfl, rfl, by decide +kernel, rfl, by decide +kernel, by decide +kernel⟩
def spNm : Sp := fun vs H Q _ => ∃ p : Str, vs = [.str p] ∧ p.length ≤ 100000 ∧ Q (.bl (isNm p)) H
theorem ok_nm {f : Addr} {fd : FuncData} (F : Fun K "is_name" "is_name" sNm f fd) (T : Tx K mg aN aX C) : FnOk P w K mg base CX0 2 f fd ["part"] spNm := by
  obtain ⟨tf, gf⟩ := T.lm
  refine F.ok scNm (fun vs H Q E h => by obtain ⟨n, rfl, _⟩ := h; rfl) (fun cdv A outer s H vs Q E hr h => ?_)
  obtain ⟨p, rfl, hp, q⟩ := h
  refine ⟨_, pss_one (ps_ret (pe_and (pe_m0 PySem.F.slot_str_isascii PySem.F.type_str_isascii mt_isascii (pv 0))
      (pe_and (pe_m0 PySem.F.slot_str_isalpha PySem.F.type_str_isalpha mt_isalpha (pv 0))
      (pe_and (pe_m0 PySem.F.slot_str_islower PySem.F.type_str_islower mt_islower (pv 0))
        (pe_one (pe_cmpR op_le (pe_callB call_len_str (by rfl) T.len PySem.boot_len (pa_cons (pv 0) pa_nil)) (pgI gf) (nomark _))))))), ?_⟩
  have hline : p.length ≤ sizeLine := fits_small hp
  have key := asc_low p
  unfold isNm at q
  rw [← key] at q
  refine ⟨_, rfl, ⟨_, rfl⟩, _, rfl, rfl, trivial, _, rfl, ifB (fun ha => ?_) (fun ha => ?_)⟩
  · rw [ha] at q
    refine ⟨_, rfl, ⟨_, rfl⟩, _, rfl, rfl, trivial, _, rfl, ifB (fun hb => ?_) (fun hb => ?_)⟩
    · rw [hb] at q
      refine ⟨_, rfl, ⟨_, rfl⟩, _, rfl, rfl, trivial, _, rfl, ifB (fun hc => ?_) (fun hc => ?_)⟩
      · rw [hc] at q
        refine ⟨_, rfl, _, rfl, hline, _, _, rfl, rfl, ?_⟩
        have e : (true && (true && true) && decide ((tl p).length ≤ 8)) = decide ((p.length : Int) ≤ 8) := by
          rw [Bool.true_and, Bool.true_and, Bool.true_and, ← len_tl]
          by_cases z : p.length ≤ 8
          · rw [decide_eq_true z]
            exact (decide_eq_true (by omega)).symm
          · rw [decide_eq_false z]
            exact (decide_eq_false (by omega)).symm
        rw [e] at q
        exact q
      · rw [hc] at q
        exact q
    · rw [hb] at q
      exact q
  · rw [ha] at q
    exact q
end
end Bh

/-! The sheet: its object, its methods. -/
namespace Bh
open PySem PySem.Spec PyProof.Rows L2
open TL
abbrev sInit : Stmt := inClass (topS 18) 0
abbrev sTake : Stmt := inClass (topS 18) 1
abbrev sTName : Stmt := inClass (topS 18) 2
abbrev sTBare : Stmt := inClass (topS 18) 3
abbrev sTPair : Stmt := inClass (topS 18) 4
abbrev sTAt : Stmt := inClass (topS 18) 5
abbrev sTKeep : Stmt := inClass (topS 18) 6
abbrev sTWorth : Stmt := inClass (topS 18) 7
abbrev sLay : Stmt := inClass (topS 18) 8
abbrev sPut : Stmt := inClass (topS 18) 9
abbrev sTyped : Stmt := topS 19
/-! ### the fields -/
theorem wn_ : ¬ (("words" : Str) = "names") := by decide +kernel
theorem wu_ : ¬ (("words" : Str) = "uses") := by decide +kernel
theorem nu_ : ¬ (("names" : Str) = "uses") := by decide +kernel
theorem nw_ : ¬ (("names" : Str) = "words") := by decide +kernel
theorem uw_ : ¬ (("uses" : Str) = "words") := by decide +kernel
theorem un_ : ¬ (("uses" : Str) = "names") := by decide +kernel
def shF (a b c : Addr) : List (Str × V) := putF "uses" (.ref c) (putF "names" (.ref b) (putF "words" (.ref a) []))
theorem shF_w (a b c : Addr) : (shF a b c).lookup ("words" : Str) = some (.ref a) := by
  unfold shF
  rw [lookup_putF, if_neg wu_, lookup_putF, if_neg wn_, lookup_putF, if_pos rfl]
theorem shF_n (a b c : Addr) : (shF a b c).lookup ("names" : Str) = some (.ref b) := by
  unfold shF
  rw [lookup_putF, if_neg nu_, lookup_putF, if_pos rfl]
theorem shF_u (a b c : Addr) : (shF a b c).lookup ("uses" : Str) = some (.ref c) := by
  unfold shF
  rw [lookup_putF, if_pos rfl]
theorem shF_no (a b c : Addr) {m : Str} (h1 : ¬ m = "words") (h2 : ¬ m = "names") (h3 : ¬ m = "uses") : (shF a b c).lookup m = none := by
  unfold shF
  rw [lookup_putF, if_neg h3, lookup_putF, if_neg h2, lookup_putF, if_neg h1]
  rfl
def nmK (ns : List (Str × Int)) : List (Key × V) := ns.map fun p => ((Sum.inr p.1 : Key), V.int p.2)
theorem valV_nmK (x : Str) : ∀ ns : List (Str × Int), (valV (nmK ns) (Sum.inr x)).isSome = hasN ns x
  | [] => rfl
  | (y, n) :: r => by
    have ih := valV_nmK x r
    unfold nmK hasN at ih ⊢
    rw [List.map_cons, List.any_cons]
    by_cases e : y = x
    · subst e
      rw [valV_pos rfl]
      simp
    · have e1 : ¬ ((Sum.inr y : Key) = Sum.inr x) := fun z => e (Sum.inr.inj z)
      rw [valV_neg e1, ih]
      have e2 : (y == x) = false := by simpa using e
      rw [e2, Bool.false_or]
theorem putK_nmK {ns : List (Str × Int)} {x : Str} {n : Int} (h : hasN ns x = false) : putK (nmK ns) (Sum.inr x) (.int n) = nmK (ns ++ [(x, n)]) := by
  have e : valV (nmK ns) (Sum.inr x) = none := by
    have q := valV_nmK x ns
    rw [h] at q
    cases z : valV (nmK ns) (Sum.inr x) with
    | none => rfl
    | some y => rw [z] at q; cases q
  rw [putK_new _ e]
  unfold nmK
  rw [List.map_append]
  rfl
theorem nmK_len (ns : List (Str × Int)) : (nmK ns).length = ns.length := List.length_map ..
/-! ### the sheet in the heap -/
def useT (u : Int × Int × Str) : HO := .tup [.int u.1, .int u.2.1, .str u.2.2]
def UsesAt (H : Hp) : List V → List (Int × Int × Str) → Prop := Paired fun v u => ∃ t, v = .ref t ∧ H t = some (useT u)
theorem UsesAt.mono {H H' : Hp} (k : ∀ t xs, H t = some (.tup xs) → H' t = some (.tup xs)) : ∀ {us : List V} {ls : List (Int × Int × Str)}, UsesAt H us ls → UsesAt H' us ls
  | _, _, .nil => .nil
  | _, _, .cons h r => .cons (let ⟨t, e, q⟩ := h; ⟨t, e, k _ _ q⟩) (UsesAt.mono k r)
theorem UsesAt.snoc {H : Hp} {t : Addr} {u : Int × Int × Str} (ht : H t = some (useT u)) : ∀ {us : List V} {ls : List (Int × Int × Str)}, UsesAt H us ls → UsesAt H (us ++ [.ref t]) (ls ++ [u])
  | _, _, .nil => .cons ⟨t, rfl, ht⟩ .nil
  | _, _, .cons h r => .cons h (UsesAt.snoc ht r)
structure Shp (C : Addr) (H0 H : Hp) (p dx a b c : Addr) (us : List V) (s : Sh) : Prop where
  sm : Same H0 H
  fp : H0 p = none
  fa : H0 a = none
  fb : H0 b = none
  fc : H0 c = none
  hp : H p = some (.ins C dx (shF a b c))
  ha : H a = some (.lst (s.words.map V.int))
  hb : H b = some (.dK (nmK s.names))
  hc : H c = some (.lst us)
  ac : a ≠ c
  hu : UsesAt H us s.uses
  lw : s.words.length ≤ 512
def SheetAt (C : Addr) (H0 H : Hp) (p : Addr) (s : Sh) : Prop := ∃ dx a b c us, Shp C H0 H p dx a b c us s
theorem same_of {H0 H : Hp} {x : Addr} {o : HO} (sm : Same H0 H) (fx : H0 x = none) : Same H0 (upd H x o) := fun b y e => by
  rw [upd_ne (ne_of_none e fx)]
  exact sm _ _ e
section
variable {C : Addr} {H0 H : Hp} {p dx a b c : Addr} {us : List V} {s : Sh}
theorem Shp.pa (h : Shp C H0 H p dx a b c us s) : p ≠ a := ne_of h.hp h.ha (by intro q; cases q)
theorem Shp.pb (h : Shp C H0 H p dx a b c us s) : p ≠ b := ne_of h.hp h.hb (by intro q; cases q)
theorem Shp.pc (h : Shp C H0 H p dx a b c us s) : p ≠ c := ne_of h.hp h.hc (by intro q; cases q)
theorem Shp.ab (h : Shp C H0 H p dx a b c us s) : a ≠ b := ne_of h.ha h.hb (by intro q; cases q)
theorem Shp.bc (h : Shp C H0 H p dx a b c us s) : b ≠ c := ne_of h.hb h.hc (by intro q; cases q)
theorem Shp.words (h : Shp C H0 H p dx a b c us s) (ws : List Int) (hl : ws.length ≤ 512) : Shp C H0 (upd H a (.lst (ws.map V.int))) p dx a b c us { s with words := ws } where
  sm := same_of h.sm h.fa
  fp := h.fp
  fa := h.fa
  fb := h.fb
  fc := h.fc
  hp := by rw [upd_ne h.pa]; exact h.hp
  ha := upd_same
  hb := by rw [upd_ne h.ab.symm]; exact h.hb
  hc := by rw [upd_ne h.ac.symm]; exact h.hc
  ac := h.ac
  hu := h.hu.mono fun t xs e => by rw [upd_ne (ne_of e h.ha (by intro q; cases q))]; exact e
  lw := hl
theorem Shp.named (h : Shp C H0 H p dx a b c us s) (ns : List (Str × Int)) : Shp C H0 (upd H b (.dK (nmK ns))) p dx a b c us { s with names := ns } where
  sm := same_of h.sm h.fb
  fp := h.fp
  fa := h.fa
  fb := h.fb
  fc := h.fc
  hp := by rw [upd_ne h.pb]; exact h.hp
  ha := by rw [upd_ne h.ab]; exact h.ha
  hb := upd_same
  hc := by rw [upd_ne h.bc.symm]; exact h.hc
  ac := h.ac
  hu := h.hu.mono fun t xs e => by rw [upd_ne (ne_of e h.hb (by intro q; cases q))]; exact e
  lw := h.lw
/-- a new object is laid -/
theorem Shp.more (h : Shp C H0 H p dx a b c us s) {x : Addr} {o : HO} (hx : H x = none) : Shp C H0 (upd H x o) p dx a b c us s where
  sm := h.sm.trans (same_upd' hx)
  fp := h.fp
  fa := h.fa
  fb := h.fb
  fc := h.fc
  hp := same_upd' hx _ _ h.hp
  ha := same_upd' hx _ _ h.ha
  hb := same_upd' hx _ _ h.hb
  hc := same_upd' hx _ _ h.hc
  ac := h.ac
  hu := h.hu.mono fun t xs e => same_upd' hx _ _ e
  lw := h.lw
theorem Shp.used (h : Shp C H0 H p dx a b c us s) {t : Addr} {u : Int × Int × Str} (ht : H t = some (useT u)) : Shp C H0 (upd H c (.lst (us ++ [.ref t]))) p dx a b c (us ++ [.ref t]) { s with uses := s.uses ++ [u] } where
  sm := same_of h.sm h.fc
  fp := h.fp
  fa := h.fa
  fb := h.fb
  fc := h.fc
  hp := by rw [upd_ne h.pc]; exact h.hp
  ha := by rw [upd_ne h.ac]; exact h.ha
  hb := by rw [upd_ne h.bc]; exact h.hb
  hc := upd_same
  ac := h.ac
  hu := (UsesAt.snoc ht h.hu).mono fun t xs e => by rw [upd_ne (ne_of e h.hc (by intro q; cases q))]; exact e
  lw := h.lw
theorem UsesAt.len {H : Hp} : ∀ {us : List V} {ls : List (Int × Int × Str)}, UsesAt H us ls → us.length = ls.length
  | _, _, .nil => rfl
  | _, _, .cons _ r => by rw [List.length_cons, List.length_cons, UsesAt.len r]
end
/-! ### the promises -/
def spInit (C : Addr) : Sp := fun vs H Q _ => ∃ (H0 : Hp) (p dx : Addr), vs = [.ref p] ∧ Same H0 H ∧ H0 p = none ∧ H p = some (.ins C dx []) ∧ ∀ H' : Hp, SheetAt C H0 H' p sh0 → Q .non H'
/-- a method that does m : Sh -> Bool x Sh, its arguments as told -/
def spM (C : Addr) (args : List V → Sh → (Bool × Sh) → Prop) : Sp := fun vs H Q _ => ∃ (H0 : Hp) (p : Addr) (s : Sh) (vs' : List V) (r : Bool × Sh), vs = .ref p :: vs' ∧ args vs' s r ∧ SheetAt C H0 H p s ∧ ∀ H' : Hp, SheetAt C H0 H' p r.2 → Q (.bl r.1) H'
def aLay (vs : List V) (s : Sh) (r : Bool × Sh) : Prop := ∃ (w m : Int), vs = [.int w, .int m] ∧ 0 ≤ m ∧ m < 100000 ∧ r = layM w m s
section
variable {P : Program} {w : World} {K : PySem.W.Frag} {mg : Str → Option Value} {base : Heap} {aN aX C : Addr}
theorem scInit : FnScope ["self"] ["self"] (defScope sInit) := ⟨rfl, rfl, rfl, by decide +kernel, rfl, by decide +kernel, by decide +kernel⟩
theorem ok_init {f : Addr} {fd : FuncData} (F : Fun K "__init__" "Sheet.__init__" sInit f fd) (T : Tx K mg aN aX C) : FnOk P w K mg base CX0 2 f fd ["self"] (spInit C) := by
  refine F.ok scInit (fun vs H Q E h => by obtain ⟨H0, p, dx, rfl, _⟩ := h; rfl) (fun cdv A outer s H vs Q E hr h => ?_)
  obtain ⟨H0, p, dx, rfl, s0, p0, hp, k⟩ := h
  refine ⟨_, pss_cons (ps_fld (pv 0) (pe_lst pa_nil) rfl) (pss_cons (ps_fld (pv 0) pe_dnewK rfl) (pss_one (ps_fld (pv 0) (pe_lst pa_nil) rfl))), ?_⟩
  refine ⟨Nat.zero_le _, fun a na => ?_⟩
  have pa : p ≠ a := ne_of_none hp na
  refine ⟨_, rfl, p, C, dx, [], rfl, (by rw [upd_ne pa]; exact hp), T.cl, T.nW, (by show 0 < 1000; decide), ?_⟩
  intro b nb
  have pb : p ≠ b := fun q => by rw [q, upd_same] at nb; cases nb
  have nb1 : upd H a (.lst []) b = none := by rw [upd_ne pb.symm] at nb; exact nb
  have ab : a ≠ b := fun q => by rw [q, upd_same] at nb1; cases nb1
  have nb2 : H b = none := by rw [upd_ne ab.symm] at nb1; exact nb1
  refine ⟨_, rfl, p, C, dx, _, rfl, (by rw [upd_ne pb]; exact upd_same), T.cl, T.nN, (by show 1 < 1000; decide), ?_⟩
  refine ⟨Nat.zero_le _, fun c nc => ?_⟩
  have pc : p ≠ c := fun q => by rw [q, upd_same] at nc; cases nc
  have nc1 := nc
  rw [upd_ne pc.symm] at nc1
  have bc : b ≠ c := fun q => by rw [q, upd_same] at nc1; cases nc1
  rw [upd_ne bc.symm, upd_ne pc.symm] at nc1
  have ac : a ≠ c := fun q => by rw [q, upd_same] at nc1; cases nc1
  rw [upd_ne ac.symm] at nc1
  refine ⟨_, rfl, p, C, dx, _, rfl, (by rw [upd_ne pc]; exact upd_same), T.cl, T.nU, (by show 2 < 1000; decide), ?_⟩
  refine k _ ⟨dx, a, b, c, [], ?_⟩
  exact {
    sm := fun z o e => by
      have zp : z ≠ p := ne_of_none e p0
      rw [upd_ne zp, upd_ne (ne_of_none (s0 _ _ e) nc1), upd_ne zp, upd_ne (ne_of_none (s0 _ _ e) nb2), upd_ne zp, upd_ne (ne_of_none (s0 _ _ e) na)]
      exact s0 _ _ e
    fp := p0
    fa := s0.free na
    fb := s0.free nb2
    fc := s0.free nc1
    hp := upd_same
    ha := by rw [upd_ne pa.symm, upd_ne ac, upd_ne pa.symm, upd_ne ab, upd_ne pa.symm, upd_same]; rfl
    hb := by rw [upd_ne pb.symm, upd_ne bc, upd_ne pb.symm, upd_same]; rfl
    hc := by rw [upd_ne pc.symm, upd_same]
    ac := ac
    hu := .nil
    lw := Nat.zero_le _ }
theorem scLay : FnScope ["self", "word", "many"] ["self", "word", "many"] (defScope sLay) := ⟨rfl, rfl, rfl, by decide +kernel, rfl, by decide +kernel, by decide +kernel⟩
theorem ok_lay {f : Addr} {fd : FuncData} (F : Fun K "lay" "Sheet.lay" sLay f fd) (T : Tx K mg aN aX C) : FnOk P w K mg base CX0 2 f fd ["self", "word", "many"] (spM C aLay) := by
  obtain ⟨tf, gf⟩ := T.fe
  refine F.ok scLay (fun vs H Q E h => by obtain ⟨H0, p, s, vs', r, rfl, ⟨w, m, rfl, _⟩, _⟩ := h; rfl) (fun cdv A outer s H vs Q E hr h => ?_)
  obtain ⟨H0, p, z, _, _, rfl, ⟨w, m, rfl, m0, m1, rfl⟩, ⟨dx, a, b, c, us, S⟩, k⟩ := h
  refine ⟨_, pss_cons (ps_if (pt_cmpR op_gt (pe_op op_add (pe_callB call_len_seq (by rfl) T.len PySem.boot_len (pa_cons (pe_fld (pv 0) rfl) pa_nil)) (pv 2)) (pgI gf) (nomark _)) (pss_one (ps_ret pe_bl)) pss_nil)
    (pss_cons (ps_expr (pe_bm PySem.F.plainAttrs_list PySem.F.slot_list_extend PySem.F.type_list_extend mt_extend (pe_fld (pv 0) rfl) (pa_cons (pe_op op_rep (pe_lst (pa_cons (pv 1) pa_nil)) (pv 2)) pa_nil)))
    (pss_one (ps_ret pe_bl))), ?_⟩
  refine ⟨_, rfl, p, C, dx, _, _, rfl, S.hp, T.cl, T.nW, shF_w _ _ _, a, _, rfl, .inl (SqL.of S.ha), _, rfl, _, _, rfl, rfl, _, _, rfl, rfl, _, rfl, ?_⟩
  rw [List.length_map]
  unfold layM at k
  refine ifB (fun h => ?_) (fun h => ?_)
  · have h' : (z.words.length : Int) + m > 512 := of_decide_eq_true h
    rw [if_pos h'] at k
    exact k _ ⟨dx, a, b, c, us, S⟩
  · have h' : ¬ (z.words.length : Int) + m > 512 := of_decide_eq_false h
    rw [if_neg h'] at k
    refine ⟨_, rfl, p, C, dx, _, _, rfl, S.hp, T.cl, T.nW, shF_w _ _ _, .inl ⟨rfl, _, SqL.of S.ha⟩, ?_⟩
    refine ⟨_, rfl, by show 1 ≤ sizeLine; decide, fun l nl => ?_⟩
    have S1 := S.more (o := .lst [.int w]) nl
    refine ⟨_, rfl, l, m, [.int w], rfl, rfl, upd_same, by omega, by omega, (by show 1 * m.toNat ≤ sizeLine; exact fits_small (by omega)), fun q nq => ?_⟩
    have ef : (List.replicate m.toNat [V.int w]).flatten = (List.replicate m.toNat w).map V.int := by
      induction m.toNat with
      | zero => rfl
      | succ n ih => rw [List.replicate_succ, List.flatten_cons, ih, List.replicate_succ, List.map_cons]; rfl
    rw [ef]
    have S2 := S1.more (o := .lst ((List.replicate m.toNat w).map V.int)) nq
    refine ⟨a, q, z.words.map V.int, _, rfl, rfl, S2.ha, upd_same, ?_, ?_⟩
    · rw [List.length_map, List.length_map, List.length_replicate]
      exact fits_small (by omega)
    · rw [← List.map_append]
      exact k _ ⟨dx, a, b, c, us, (S2.words (z.words ++ List.replicate m.toNat w) (by rw [List.length_append, List.length_replicate]; omega))⟩
end
end Bh

/-! The sheet's methods that take a row or a part of one. -/
namespace Bh
open PySem PySem.Spec PyProof.Rows L2
open TL
section
variable (P : Program) (w : World) (K : PySem.W.Frag) (mg : Str → Option Value) (base : Heap)
/-- a def that may be called by its name -/
structure CalF (k : Nat) (nm : Str) (ps : List Str) (sp : Sp) (f : Addr) (fd : FuncData) : Prop where
  g : mg nm = some (.ref f)
  kp : PySem.W.keepIn K (.ref f) = true
  b : Binds K fd ps []
  G : FnOk P w K mg base CX0 k f fd ps sp
structure CalM (C : Addr) (k : Nat) (nm : Str) (ps : List Str) (sp : Sp) (f : Addr) (fd : FuncData) : Prop where
  m : Meth K C nm f
  b : Binds K fd ps []
  G : FnOk P w K mg base CX0 k f fd ps sp
end
def aName (vs : List V) (s : Sh) (r : Bool × Sh) : Prop := ∃ x : Str, vs = [.str x] ∧ x.length ≤ 100000 ∧ s.names.length < 100000 ∧ r = nameM x s
def aBare (vs : List V) (s : Sh) (r : Bool × Sh) : Prop := ∃ x : Str, vs = [.str x] ∧ r = bareM x s
def aAt (vs : List V) (s : Sh) (r : Bool × Sh) : Prop := ∃ o : Option Int, vs = [oV o] ∧ (∀ n, o = some n → 0 ≤ n ∧ n < 100000) ∧ r = atM o s
def aKeep (vs : List V) (s : Sh) (r : Bool × Sh) : Prop := ∃ o : Option Int, vs = [oV o] ∧ (∀ n, o = some n → 0 ≤ n ∧ n < 100000) ∧ r = keepM o s
def aWorth (vs : List V) (s : Sh) (r : Bool × Sh) : Prop := ∃ (i b : Int) (x : Str) (m : Int), vs = [.int i, .int b, .str x, .int m] ∧ x.length ≤ 100000 ∧ s.uses.length < 100000 ∧ r = worthM i b x m s
def aPair (vs : List V) (s : Sh) (r : Bool × Sh) : Prop := ∃ (i : Int) (h x : Str), vs = [.int i, .str h, .str x] ∧ x.length ≤ 100000 ∧ s.uses.length < 100000 ∧ r = pairM i h x s
def aTake (vs : List V) (s : Sh) (r : Bool × Sh) : Prop := ∃ (i : Int) (x : Str), vs = [.int i, .str x] ∧ x.length ≤ 90000 ∧ s.names.length < 100000 ∧ s.uses.length < 100000 ∧ r = takeM i x s
section
variable {P : Program} {w : World} {K : PySem.W.Frag} {mg : Str → Option Value} {base : Heap} {aN aX C : Addr}
theorem no_take {a b c : Addr} : (shF a b c).lookup ("lay" : Str) = none := shF_no _ _ _ (by decide +kernel) (by decide +kernel) (by decide +kernel)
theorem scTName : FnScope ["self", "name"] ["self", "name"] (defScope sTName) := ⟨rfl, rfl, rfl, by decide +kernel, rfl, by decide +kernel, by decide +kernel⟩
theorem ok_tname {f fN : Addr} {fd fdN : FuncData} (F : Fun K "take_name" "Sheet.take_name" sTName f fd) (T : Tx K mg aN aX C) (N : CalF P w K mg base 2 "is_name" ["part"] spNm fN fdN) : FnOk P w K mg base CX0 3 f fd ["self", "name"] (spM C aName) := by
  refine F.ok scTName (fun vs H Q E h => by obtain ⟨H0, p, s, vs', r, rfl, ⟨x, rfl, _⟩, _⟩ := h; rfl) (fun cdv A outer s H vs Q E hr h => ?_)
  obtain ⟨H0, p, z, _, _, rfl, ⟨x, rfl, hx, hn, rfl⟩, ⟨dx, a, b, c, us, S⟩, k⟩ := h
  have hu := hu_of hr
  refine ⟨_, pss_cons (ps_if (PW.pt (pw_or (pt_not (pt_val (pe_call N.G hr (by rfl) N.g N.kp N.b .nil pass0 (pa_cons (pv 1) pa_nil)))) (pw_or1 (pt_cmp (pc_din hu (pv 1) (pe_fld (pv 0) rfl)))))) (pss_one (ps_ret pe_bl)) pss_nil)
    (pss_cons (ps_dput hu (pe_fld (pv 0) rfl) (pv 1) (pe_callB call_len_seq (by rfl) T.len PySem.boot_len (pa_cons (pe_fld (pv 0) rfl) pa_nil)) rfl)
    (pss_one (ps_ret pe_bl))), ?_⟩
  refine ⟨_, rfl, x, rfl, hx, _, rfl, ifN (fun h => ?_) (fun h => ?_)⟩
  · have e : nameM x z = (false, z) := if_pos (Or.inl h)
    rw [e] at k
    exact k _ ⟨dx, a, b, c, us, S⟩
  · refine ⟨_, rfl, _, rfl, p, C, dx, _, _, rfl, S.hp, T.cl, T.nN, shF_n _ _ _, b, _, rfl, DGet.k (k := Sum.inr x) S.hb, _, rfl, ?_⟩
    rw [valV_nmK]
    refine ifB (fun h2 => ?_) (fun h2 => ?_)
    · have e : nameM x z = (false, z) := if_pos (Or.inr h2)
      rw [e] at k
      exact k _ ⟨dx, a, b, c, us, S⟩
    · have e : nameM x z = (true, { z with names := z.names ++ [(x, (z.words.length : Int))] }) := if_neg (fun q => q.elim (fun q => by rw [h] at q; cases q) (fun q => by rw [h2] at q; cases q))
      rw [e] at k
      refine ⟨_, rfl, p, C, dx, _, _, rfl, S.hp, T.cl, T.nW, shF_w _ _ _, a, _, rfl, .inl (SqL.of S.ha), ?_⟩
      refine ⟨_, rfl, p, C, dx, _, _, rfl, S.hp, T.cl, T.nN, shF_n _ _ _, _, rfl, b, _, rfl, DPut.k (k := Sum.inr x) S.hb (by rw [nmK_len]; exact Nat.lt_of_lt_of_le hn (by decide)), ?_⟩
      rw [List.length_map, putK_nmK h2]
      exact k _ ⟨dx, a, b, c, us, S.named _⟩
theorem posN_at {z : Str} (h : z ∈ opN) : opN[posN z]? = some z ∧ ∀ m, m < posN z → opN[m]? ≠ some z := by
  have hlt : posN z < opN.length := List.findIdx_lt_length_of_exists ⟨z, h, by simp⟩
  refine ⟨?_, fun m hm e => ?_⟩
  · have q := List.findIdx_getElem (xs := opN) (p := fun y => y == z) (w := hlt)
    rw [List.getElem?_eq_getElem hlt]
    exact congrArg some (eq_of_beq q)
  · have q := List.not_of_lt_findIdx (xs := opN) (p := fun y => y == z) hm
    obtain ⟨hl, e'⟩ := List.getElem?_eq_some_iff.mp e
    rw [e'] at q
    simp at q
theorem posN_lt {z : Str} (h : z ∈ opN) : posN z < 23 := List.findIdx_lt_length_of_exists ⟨z, h, by simp⟩
theorem scTBare : FnScope ["self", "op"] ["self", "op"] (defScope sTBare) := ⟨rfl, rfl, rfl, by decide +kernel, rfl, by decide +kernel, by decide +kernel⟩
theorem ok_tbare {f fL : Addr} {fd fdL : FuncData} (F : Fun K "take_bare" "Sheet.take_bare" sTBare f fd) (T : Tx K mg aN aX C) (L : CalM P w K mg base C 2 "lay" ["self", "word", "many"] (spM C aLay) fL fdL) : FnOk P w K mg base CX0 3 f fd ["self", "op"] (spM C aBare) := by
  obtain ⟨tx, gxs⟩ := T.xs
  refine F.ok scTBare (fun vs H Q E h => by obtain ⟨H0, p, s, vs', r, rfl, ⟨x, rfl, _⟩, _⟩ := h; rfl) (fun cdv A outer s H vs Q E hr h => ?_)
  obtain ⟨H0, p, z, _, _, rfl, ⟨x, rfl, rfl⟩, ⟨dx, a, b, c, us, S⟩, k⟩ := h
  have hu := hu_of hr
  refine ⟨_, pss_cons (ps_if (PW.pt (pw_or (pt_cmpR op_notIn_seq (pv 1) (pgR T.gN) (by rfl)) (pw_or1 (pt_cmpR op_in_seq (pv 1) (pgR T.gX) (by rfl))))) (pss_one (ps_ret pe_bl)) pss_nil)
    (pss_one (ps_ret (pe_meth (pv 0) T.cl L.m L.G hr L.b .nil pass0 (pa_cons (pe_op op_mul (pe_bm PySem.F.plainAttrs_tuple PySem.F.slot_tuple_index PySem.F.type_tuple_index mt_tup_index (pgR T.gN) (pa_cons (pv 1) pa_nil)) (pgI gxs)) (pa_cons pe_int pa_nil))))), ?_⟩
  have ef : ∀ {B : Prop}, (x ∉ opN ∨ x ∈ opX) → Q (.bl false) H := fun h => by
    have e : bareM x z = (false, z) := if_pos h
    rw [e] at k
    exact k _ ⟨dx, a, b, c, us, S⟩
  refine ⟨_, rfl, aN, _, rfl, .inr (T.vN _), rfl, flat_strs' _, _, rfl, ?_⟩
  rw [if_pos rfl, in_strs]
  refine ifN (fun h => ?_) (fun h => ?_)
  · exact ef (B := True) (.inl (of_decide_eq_false h))
  · have hm : x ∈ opN := of_decide_eq_true h
    refine ⟨_, rfl, aX, _, rfl, .inr (T.vX _), rfl, flat_strs' _, _, rfl, ?_⟩
    rw [if_neg Bool.false_ne_true, in_strs]
    refine ifB (fun h2 => ?_) (fun h2 => ?_)
    · exact ef (B := True) (.inr (of_decide_eq_true h2))
    · have hx2 : ¬ x ∈ opX := of_decide_eq_false h2
      have e : bareM x z = layM ((posN x : Int) * 1024) 1 z := if_neg (fun q => q.elim (fun q => q hm) hx2)
      rw [e] at k
      obtain ⟨oN, l1, l2, l3⟩ := T.tN
      refine ⟨_, rfl, p, dx, _, rfl, S.hp, no_take, .inr (.inl ⟨rfl, oN, l1, l2, l3⟩), _, rfl, aN, opN, x, posN x, rfl, rfl, T.vN _, (posN_at hm).1, (posN_at hm).2, _, _, rfl, rfl, .inl ?_, ?_⟩
      · have := posN_lt hm
        exact ⟨by omega, by omega⟩
      · exact ⟨H0, p, z, _, _, rfl, ⟨_, 1, rfl, by decide, by decide, rfl⟩, ⟨dx, a, b, c, us, S⟩, k⟩
theorem scTAt : FnScope ["self", "address"] ["self", "address"] (defScope sTAt) := ⟨rfl, rfl, rfl, by decide +kernel, rfl, by decide +kernel, by decide +kernel⟩
theorem ok_tat {f fL : Addr} {fd fdL : FuncData} (F : Fun K "take_at" "Sheet.take_at" sTAt f fd) (T : Tx K mg aN aX C) (L : CalM P w K mg base C 2 "lay" ["self", "word", "many"] (spM C aLay) fL fdL) : FnOk P w K mg base CX0 3 f fd ["self", "address"] (spM C aAt) := by
  obtain ⟨tx, gxs⟩ := T.er
  refine F.ok scTAt (fun vs H Q E h => by obtain ⟨H0, p, s, vs', r, rfl, ⟨x, rfl, _⟩, _⟩ := h; rfl) (fun cdv A outer s H vs Q E hr h => ?_)
  obtain ⟨H0, p, z, _, _, rfl, ⟨o, rfl, hb, rfl⟩, ⟨dx, a, b, c, us, S⟩, k⟩ := h
  refine ⟨_, pss_cons (ps_if (PW.pt (pw_or (pt_cmp (pc_isN (pv 1))) (pw_or1 (pt_cmpR op_lt (pv 1) (pe_callB call_len_seq (by rfl) T.len PySem.boot_len (pa_cons (pe_fld (pv 0) rfl) pa_nil)) (nomark _))))) (pss_one (ps_ret pe_bl)) pss_nil)
    (pss_one (ps_ret (pe_meth (pv 0) T.cl L.m L.G hr L.b .nil pass0 (pa_cons (pgI gxs) (pa_cons (pe_op op_sub (pv 1) (pe_callB call_len_seq (by rfl) T.len PySem.boot_len (pa_cons (pe_fld (pv 0) rfl) pa_nil))) pa_nil))))), ?_⟩
  cases o with
  | none =>
    refine ⟨_, rfl, _, rfl, ?_⟩
    exact k _ ⟨dx, a, b, c, us, S⟩
  | some n =>
    obtain ⟨n0, n1⟩ := hb n rfl
    refine ⟨_, rfl, _, rfl, ?_⟩
    refine ⟨_, rfl, _, rfl, p, C, dx, _, _, rfl, S.hp, T.cl, T.nW, shF_w _ _ _, a, _, rfl, .inl (SqL.of S.ha), _, _, rfl, rfl, _, rfl, ?_⟩
    rw [List.length_map]
    refine ifB (fun h => ?_) (fun h => ?_)
    · have e : atM (some n) z = (false, z) := if_pos (of_decide_eq_true h)
      rw [e] at k
      exact k _ ⟨dx, a, b, c, us, S⟩
    · have h' := of_decide_eq_false h
      have e : atM (some n) z = layM 65535 (n - z.words.length) z := if_neg h'
      rw [e] at k
      refine ⟨_, rfl, p, dx, _, rfl, S.hp, no_take, _, rfl, _, rfl, p, C, dx, _, _, rfl, S.hp, T.cl, T.nW, shF_w _ _ _, a, _, rfl, .inl (SqL.of S.ha), _, _, rfl, rfl, ?_⟩
      rw [List.length_map]
      exact ⟨H0, p, z, _, _, rfl, ⟨_, _, rfl, by omega, by omega, rfl⟩, ⟨dx, a, b, c, us, S⟩, k⟩
theorem scTKeep : FnScope ["self", "many"] ["self", "many"] (defScope sTKeep) := ⟨rfl, rfl, rfl, by decide +kernel, rfl, by decide +kernel, by decide +kernel⟩
theorem ok_tkeep {f fL : Addr} {fd fdL : FuncData} (F : Fun K "take_keep" "Sheet.take_keep" sTKeep f fd) (T : Tx K mg aN aX C) (L : CalM P w K mg base C 2 "lay" ["self", "word", "many"] (spM C aLay) fL fdL) : FnOk P w K mg base CX0 3 f fd ["self", "many"] (spM C aKeep) := by
  refine F.ok scTKeep (fun vs H Q E h => by obtain ⟨H0, p, s, vs', r, rfl, ⟨x, rfl, _⟩, _⟩ := h; rfl) (fun cdv A outer s H vs Q E hr h => ?_)
  obtain ⟨H0, p, z, _, _, rfl, ⟨o, rfl, hb, rfl⟩, ⟨dx, a, b, c, us, S⟩, k⟩ := h
  refine ⟨_, pss_cons (ps_if (pt_cmp (pc_isN (pv 1))) (pss_one (ps_ret pe_bl)) pss_nil)
    (pss_one (ps_ret (pe_meth (pv 0) T.cl L.m L.G hr L.b .nil pass0 (pa_cons pe_int (pa_cons (pv 1) pa_nil))))), ?_⟩
  cases o with
  | none =>
    refine ⟨_, rfl, _, rfl, ?_⟩
    exact k _ ⟨dx, a, b, c, us, S⟩
  | some n =>
    obtain ⟨n0, n1⟩ := hb n rfl
    refine ⟨_, rfl, _, rfl, ?_⟩
    refine ⟨_, rfl, p, dx, _, rfl, S.hp, no_take, _, rfl, ?_⟩
    exact ⟨H0, p, z, _, _, rfl, ⟨_, _, rfl, n0, n1, rfl⟩, ⟨dx, a, b, c, us, S⟩, k⟩
theorem scTWorth : FnScope ["self", "at", "base", "part", "most", "number"] ["self", "at", "base", "part", "most"] (defScope sTWorth) := ⟨rfl, rfl, rfl, by decide +kernel, rfl, by decide +kernel, by decide +kernel⟩
theorem ok_tworth {f fL fN fM : Addr} {fd fdL fdN fdM : FuncData} (F : Fun K "take_worth" "Sheet.take_worth" sTWorth f fd) (T : Tx K mg aN aX C) (L : CalM P w K mg base C 2 "lay" ["self", "word", "many"] (spM C aLay) fL fdL)
    (N : CalF P w K mg base 2 "is_name" ["part"] spNm fN fdN) (M : CalF P w K mg base 2 "number_of" ["part"] spNum fM fdM) : FnOk P w K mg base CX0 3 f fd ["self", "at", "base", "part", "most"] (spM C aWorth) := by
  refine F.ok scTWorth (fun vs H Q E h => by obtain ⟨H0, p, s, vs', r, rfl, ⟨_, _, _, _, rfl, _⟩, _⟩ := h; rfl) (fun cdv A outer s H vs Q E hr h => ?_)
  obtain ⟨H0, p, z, _, _, rfl, ⟨i, bs, x, m, rfl, hx, hus, rfl⟩, ⟨dx, a, b, c, us, S⟩, k⟩ := h
  refine ⟨_, pss_cons (ps_if (pt_val (pe_call N.G hr (by rfl) N.g N.kp N.b .nil pass0 (pa_cons (pv 3) pa_nil)))
      (pss_cons (ps_expr (pe_bm PySem.F.plainAttrs_list PySem.F.slot_list_append PySem.F.type_list_append mt_append (pe_fld (pv 0) rfl) (pa_cons (pe_tup (pa_cons (pv 1) (pa_cons (pe_callB call_len_seq (by rfl) T.len PySem.boot_len (pa_cons (pe_fld (pv 0) rfl) pa_nil)) (pa_cons (pv 3) pa_nil)))) pa_nil)))
        (pss_one (ps_ret (pe_meth (pv 0) T.cl L.m L.G hr L.b .nil pass0 (pa_cons (pv 2) (pa_cons pe_int pa_nil)))))) pss_nil)
    (pss_cons (ps_set (i := 5) scTWorth.nd rfl (.inl rfl) (pe_call M.G hr (by rfl) M.g M.kp M.b .nil pass0 (pa_cons (pv 3) pa_nil)))
    (pss_cons (ps_if (PW.pt (pw_or (pt_cmp (pc_isN (pv 5))) (pw_or1 (pt_cmpR op_gt (pv 5) (pv 4) (nomark _))))) (pss_one (ps_ret pe_bl)) pss_nil)
    (pss_one (ps_ret (pe_meth (pv 0) T.cl L.m L.G hr L.b .nil pass0 (pa_cons (pe_op op_add (pv 2) (pv 5)) (pa_cons pe_int pa_nil))))))), ?_⟩
  refine ⟨_, rfl, x, rfl, hx, _, rfl, ifB (fun h => ?_) (fun h => ?_)⟩
  · have e : worthM i bs x m z = layM bs 1 { z with uses := z.uses ++ [(i, (z.words.length : Int), x)] } := if_pos h
    rw [e] at k
    refine ⟨_, rfl, p, C, dx, _, _, rfl, S.hp, T.cl, T.nU, shF_u _ _ _, .inl ⟨rfl, _, SqL.of S.hc⟩, ?_⟩
    refine ⟨_, rfl, _, rfl, p, C, dx, _, _, rfl, S.hp, T.cl, T.nW, shF_w _ _ _, a, _, rfl, .inl (SqL.of S.ha), _, rfl, (by show 3 ≤ sizeLine; decide), fun t nt => ?_⟩
    rw [List.length_map]
    have S1 := S.more (o := useT (i, (z.words.length : Int), x)) nt
    refine ⟨c, us, _, rfl, rfl, S1.hc, ?_, ?_⟩
    · rw [UsesAt.len S.hu]
      exact Nat.lt_of_lt_of_le hus (by decide)
    · have S2 := S1.used (u := (i, (z.words.length : Int), x)) upd_same
      refine ⟨_, rfl, p, dx, _, rfl, S2.hp, no_take, _, rfl, ?_⟩
      exact ⟨H0, p, _, _, _, rfl, ⟨_, 1, rfl, by decide, by decide, rfl⟩, ⟨dx, a, b, c, _, S2⟩, k⟩
  · refine ⟨_, rfl, x, rfl, hx, ?_⟩
    unfold worthM at k
    rw [h, if_neg Bool.false_ne_true] at k
    cases hn : numOf x with
    | none =>
      rw [hn] at k
      refine ⟨_, rfl, _, rfl, ?_⟩
      exact k _ ⟨dx, a, b, c, us, S⟩
    | some n =>
      rw [hn] at k
      refine ⟨_, rfl, _, rfl, ?_⟩
      refine ⟨_, rfl, _, rfl, _, _, rfl, rfl, _, rfl, ?_⟩
      have k' : ∀ H' : Hp, SheetAt C H0 H' p (if n > m then (false, z) else layM (bs + n) 1 z).2 → Q (.bl (if n > m then (false, z) else layM (bs + n) 1 z).1) H' := k
      refine ifB (fun h2 => ?_) (fun h2 => ?_)
      · rw [if_pos (of_decide_eq_true h2)] at k'
        exact k' _ ⟨dx, a, b, c, us, S⟩
      · rw [if_neg (of_decide_eq_false h2)] at k'
        refine ⟨_, rfl, p, dx, _, rfl, S.hp, no_take, _, rfl, _, rfl, _, _, rfl, rfl, ?_⟩
        exact ⟨H0, p, _, _, _, rfl, ⟨_, 1, rfl, by decide, by decide, rfl⟩, ⟨dx, a, b, c, _, S⟩, k'⟩
end
end Bh

/-! take_pair, take: one row of a text. -/
namespace Bh
open PySem PySem.Spec PyProof.Rows L2
open TL
theorem spl_part_le (S : List Nat) : ∀ (l : List Nat) (k : Nat) (acc : List Nat), ∀ q ∈ spl S k acc l, q.length ≤ acc.length + l.length
  | [], k, acc, q, hq => by
    rw [spl_nil] at hq
    rw [List.mem_singleton.mp hq]
    exact Nat.le_add_right _ _
  | c :: r, 0, acc, q, hq => by
    cases e : pre S (c :: r) with
    | true =>
      rw [spl_hit e] at hq
      rcases List.mem_cons.mp hq with h | h
      · rw [h]
        exact Nat.le_add_right _ _
      · have := spl_part_le S r (S.length - 1) [] q h
        simp only [List.length_nil, List.length_cons] at this ⊢
        omega
    | false =>
      rw [spl_miss e] at hq
      have := spl_part_le S r 0 (acc ++ [c]) q hq
      simp only [List.length_append, List.length_cons, List.length_nil] at this ⊢
      omega
  | c :: r, k + 1, acc, q, hq => by
    have := spl_part_le S r k acc q hq
    simp only [List.length_cons] at this ⊢
    omega
theorem split_le {x y : Str} (hy : tl y ≠ []) (hk : y.cps.all (· < 256) = true) {q : Str} (hq : q ∈ Txt.split x y) : q.length ≤ x.length := by
  have e := split_spl x y hy (kind_ok hk)
  have m : tl q ∈ (Txt.split x y).map tl := List.mem_map_of_mem hq
  rw [e] at m
  have := spl_part_le (tl y) (tl x) 0 [] (tl q) m
  rw [len_tl, len_tl]
  simpa using this
theorem opX_sub {z : Str} (h : z ∈ opX) : z ∈ opN := by
  have key : ∀ y ∈ opX, y ∈ opN := by decide +kernel
  exact key z h
theorem no_m {a b c : Addr} {m : Str} (h : decide (m = ("words" : Str) ∨ m = ("names" : Str) ∨ m = ("uses" : Str)) = false) : (shF a b c).lookup m = none := by
  have h' := of_decide_eq_false h
  exact shF_no _ _ _ (fun e => h' (.inl e)) (fun e => h' (.inr (.inl e))) (fun e => h' (.inr (.inr e)))
section
variable {P : Program} {w : World} {K : PySem.W.Frag} {mg : Str → Option Value} {base : Heap} {aN aX C : Addr}
theorem scTPair : FnScope ["self", "at", "head", "part"] ["self", "at", "head", "part"] (defScope sTPair) := ⟨rfl, rfl, rfl, by decide +kernel, rfl, by decide +kernel, by decide +kernel⟩
theorem ok_tpair {f fA fP fW fM : Addr} {fd fdA fdP fdW fdM : FuncData} (F : Fun K "take_pair" "Sheet.take_pair" sTPair f fd) (T : Tx K mg aN aX C) (A1 : CalM P w K mg base C 3 "take_at" ["self", "address"] (spM C aAt) fA fdA)
    (A2 : CalM P w K mg base C 3 "take_keep" ["self", "many"] (spM C aKeep) fP fdP) (A3 : CalM P w K mg base C 3 "take_worth" ["self", "at", "base", "part", "most"] (spM C aWorth) fW fdW)
    (M : CalF P w K mg base 2 "number_of" ["part"] spNum fM fdM) : FnOk P w K mg base CX0 4 f fd ["self", "at", "head", "part"] (spM C aPair) := by
  obtain ⟨tx, gxs⟩ := T.xs
  obtain ⟨tw, gwm⟩ := T.wm
  refine F.ok scTPair (fun vs H Q E h => by obtain ⟨H0, p, s, vs', r, rfl, ⟨_, _, _, rfl, _⟩, _⟩ := h; rfl) (fun cdv A outer s H vs Q E hr h => ?_)
  obtain ⟨H0, p, z, _, _, rfl, ⟨i, hd, x, rfl, hx, hus, rfl⟩, ⟨dx, a, b, c, us, S⟩, k⟩ := h
  have hr1 : Room 2 _ := hr.mono (by decide)
  refine ⟨_, pss_cons (ps_if (pt_cmpR op_eq (pv 2) pe_str (nomark _)) (pss_one (ps_ret (pe_meth (pv 0) T.cl A1.m A1.G hr A1.b .nil pass0 (pa_cons (pe_call M.G hr1 (by rfl) M.g M.kp M.b .nil pass0 (pa_cons (pv 3) pa_nil)) pa_nil)))) pss_nil)
    (pss_cons (ps_if (pt_cmpR op_eq (pv 2) pe_str (nomark _)) (pss_one (ps_ret (pe_meth (pv 0) T.cl A2.m A2.G hr A2.b .nil pass0 (pa_cons (pe_call M.G hr1 (by rfl) M.g M.kp M.b .nil pass0 (pa_cons (pv 3) pa_nil)) pa_nil)))) pss_nil)
    (pss_cons (ps_if (pt_cmpR op_eq (pv 2) pe_str (nomark _)) (pss_one (ps_ret (pe_meth (pv 0) T.cl A3.m A3.G hr A3.b .nil pass0 (pa_cons (pv 1) (pa_cons pe_int (pa_cons (pv 3) (pa_cons (pgI gwm) pa_nil))))))) pss_nil)
    (pss_cons (ps_if (pt_cmpR op_in_seq (pv 2) (pgR T.gX) (by rfl)) (pss_one (ps_ret (pe_meth (pv 0) T.cl A3.m A3.G hr A3.b .nil pass0 (pa_cons (pv 1) (pa_cons (pe_op op_mul (pe_bm PySem.F.plainAttrs_tuple PySem.F.slot_tuple_index PySem.F.type_tuple_index mt_tup_index (pgR T.gN) (pa_cons (pv 2) pa_nil)) (pgI gxs)) (pa_cons (pv 3) (pa_cons (pe_op op_sub (pgI gxs) pe_int) pa_nil))))))) pss_nil)
    (pss_one (ps_ret pe_bl))))), ?_⟩
  have S' : SheetAt C H0 H p z := ⟨dx, a, b, c, us, S⟩
  have bnd : ∀ n, numOf x = some n → 0 ≤ n ∧ n < 100000 := fun n e => ⟨numOf_nonneg e, numOf_lt e⟩
  unfold pairM at k
  refine ⟨_, rfl, rfl, _, rfl, ifB (fun h1 => ?_) (fun h1 => ?_)⟩
  · rw [if_pos (V.str.inj (of_decide_eq_true h1))] at k
    exact ⟨_, rfl, p, dx, _, rfl, S.hp, no_m (by decide +kernel), _, rfl, x, rfl, hx, H0, p, z, _, _, rfl, ⟨_, rfl, bnd, rfl⟩, S', k⟩
  rw [if_neg (fun e => of_decide_eq_false h1 (congrArg V.str e))] at k
  refine ⟨_, rfl, rfl, _, rfl, ifB (fun h2 => ?_) (fun h2 => ?_)⟩
  · rw [if_pos (V.str.inj (of_decide_eq_true h2))] at k
    exact ⟨_, rfl, p, dx, _, rfl, S.hp, no_m (by decide +kernel), _, rfl, x, rfl, hx, H0, p, z, _, _, rfl, ⟨_, rfl, bnd, rfl⟩, S', k⟩
  rw [if_neg (fun e => of_decide_eq_false h2 (congrArg V.str e))] at k
  refine ⟨_, rfl, rfl, _, rfl, ifB (fun h3 => ?_) (fun h3 => ?_)⟩
  · rw [if_pos (V.str.inj (of_decide_eq_true h3))] at k
    exact ⟨_, rfl, p, dx, _, rfl, S.hp, no_m (by decide +kernel), _, rfl, _, rfl, H0, p, z, _, _, rfl, ⟨_, _, _, _, rfl, hx, hus, rfl⟩, S', k⟩
  rw [if_neg (fun e => of_decide_eq_false h3 (congrArg V.str e))] at k
  refine ⟨_, rfl, aX, _, rfl, .inr (T.vX _), rfl, flat_strs' _, _, rfl, ?_⟩
  rw [if_neg Bool.false_ne_true, in_strs]
  refine ifB (fun h4 => ?_) (fun h4 => ?_)
  · have h4' := of_decide_eq_true h4
    rw [if_pos h4'] at k
    have hm := opX_sub h4'
    obtain ⟨oN, l1, l2, l3⟩ := T.tN
    refine ⟨_, rfl, p, dx, _, rfl, S.hp, no_m (by decide +kernel), _, rfl, .inr (.inl ⟨rfl, oN, l1, l2, l3⟩), _, rfl, aN, opN, hd, posN hd, rfl, rfl, T.vN _, (posN_at hm).1, (posN_at hm).2, _, _, rfl, rfl, .inl ?_, _, rfl, _, _, rfl, rfl, ?_⟩
    · have := posN_lt hm
      exact ⟨by omega, by omega⟩
    · exact ⟨H0, p, z, _, _, rfl, ⟨_, _, _, _, rfl, hx, hus, rfl⟩, S', k⟩
  · rw [if_neg (of_decide_eq_false h4)] at k
    exact k _ S'
theorem scTake : FnScope ["self", "at", "row", "parts"] ["self", "at", "row"] (defScope sTake) := ⟨rfl, rfl, rfl, by decide +kernel, rfl, by decide +kernel, by decide +kernel⟩
theorem ok_take {f fA fP fW : Addr} {fd fdA fdP fdW : FuncData} (F : Fun K "take" "Sheet.take" sTake f fd) (T : Tx K mg aN aX C) (A1 : CalM P w K mg base C 3 "take_name" ["self", "name"] (spM C aName) fA fdA)
    (A2 : CalM P w K mg base C 3 "take_bare" ["self", "op"] (spM C aBare) fP fdP) (A3 : CalM P w K mg base C 4 "take_pair" ["self", "at", "head", "part"] (spM C aPair) fW fdW) : FnOk P w K mg base CX0 5 f fd ["self", "at", "row"] (spM C aTake) := by
  refine F.ok scTake (fun vs H Q E h => by obtain ⟨H0, p, s, vs', r, rfl, ⟨_, _, rfl, _⟩, _⟩ := h; rfl) (fun cdv A outer s H vs Q E hr h => ?_)
  obtain ⟨H0, p, z, _, _, rfl, ⟨i, x, rfl, hx, hns, hus, rfl⟩, ⟨dx, a, b, c, us, S⟩, k⟩ := h
  have hr2 : Room 3 _ := hr.mono (by decide)
  refine ⟨_, pss_cons (ps_if (pt_cmpR op_eq (pv 2) pe_str (nomark _)) (pss_one (ps_ret pe_bl)) pss_nil)
    (pss_cons (ps_if (pt_val (pe_m1 PySem.F.slot_str_endswith PySem.F.type_str_endswith mt_endswith (pv 2) pe_str)) (pss_one (ps_ret (pe_meth (pv 0) T.cl A1.m A1.G hr2 A1.b .nil pass0 (pa_cons (pe_slice sl_str (pv 2) po_none (po_some (pe_un un_neg pe_int))) pa_nil)))) pss_nil)
    (pss_cons (ps_set (i := 3) scTake.nd rfl (.inl rfl) (pe_split (pv 2) pe_str))
    (pss_cons (ps_if (pt_cmpR op_eq (pe_callB call_len_seq (by rfl) T.len PySem.boot_len (pa_cons (pv 3) pa_nil)) pe_int (nomark _)) (pss_one (ps_ret (pe_meth (pv 0) T.cl A2.m A2.G hr2 A2.b .nil pass0 (pa_cons (pv 2) pa_nil)))) pss_nil)
    (pss_cons (ps_if (pt_cmpR op_eq (pe_callB call_len_seq (by rfl) T.len PySem.boot_len (pa_cons (pv 3) pa_nil)) pe_int (nomark _)) (pss_one (ps_ret (pe_meth (pv 0) T.cl A3.m A3.G hr A3.b .nil pass0 (pa_cons (pv 1) (pa_cons (pe_ix ix_list (pv 3) pe_int (fun _ _ => rfl)) (pa_cons (pe_ix ix_list (pv 3) pe_int (fun _ _ => rfl)) pa_nil)))))) pss_nil)
    (pss_one (ps_ret pe_bl)))))), ?_⟩
  have S' : SheetAt C H0 H p z := ⟨dx, a, b, c, us, S⟩
  have hline : x.length ≤ sizeLine := fits_small (by omega)
  unfold takeM at k
  refine ⟨_, rfl, rfl, _, rfl, ifB (fun h1 => ?_) (fun h1 => ?_)⟩
  · rw [if_pos (V.str.inj (of_decide_eq_true h1))] at k
    exact k _ S'
  rw [if_neg (fun e => of_decide_eq_false h1 (congrArg V.str e))] at k
  refine ⟨_, rfl, ⟨_, rfl⟩, _, _, rfl, rfl, _, rfl, ifB (fun h2 => ?_) (fun h2 => ?_)⟩
  · rw [if_pos h2] at k
    have hc := cutS_length x none (some (-1))
    exact ⟨_, rfl, p, dx, _, rfl, S.hp, no_m (by decide +kernel), _, rfl, 1, rfl, _, rfl, _, rfl, hline, H0, p, z, _, _, rfl, ⟨_, rfl, by omega, hns, rfl⟩, S', k⟩
  rw [if_neg (by rw [h2]; exact Bool.false_ne_true)] at k
  refine ⟨_, rfl, ⟨_, rfl⟩, _, _, rfl, rfl, rfl, (by
    have : 90002 ≤ sizeLine := by decide
    omega), fun l nl => ?_⟩
  have S1 := S.more (o := .lst ((Txt.split x " ").map V.str)) nl
  have S1' : SheetAt C H0 _ p z := ⟨dx, a, b, c, us, S1⟩
  have hl : SqL K (upd H l (.lst ((Txt.split x " ").map V.str))) l ((Txt.split x " ").map V.str) := .inl (.inl upd_same)
  have hle : ∀ q ∈ Txt.split x " ", q.length ≤ 100000 := fun q hq => Nat.le_trans (split_le (by decide +kernel) (by decide +kernel) hq) (by omega)
  refine ⟨_, rfl, l, _, rfl, .inl hl, rfl, _, rfl, ?_⟩
  rw [List.length_map]
  generalize Txt.split x " " = parts at *
  refine ifB (fun h3 => ?_) (fun h3 => ?_)
  · have e1 : parts.length = 1 := by
      have z1 := V.int.inj (of_decide_eq_true h3)
      omega
    match parts, e1 with
    | [q], _ => exact ⟨_, rfl, p, dx, _, rfl, S1.hp, no_m (by decide +kernel), _, rfl, H0, p, z, _, _, rfl, ⟨_, rfl, rfl⟩, S1', k⟩
  have n1 : parts.length ≠ 1 := fun e => of_decide_eq_false h3 (by rw [e] <;> rfl)
  refine ⟨_, rfl, l, _, rfl, .inl hl, rfl, _, rfl, ?_⟩
  rw [List.length_map]
  refine ifB (fun h4 => ?_) (fun h4 => ?_)
  · have e2 : parts.length = 2 := by
      have z1 := V.int.inj (of_decide_eq_true h4)
      omega
    match parts, e2 with
    | [q1, q2], _ => exact ⟨_, rfl, p, dx, _, rfl, S1.hp, no_m (by decide +kernel), _, rfl, _, rfl, l, _, 0, .str q1, rfl, rfl, hl, atI_nat (j := 0) rfl, _, rfl, l, _, 1, .str q2, rfl, rfl, hl, atI_nat (j := 1) rfl, H0, p, z, _, _, rfl, ⟨_, _, _, rfl, hle q2 (by simp), hus, rfl⟩, S1', k⟩
  · have n2 : parts.length ≠ 2 := fun e => of_decide_eq_false h4 (by rw [e] <;> rfl)
    match parts, n1, n2 with
    | [], _, _ => exact k _ S1'
    | [_], n, _ => exact absurd rfl n
    | [_, _], _, n => exact absurd rfl n
    | _ :: _ :: _ :: _, _, _ => exact k _ S1'
end
end Bh

/-! put_names_in where every name stands, typed of a text that is read. -/
namespace Bh
open PySem PySem.Spec PyProof.Rows L2
open TL
/-! ### two rules -/
section
variable {X : Cx}
/-- xs[j], read for xs[j] op= e -/
def rAtL (K : PySem.W.Frag) : V → V → Hp → VK → Prop := fun o i H Q => ∃ (p : Addr) (xs : List V) (j : Nat) (z : V), o = .ref p ∧ i = .int (j : Int) ∧ SqL K H p xs ∧ xs[j]? = some z ∧ Q z H
theorem get_list : PGet X (rAtL X.K) := by
  intro pins s σ H o i ov iv Q I ro ri h
  obtain ⟨p, xs, j, z, rfl, rfl, hq, hz, q⟩ := h
  cases ro
  obtain ⟨t, rfl⟩ := ri
  obtain ⟨its, rv, pl, hs⟩ := I.list hq
  obtain ⟨u, hu, ru⟩ := rv.get hz
  have hj : j < xs.length := (List.getElem?_eq_some_iff.mp hz).1
  have hl := rv.length
  have hn := line63
  have hs' : xs.length ≤ sizeLine := hs
  exact wpAny_getItem_list pl.isList (by omega) (by omega) (by simpa using hu) ⟨z, H, I, ru, q⟩
theorem for_enum {K : PySem.W.Frag} {a : Addr} {xs : List V} {g : TG} {tb : TS} {D : Ends} {σ : L2.St} {H : Hp} (Pv : Nat → L2.St → Hp → Prop) (start : Pv 0 σ H) (stays : ∀ i σ H, Pv i σ H → SqL K H a xs)
    (turn : ∀ (i : Nat) (x : V) (T : Addr) (σ : L2.St) (H : Hp), xs[i]? = some x → Pv i σ H → H T = none → g (.ref T) σ (upd H T (.tup [.int (i : Nat), x])) fun σ2 H2 => tb { D with nx := Pv (i + 1), ct := Pv (i + 1), bk := D.nx } σ2 H2) (ends : ∀ σ H, Pv xs.length σ H → D.nx σ H) :
    ∃ W : Nat → Nat → L2.St → Hp → Prop, (∃ m, W 0 m σ H) ∧ ∀ i m σ H, W i m σ H →
      ((Ite K a).stop i H ∧ D.nx σ H) ∨ ((Ite K a).go i H ∧ ∃ N : L2.St → Hp → Prop, (∀ σ' H', N σ' H' → ∃ m', m' < m ∧ W (i + 1) m' σ' H') ∧ ∀ v H', (Ite K a).yld i H v H' → g v σ H' fun σ2 H2 => tb { D with nx := N, ct := N, bk := D.nx } σ2 H2) := by
  refine ⟨fun i m σ H => i + m = xs.length ∧ Pv i σ H, ⟨xs.length, Nat.zero_add _, start⟩, fun i m σ H hW => ?_⟩
  obtain ⟨hm, hP⟩ := hW
  have hS := stays i σ H hP
  cases m with
  | zero =>
    have e : i = xs.length := hm
    rw [e] at hP
    exact .inl ⟨⟨xs, hS, Nat.le_of_eq e.symm⟩, ends σ H hP⟩
  | succ m =>
    have hi : i < xs.length := by omega
    have hx : xs[i]? = some xs[i] := List.getElem?_eq_getElem hi
    refine .inr ⟨⟨xs, xs[i], hS, hx⟩, Pv (i + 1), fun σ' H' h' => ⟨m, Nat.lt_succ_self m, by omega, h'⟩, fun v H' hy => ?_⟩
    obtain ⟨T, y, rfl, hT, rfl, hy⟩ := hy
    have ey : xs[i] = y := Option.some.inj (hx.symm.trans (hy xs hS))
    rw [← ey]
    exact turn i xs[i] T σ H hx hP hT
end
/-! ### names resolved -/
def look (ns : List (Str × Int)) (x : Str) : Option Int := (ns.find? fun p => p.1 == x).map (·.2)
def putM (ns : List (Str × Int)) : List (Int × Int × Str) → List Int → Option (List Int)
  | [], ws => some ws
  | u :: r, ws => match look ns u.2.2, ws[u.2.1.toNat]? with
    | some n, some v => putM ns r (ws.set u.2.1.toNat (v + n))
    | _, _ => none
theorem valV_look (x : Str) : ∀ ns : List (Str × Int), valV (nmK ns) (Sum.inr x) = (look ns x).map V.int
  | [] => rfl
  | (y, n) :: r => by
    have ih := valV_look x r
    unfold nmK look at ih ⊢
    rw [List.map_cons, List.find?_cons]
    by_cases e : y = x
    · subst e
      rw [valV_pos rfl]
      simp
    · have e1 : ¬ ((Sum.inr y : Key) = Sum.inr x) := fun z => e (Sum.inr.inj z)
      rw [valV_neg e1, ih]
      have e2 : (y == x) = false := by simpa using e
      rw [e2]
theorem paired_get {α β : Type} {F : α → β → Prop} : ∀ {xs : List α} {ys : List β} {i : Nat} {y : β}, Paired F xs ys → ys[i]? = some y → ∃ x, xs[i]? = some x ∧ F x y
  | _, _, _, _, .nil, e => by simp at e
  | _, _, 0, _, .cons r _, e => ⟨_, rfl, by rw [← Option.some.inj e]; exact r⟩
  | _, _, i + 1, y, .cons _ t, e => paired_get (i := i) (y := y) t e
theorem set_map (ws : List Int) (j : Nat) (v : Int) : (ws.map V.int).set j (.int v) = (ws.set j v).map V.int := by
  rw [List.map_set]
section
variable {P : Program} {w : World} {K : PySem.W.Frag} {mg : Str → Option Value} {base : Heap} {aN aX C : Addr}
def spPut (C : Addr) : Sp := fun vs H Q _ => ∃ (H0 : Hp) (p : Addr) (s : Sh) (ws : List Int), vs = [.ref p] ∧ SheetAt C H0 H p s ∧ (∀ u ∈ s.uses, 0 ≤ u.2.1) ∧ putM s.names s.uses s.words = some ws ∧ ∀ H' : Hp, SheetAt C H0 H' p { s with words := ws } → Q .non H'
theorem scPut : FnScope ["self", "at", "address", "name"] ["self"] (defScope sPut) := ⟨rfl, rfl, rfl, by decide +kernel, rfl, by decide +kernel, by decide +kernel⟩
theorem ok_put {f : Addr} {fd : FuncData} (F : Fun K "put_names_in" "Sheet.put_names_in" sPut f fd) (T : Tx K mg aN aX C) : FnOk P w K mg base CX0 2 f fd ["self"] (spPut C) := by
  refine F.ok scPut (fun vs H Q E h => by obtain ⟨H0, p, s, ws, rfl, _⟩ := h; rfl) (fun cdv A outer s H vs Q E hr h => ?_)
  obtain ⟨H0, p, z, wz, rfl, ⟨dx, a, b, c, us, S⟩, hpos, hput, k⟩ := h
  have hu := hu_of hr
  refine ⟨_, pss_one (ps_for PassesOwn.never rfl (pi_list (pe_fld (pv 0) rfl)) (pg_tup rfl (pgs_cons (pg_name (i := 1) scPut.nd rfl (.inl rfl)) (pgs_cons (pg_name (i := 2) scPut.nd rfl (.inl rfl)) (pgs_cons (pg_name (i := 3) scPut.nd rfl (.inl rfl)) pgs_nil))))
    (pss_cons (ps_if (pt_cmp (pc_dnotin hu (pv 3) (pe_fld (pv 0) rfl))) (pss_one ps_never) pss_nil)
    (pss_one (ps_augS (pe_fld (pv 0) rfl) (pv 2) get_list (pe_dget hu (pe_fld (pv 0) rfl) (pv 3) (fun _ _ => rfl)) ip_add set_list)))), ?_⟩
  refine ⟨_, rfl, p, C, dx, _, _, rfl, S.hp, T.cl, T.nU, shF_u _ _ _, c, rfl, ⟨_, SqL.of S.hc⟩, ?_⟩
  refine for_list (K := K) (a := c) (xs := us) (fun i σ H' => ∃ (ws : List Int) (y1 y2 y3 : Option V), σ = [some (.ref p), y1, y2, y3] ∧ Shp C H0 H' p dx a b c us { z with words := ws } ∧ putM z.names (z.uses.drop i) ws = some wz)
    ⟨z.words, none, none, none, rfl, S, hput⟩ (fun i σ H' _ h => by obtain ⟨ws, y1, y2, y3, _, S', _⟩ := h; exact SqL.of S'.hc) ?_ ?_
  · rintro i v σ H' hi ⟨ws, y1, y2, y3, rfl, S', hq⟩
    have hul := UsesAt.len S'.hu
    have hil : i < z.uses.length := by
      rw [← hul]
      exact (List.getElem?_eq_some_iff.mp hi).1
    obtain ⟨u, hu1⟩ : ∃ u, z.uses[i]? = some u := ⟨_, List.getElem?_eq_getElem hil⟩
    obtain ⟨v', hv', t, et, ht⟩ := paired_get S'.hu hu1
    have : v = .ref t := by
      rw [← et]
      exact Option.some.inj (hi.symm.trans hv')
    subst this
    have hdrop : z.uses.drop i = u :: z.uses.drop (i + 1) := by
      rw [List.drop_eq_getElem_cons hil]
      have : z.uses[i] = u := Option.some.inj ((List.getElem?_eq_getElem hil).symm.trans hu1)
      rw [this]
    rw [hdrop] at hq
    have hp0 := hpos u (List.mem_of_getElem? hu1)
    unfold putM at hq
    cases hl : look z.names u.2.2 with
    | none => rw [hl] at hq; cases hq
    | some n =>
      rw [hl] at hq
      cases hw : ws[u.2.1.toNat]? with
      | none => rw [hw] at hq; cases hq
      | some vv =>
        rw [hw] at hq
        have hq' : putM z.names (z.uses.drop (i + 1)) (ws.set u.2.1.toNat (vv + n)) = some wz := hq
        have ev : valV (nmK z.names) (Sum.inr u.2.2) = some (.int n) := by
          rw [valV_look, hl]
          rfl
        refine ⟨t, _, rfl, SqT.of ht, rfl, _, _, rfl, _, _, rfl, _, _, rfl, rfl, ?_⟩
        refine ⟨_, rfl, _, rfl, p, C, dx, _, _, rfl, S'.hp, T.cl, T.nN, shF_n _ _ _, b, some (.int n), rfl, (by rw [← ev]; exact DGet.k (k := Sum.inr u.2.2) S'.hb), _, rfl, ?_⟩
        refine ⟨_, rfl, p, C, dx, _, _, rfl, S'.hp, T.cl, T.nW, shF_w _ _ _, _, rfl, ?_⟩
        have eN : u.2.1 = ((u.2.1.toNat : Nat) : Int) := (Int.toNat_of_nonneg hp0).symm
        have hlt : u.2.1.toNat < ws.length := (List.getElem?_eq_some_iff.mp hw).1
        refine ⟨a, _, u.2.1.toNat, .int vv, rfl, congrArg V.int eN, SqL.of S'.ha, by rw [List.getElem?_map, hw]; rfl, ?_⟩
        refine ⟨_, rfl, p, C, dx, _, _, rfl, S'.hp, T.cl, T.nN, shF_n _ _ _, _, rfl, ?_⟩
        have ei : ixN (ws.map V.int).length u.2.1 = some u.2.1.toNat := by
          unfold ixN
          rw [if_pos hp0, List.length_map, if_pos (by omega)]
        refine ⟨b, .int n, rfl, (by rw [← ev]; exact DGet.k (k := Sum.inr u.2.2) S'.hb), vv, n, rfl, rfl, a, _, _, _, rfl, rfl, S'.ha, ei, ws.set u.2.1.toNat (vv + n), _, _, _, rfl, ?_, hq'⟩
        rw [set_map]
        exact S'.words _ (by rw [List.length_set]; exact S'.lw)
  · rintro σ H' ⟨ws, y1, y2, y3, rfl, S', hq⟩
    have hul := UsesAt.len S'.hu
    rw [hul, List.drop_length] at hq
    cases hq
    exact k _ ⟨dx, a, b, c, us, S'⟩
theorem takeM_lens (i : Int) (r : Str) (s : Sh) : (takeM i r s).2.names.length ≤ s.names.length + 1 ∧ (takeM i r s).2.uses.length ≤ s.uses.length + 1 := by
  have hl : ∀ (w m : Int) (s : Sh), (layM w m s).2.names = s.names ∧ (layM w m s).2.uses = s.uses := fun w m s => by
    unfold layM
    split <;> exact ⟨rfl, rfl⟩
  have hn : ∀ (x : Str) (s : Sh), (nameM x s).2.names.length ≤ s.names.length + 1 ∧ (nameM x s).2.uses.length ≤ s.uses.length + 1 := fun x s => by
    unfold nameM
    split
    · exact ⟨Nat.le_succ _, Nat.le_succ _⟩
    · refine ⟨?_, Nat.le_succ _⟩
      show (s.names ++ _).length ≤ _
      rw [List.length_append]
      exact Nat.le_refl _
  have hw : ∀ (i b : Int) (x : Str) (m : Int) (s : Sh), (worthM i b x m s).2.names.length ≤ s.names.length + 1 ∧ (worthM i b x m s).2.uses.length ≤ s.uses.length + 1 := fun i b x m s => by
    unfold worthM
    split
    · rw [(hl _ _ _).1, (hl _ _ _).2]
      refine ⟨Nat.le_succ _, ?_⟩
      show (s.uses ++ _).length ≤ _
      rw [List.length_append]
      exact Nat.le_refl _
    · split
      · exact ⟨Nat.le_succ _, Nat.le_succ _⟩
      · split
        · exact ⟨Nat.le_succ _, Nat.le_succ _⟩
        · rw [(hl _ _ _).1, (hl _ _ _).2]
          exact ⟨Nat.le_succ _, Nat.le_succ _⟩
  have h0 : s.names.length ≤ s.names.length + 1 ∧ s.uses.length ≤ s.uses.length + 1 := ⟨Nat.le_succ _, Nat.le_succ _⟩
  have hl0 : ∀ w m, (layM w m s).2.names.length ≤ s.names.length + 1 ∧ (layM w m s).2.uses.length ≤ s.uses.length + 1 := fun w m => by
    rw [(hl _ _ _).1, (hl _ _ _).2]
    exact h0
  unfold takeM
  split
  · exact h0
  split
  · exact hn _ _
  split
  · unfold bareM
    split
    · exact h0
    · exact hl0 _ _
  · unfold pairM
    split
    · unfold atM
      split
      · exact h0
      · split
        · exact h0
        · exact hl0 _ _
    split
    · unfold keepM
      split
      · exact h0
      · exact hl0 _ _
    split
    · exact hw _ _ _ _ _
    split
    · exact hw _ _ _ _ _
    · exact h0
  · exact h0
theorem Shp.based {H0 H : Hp} {p dx a b c l : Addr} {us : List V} {s : Sh} {o : HO} (h : Shp C H0 H p dx a b c us s) (nl : H l = none) : Shp C (upd H0 l o) (upd H l o) p dx a b c us s where
  sm := fun z y e => by
    by_cases hz : z = l
    · rw [hz, upd_same] at e ⊢
      exact e
    · rw [upd_ne hz] at e ⊢
      exact h.sm _ _ e
  fp := by rw [upd_ne (ne_of_none h.hp nl)]; exact h.fp
  fa := by rw [upd_ne (ne_of_none h.ha nl)]; exact h.fa
  fb := by rw [upd_ne (ne_of_none h.hb nl)]; exact h.fb
  fc := by rw [upd_ne (ne_of_none h.hc nl)]; exact h.fc
  hp := same_upd' nl _ _ h.hp
  ha := same_upd' nl _ _ h.ha
  hb := same_upd' nl _ _ h.hb
  hc := same_upd' nl _ _ h.hc
  ac := h.ac
  hu := h.hu.mono fun t xs e => same_upd' nl _ _ e
  lw := h.lw
theorem split_count_le (x y : Str) (hy : tl y ≠ []) (hk : y.cps.all (· < 256) = true) : (Txt.split x y).length ≤ x.length + 1 := by
  have key : ∀ (S l : List Nat) (k : Nat) (acc : List Nat), (spl S k acc l).length ≤ l.length + 1 := by
    intro S l
    induction l with
    | nil => intro k acc; rw [spl_nil]; exact Nat.le_refl _
    | cons c r ih =>
      intro k acc
      cases k with
      | zero =>
        cases e : pre S (c :: r) with
        | true =>
          rw [spl_hit e, List.length_cons, List.length_cons]
          have := ih (S.length - 1) []
          omega
        | false =>
          rw [spl_miss e, List.length_cons]
          have := ih 0 (acc ++ [c])
          omega
      | succ k =>
        have := ih k acc
        rw [List.length_cons]
        show (spl S k acc r).length ≤ _
        omega
  have e := split_spl x y hy (kind_ok hk)
  have l := congrArg List.length e
  rw [List.length_map] at l
  rw [l, len_tl]
  exact key _ _ _ _
/-- typed of a text that is read: the rows' sheet, its words with the names put in -/
def spTyped : Sp := fun vs H Q _ => ∃ (x : Str) (s : Sh) (ws : List Int), vs = [.str x] ∧ x.length ≤ 80000 ∧ runM 0 (Txt.split x "\n") sh0 = some s ∧ (∀ u ∈ s.uses, 0 ≤ u.2.1) ∧ putM s.names s.uses s.words = some ws ∧
  ∀ (H' : Hp) (t a b : Addr), Same H H' → H t = none → H a = none → H b = none → H' t = some (.tup [.ref a, .ref b]) → H' a = some (.lst (ws.map V.int)) → H' b = some (.dK (nmK s.names)) → Q (.ref t) H'
theorem scTyped : FnScope ["text", "sheet", "at", "row"] ["text"] (defScope sTyped) := ⟨rfl, rfl, rfl, by decide +kernel, rfl, by decide +kernel, by decide +kernel⟩
theorem ok_typed {f fI fK fP : Addr} {fd fdI fdK fdP : FuncData} (F : Fun K "typed" "typed" sTyped f fd) (T : Tx K mg aN aX C) (M : Mk K C fI) (I : FnOk P w K mg base CX0 2 fI fdI ["self"] (spInit C)) (bI : Binds K fdI ["self"] [])
    (A1 : CalM P w K mg base C 5 "take" ["self", "at", "row"] (spM C aTake) fK fdK) (A2 : CalM P w K mg base C 2 "put_names_in" ["self"] (spPut C) fP fdP) : FnOk P w K mg base CX0 6 f fd ["text"] spTyped := by
  refine F.ok scTyped (fun vs H Q E h => by obtain ⟨x, s, ws, rfl, _⟩ := h; rfl) (fun cdv A outer s H vs Q E hr h => ?_)
  obtain ⟨x, sf, wf, rfl, hx, hrun, hpos, hput, q⟩ := h
  have hr1 : Room 2 _ := hr.mono (by decide)
  have hr2 : Room (2 + 1) _ := hr.mono (by decide)
  refine ⟨_, pss_cons (ps_set (i := 1) scTyped.nd rfl (.inl rfl) (pe_make0 M I hr2 rfl T.gC bI .nil pass0))
    (pss_cons (ps_for PassesOwn.never rfl (pi_enum (by rfl) T.enu (pa_cons (pe_split (pv 0) pe_str) pa_nil)) (pg_tup rfl (pgs_cons (pg_name (i := 2) scTyped.nd rfl (.inl rfl)) (pgs_cons (pg_name (i := 3) scTyped.nd rfl (.inl rfl)) pgs_nil)))
      (pss_one (ps_if (pt_not (pt_val (pe_meth (pv 1) T.cl A1.m A1.G hr A1.b .nil pass0 (pa_cons (pv 2) (pa_cons (pv 3) pa_nil))))) (pss_one ps_never) pss_nil)))
    (pss_cons (ps_expr (pe_meth0 (pv 1) T.cl A2.m A2.G hr1 A2.b .nil pass0))
    (pss_one (ps_ret (pe_tup (pa_cons (pe_fld (pv 1) rfl) (pa_cons (pe_fld (pv 1) rfl) pa_nil))))))), ?_⟩
  intro p dx0 np ndx nex
  have s0 : Same H (upd (upd H dx0 (.own p)) p (.ins C dx0 [])) := fun b o e => by
    rw [upd_ne (ne_of_none e np), upd_ne (ne_of_none e ndx)]
    exact e
  refine ⟨H, p, dx0, rfl, s0, np, upd_same, fun H1 R1 => ⟨rfl, _, rfl, ⟨_, rfl⟩, _, _, rfl, rfl, rfl, (by
    have : 80002 ≤ sizeLine := by decide
    omega), fun l nl => ?_⟩⟩
  obtain ⟨dx, a, b, c, us, S⟩ := R1
  have Sb := S.based (l := l) (o := .lst ((Txt.split x "\n").map V.str)) nl
  have nl0 : H l = none := S.sm.free nl
  have hcount := split_count_le x "\n" (by decide +kernel) (by decide +kernel)
  have hlen : ∀ r ∈ Txt.split x "\n", r.length ≤ 90000 := fun r hm => Nat.le_trans (split_le (by decide +kernel) (by decide +kernel) hm) (by omega)
  generalize Txt.split x "\n" = rows at *
  refine ⟨l, _, rfl, .inl (.inl upd_same), ?_⟩
  refine for_enum (K := K) (a := l) (xs := rows.map V.str) (fun i σ H' => ∃ (s : Sh) (y2 y3 : Option V), σ = [some (.str x), some (.ref p), y2, y3] ∧ SheetAt C (upd H l (.lst (rows.map V.str))) H' p s ∧ runM i (rows.drop i) s = some sf ∧ s.names.length ≤ i ∧ s.uses.length ≤ i)
    ⟨sh0, none, none, rfl, ⟨dx, a, b, c, us, Sb⟩, hrun, Nat.zero_le _, Nat.zero_le _⟩ (fun i σ H' h => by
      obtain ⟨s, y2, y3, _, ⟨_, _, _, _, _, S'⟩, _⟩ := h
      exact .inl (.inl (S'.sm _ _ upd_same))) ?_ ?_
  · rintro i v T' σ H' hi ⟨z, y2, y3, rfl, ⟨dx', a', b', c', us', S'⟩, hrun', hn, hus⟩ nT
    obtain ⟨r, hr', rfl⟩ : ∃ r, rows[i]? = some r ∧ V.str r = v := by
      rw [List.getElem?_map] at hi
      cases e : rows[i]? with
      | none => rw [e] at hi; cases hi
      | some r => rw [e] at hi; exact ⟨r, rfl, Option.some.inj hi⟩
    have hil : i < rows.length := (List.getElem?_eq_some_iff.mp hr').1
    have hdrop : rows.drop i = r :: rows.drop (i + 1) := by
      rw [List.drop_eq_getElem_cons hil]
      have : rows[i] = r := Option.some.inj ((List.getElem?_eq_getElem hil).symm.trans hr')
      rw [this]
    rw [hdrop] at hrun'
    unfold runM at hrun'
    have S1 := S'.more (o := .tup [.int (i : Nat), .str r]) nT
    refine ⟨T', _, rfl, SqT.of upd_same, rfl, _, _, rfl, _, _, rfl, rfl, ?_⟩
    refine ⟨_, rfl, p, dx', _, rfl, S1.hp, no_m (by decide +kernel), _, rfl, _, rfl, upd H l (.lst (rows.map V.str)), p, z, _, _, rfl, ⟨_, _, rfl, hlen r (List.mem_of_getElem? hr'), by omega, by omega, rfl⟩, ⟨dx', a', b', c', us', S1⟩, fun H2 R2 => ⟨_, rfl, ?_⟩⟩
    have hl2 := takeM_lens (i : Int) r z
    cases e : (takeM (i : Int) r z).1 with
    | false => rw [e] at hrun'; cases hrun'
    | true =>
      rw [e] at hrun'
      have hrun2 : runM ((i : Int) + 1) (rows.drop (i + 1)) (takeM (i : Int) r z).2 = some sf := hrun'
      exact ⟨_, _, _, rfl, R2, hrun2, by omega, by omega⟩
  · rintro σ H' ⟨z, y2, y3, rfl, ⟨dx', a', b', c', us', S'⟩, hrun', hn, hus⟩
    rw [List.length_map, List.drop_length] at hrun'
    cases hrun'
    refine ⟨_, rfl, p, dx', _, rfl, S'.hp, no_m (by decide +kernel), upd H l (.lst (rows.map V.str)), p, sf, wf, rfl, ⟨dx', a', b', c', us', S'⟩, hpos, hput, fun H2 R2 => ?_⟩
    obtain ⟨dx2, a2, b2, c2, us2, S2⟩ := R2
    refine ⟨_, rfl, p, C, dx2, _, _, rfl, S2.hp, T.cl, T.nW, shF_w _ _ _, _, rfl, p, C, dx2, _, _, rfl, S2.hp, T.cl, T.nN, shF_n _ _ _, (by show 2 ≤ sizeLine; decide), fun t nt => ?_⟩
    have fr : ∀ {y : Addr}, upd H l (.lst (rows.map V.str)) y = none → H y = none := fun {y} e => (same_upd' nl0).free e
    have sm2 : Same H H2 := (same_upd' nl0).trans S2.sm
    refine q _ t a2 b2 (sm2.trans (same_upd' nt)) (sm2.free nt) (fr S2.fa) (fr S2.fb) upd_same ?_ ?_
    · rw [upd_ne (ne_of_none S2.ha nt)]
      exact S2.ha
    · rw [upd_ne (ne_of_none S2.hb nt)]
      exact S2.hb
end
end Bh

/-! The law. -/
namespace Bh
open PySem PySem.Spec PyProof.Rows L2
open TL
theorem can_ints : ∀ ns : List Int, PyData.canLayAll0 (ns.map PyData.int) = true
  | [] => rfl
  | n :: r => by
    show (PyData.canLay0 (.int n) && PyData.canLayAll0 (r.map PyData.int)) = true
    rw [can_ints r]
    rfl
theorem dep_ints : ∀ ns : List Int, PyData.depthAll (ns.map PyData.int) ≤ 1
  | [] => by decide
  | n :: r => by
    have ih := dep_ints r
    show max (PyData.depth (.int n)) (PyData.depthAll (r.map PyData.int)) ≤ 1
    exact Nat.max_le.mpr ⟨Nat.zero_le _, ih⟩
theorem dp_ints {K : PySem.W.Frag} {H : Hp} : ∀ ns : List Int, DpAll K H (ns.map V.int) (ns.map PyData.int)
  | [] => .nil
  | n :: r => .cons (.int n) (dp_ints r)
theorem shaped_ints (ns : List Int) : SeqAt.shaped (.list (ns.map PyData.int)) = true := by
  show (PyData.canLayAll0 (ns.map PyData.int) && decide (PyData.depthAll (ns.map PyData.int) + 1 ≤ 64)) = true
  rw [can_ints, decide_eq_true (by have := dep_ints ns; omega)]
  rfl
theorem idx2 (d : Int) : ∃ m : Int, (m = 23 ∨ m = 64) ∧ atI [V.int 23, V.int 64] (d % 2) = some (.int m) := by
  have h : d % 2 = 0 ∨ d % 2 = 1 := by omega
  rcases h with h | h
  · rw [h]
    exact ⟨23, .inl rfl, atI_nat (j := 0) rfl⟩
  · rw [h]
    exact ⟨64, .inr rfl, atI_nat (j := 1) rfl⟩
theorem idx5 (d x : Int) (h0 : 0 ≤ x) (h1 : x ≤ 1008) : ∃ m : Int, (0 ≤ m ∧ m ≤ 1023) ∧ atI [V.int x, V.int 0, V.int 1, V.int 1023, V.int x] (d % 5) = some (.int m) := by
  have h : d % 5 = 0 ∨ d % 5 = 1 ∨ d % 5 = 2 ∨ d % 5 = 3 ∨ d % 5 = 4 := by omega
  rcases h with h | h | h | h | h
  · rw [h]
    exact ⟨x, ⟨h0, by omega⟩, atI_nat (j := 0) rfl⟩
  · rw [h]
    exact ⟨0, by decide, atI_nat (j := 1) rfl⟩
  · rw [h]
    exact ⟨1, by decide, atI_nat (j := 2) rfl⟩
  · rw [h]
    exact ⟨1023, by decide, atI_nat (j := 3) rfl⟩
  · rw [h]
    exact ⟨x, ⟨h0, by omega⟩, atI_nat (j := 4) rfl⟩
theorem lf_tl : tl ("\n" : Str) = [10] := by decide +kernel
theorem lf_k : ("\n" : Str).cps.all (· < 256) = true := by decide +kernel
theorem nm_nolf : ∀ op : Nat, op < 23 → 10 ∉ nmL op := by decide +kernel
theorem numL_nolf (n : Nat) : 10 ∉ numL n := numL_free (.inl (by decide))
theorem rowL_nolf {n : Nat} (hn : n ≤ 65535) : 10 ∉ rowL n := by
  have hw : 10 ∉ wordL n := fun h => by
    unfold wordL at h
    rcases List.mem_append.mp h with q | q
    · exact absurd q (by decide)
    · exact numL_nolf n q
  unfold rowL
  split
  · exact hw
  · split
    · intro h
      rcases List.mem_append.mp h with q | q
      · exact nm_nolf _ (by omega) q
      · rcases List.mem_cons.mp q with q | q
        · exact absurd q (by decide)
        · exact numL_nolf _ q
    · split
      · exact nm_nolf _ (by omega)
      · exact hw
/-- the rows of the text of an image -/
theorem split_text {ws : List Nat} (hne : ws ≠ []) (hw : ∀ n ∈ ws, n ≤ 65535) : Txt.split (textM ws) "\n" = ws.map rowM := by
  unfold textM
  have q := split_join (y := ("\n" : Str)) (s := 10) (S := []) lf_tl lf_k (parts := ws.map rowM) (by simpa using hne) (fun p hp => by
    obtain ⟨n, hm, rfl⟩ := List.mem_map.mp hp
    exact rowL_nolf (hw n hm))
  rw [join_eq] at q
  exact q
theorem text_one (n : Nat) : textM [n] = rowM n := rfl
theorem text_len {ws : List Nat} (hl : ws.length ≤ 512) (hw : ∀ n ∈ ws, n ≤ 65535) : (textM ws).length ≤ 80000 := by
  have h0 := StrLaws.join_length_le ("\n" : Str) (ws.map rowM)
  have h1 := sum_le_mul (fun n => (rowM n).length) 12 ws (fun n hm => by
    show (rowM n).length ≤ 12
    unfold rowM
    rw [len_sS]
    exact rowL_len (hw n hm))
  rw [List.map_map, List.length_map] at h0
  have e1 : ((·.length) ∘ rowM : Nat → Nat) = fun n => (rowM n).length := rfl
  rw [e1] at h0
  have e2 : (("\n" : Str)).length = 1 := rfl
  rw [e2] at h0
  unfold textM
  omega
section
variable {P : Program} {w : World} {K : PySem.W.Frag} {mg : Str → Option Value} {base : Heap} {aN aX C : Addr}
def spLaw (K : PySem.W.Frag) : Sp := fun vs H Q _ => ∃ (a : Addr) (ns : List Int), vs = [.ref a] ∧ SqL K H a (ns.map V.int) ∧ ns.length ≤ 63 ∧ ∀ H', Q (.bl true) H'
theorem cut_ints (ns : List Int) (lo hi : Option Int) : ∃ ms : List Int, cutV (ns.map V.int) lo hi = ms.map V.int ∧ ms.length ≤ ns.length := by
  unfold cutV
  rw [← List.map_drop, ← List.map_take]
  refine ⟨_, rfl, ?_⟩
  rw [List.length_take, List.length_drop]
  omega
end
end Bh

/-! The law's own defs: its digits, its row. -/
namespace Bh
open PySem PySem.Spec PyProof.Rows L2
open TL
abbrev sDig : Stmt := topS 22
abbrev sLaw : Stmt := topS 23
section
variable {P : Program} {w : World} {K : PySem.W.Frag} {mg : Str → Option Value} {base : Heap} {aN aX C : Addr}
def DigOk (ds : List Int) : Prop := ∀ d ∈ ds, 0 ≤ d ∧ d ≤ 1008
def spDig : Sp := fun vs H Q _ => ∃ (c : Int) (m : Nat), vs = [.int c, .int (m : Int)] ∧ m ≤ 1000 ∧ ∀ (H' : Hp) (p : Addr) (ds : List Int), ds.length = m → DigOk ds → Same H H' → H p = none → H' p = some (.lst (ds.map V.int)) → Q (.ref p) H'
theorem scDig : FnScope ["_law_cell_here", "_law_many", "_law_row", "_law_rest", "_law_number", "_law_k"] ["_law_cell_here", "_law_many"] (defScope sDig) := ⟨rfl, rfl, rfl, by decide +kernel, rfl, by decide +kernel, by decide +kernel⟩
theorem digOk_snoc {ds : List Int} {d : Int} (h : DigOk ds) (h0 : 0 ≤ d) (h1 : d ≤ 1008) : DigOk (ds ++ [d]) := fun x hx => by
  rcases List.mem_append.mp hx with q | q
  · exact h x q
  · rw [List.mem_singleton.mp q]
    exact ⟨h0, h1⟩
theorem ok_dig {f : Addr} {fd : FuncData} (F : Fun K "_law_digits" "_law_digits" sDig f fd) (gr : mg "range" = none) : FnOk P w K mg base CX0 2 f fd ["_law_cell_here", "_law_many"] spDig := by
  refine F.ok scDig (fun vs H Q E h => by obtain ⟨c, m, rfl, _⟩ := h; rfl) (fun cdv A outer s H vs Q E hr h => ?_)
  obtain ⟨c, m, rfl, hm, q⟩ := h
  have ap : ∀ {X : Cx} , True := fun {_} => trivial
  refine ⟨_, pss_cons (ps_set (i := 2) scDig.nd rfl (.inl rfl) (pe_lst pa_nil))
    (pss_cons (ps_set (i := 3) scDig.nd rfl (.inl rfl) pe_int)
    (pss_cons (ps_if (pt_cmpR op_ge (pv 0) (pe_op op_pow pe_int pe_int) (nomark _)) (pss_one (ps_set (i := 3) scDig.nd rfl (.inl rfl) (pv 0))) pss_nil)
    (pss_cons (ps_set (i := 4) scDig.nd rfl (.inl rfl) (pe_op op_mod (pv 0) pe_int))
    (pss_cons (ps_for PassesOwn.never rfl (pi_range1 (by rfl) gr (pa_cons (pv 1) pa_nil)) (pg_name (i := 5) scDig.nd rfl (.inl rfl))
      (pss_cons (ps_set (i := 4) scDig.nd rfl (.inl rfl) (pe_op op_mod (pe_op op_add (pe_op op_add (pe_op op_mul (pv 4) pe_int) (pe_op op_mul pe_int (pv 5))) pe_int) pe_int))
      (pss_cons (ps_set (i := 4) scDig.nd rfl (.inl rfl) (pe_op op_mod (pe_op op_mul (pv 4) (pe_op op_add (pe_op op_fdiv (pv 4) pe_int) pe_int)) pe_int))
      (pss_one (ps_if (pt_cmpR op_gt (pv 3) pe_int (nomark _))
        (pss_cons (ps_expr (pe_bm PySem.F.plainAttrs_list PySem.F.slot_list_append PySem.F.type_list_append mt_append (pv 2) (pa_cons (pe_op op_mod (pv 3) pe_int) pa_nil)))
          (pss_one (ps_set (i := 3) scDig.nd rfl (.inl rfl) (pe_op op_fdiv (pv 3) pe_int))))
        (pss_one (ps_expr (pe_bm PySem.F.plainAttrs_list PySem.F.slot_list_append PySem.F.type_list_append mt_append (pv 2) (pa_cons (pe_op op_mod (pe_op op_fdiv (pv 4) pe_int) pe_int) pa_nil)))))))))
    (pss_one (ps_ret (pv 2))))))), ?_⟩
  refine ⟨Nat.zero_le _, fun p np => ?_⟩
  refine ⟨_, rfl, _, _, rfl, rfl, ⟨by decide, by decide, by decide⟩, _, _, rfl, rfl, _, rfl, ite2 (fun _ => ⟨_, rfl, ?_⟩) (fun _ => ?_)⟩
  all_goals
    refine ⟨_, rfl, _, _, rfl, rfl, (by show (0 : Int) < 2147483647; decide), ?_⟩
    refine ⟨_, rfl, (m : Int), rfl, by omega, by omega, ?_⟩
    refine for_range (lo := 0) (n := ((m : Int)).toNat) (fun i σ H' => ∃ (rest num : Int) (y : Option V) (ds : List Int), σ = [some (.int c), some (.int (m : Int)), some (.ref p), some (.int rest), some (.int num), y] ∧ 0 ≤ num ∧ num < 2147483647 ∧ ds.length = i ∧ DigOk ds ∧ Same H H' ∧ H' p = some (.lst (ds.map V.int)))
      ⟨_, _, none, [], rfl, Int.emod_nonneg _ (by decide), Int.emod_lt_of_pos _ (by decide), rfl, (fun _ h => by cases h), same_upd' np, upd_same⟩ ?_ ?_
    · rintro i σ H' hi ⟨rest, num, y, ds, rfl, n0, n1, hl, hd, sm, hp⟩
      have him : i < 1000 := by omega
      refine ⟨_, rfl, _, _, rfl, rfl, .inl ⟨by omega, by omega⟩, _, rfl, _, _, rfl, rfl, .inl ⟨by decide, by decide⟩, _, _, rfl, rfl, _, _, rfl, rfl, _, _, rfl, rfl, (by show (0 : Int) < 2147483647; decide), ?_⟩
      have a0 := Int.emod_nonneg (num * 48271 + 30103 * (0 + (i : Int)) + 11) (show (2147483647 : Int) ≠ 0 by decide)
      have a1 := Int.emod_lt_of_pos (num * 48271 + 30103 * (0 + (i : Int)) + 11) (show (0 : Int) < 2147483647 by decide)
      refine ⟨_, rfl, _, rfl, _, _, rfl, rfl, ⟨by decide, by decide⟩, _, _, rfl, rfl, _, _, rfl, rfl, .inl ⟨by omega, by omega⟩, _, _, rfl, rfl, (by show (0 : Int) < 2147483629; decide), ?_⟩
      have b0 := Int.emod_nonneg (((num * 48271 + 30103 * (0 + (i : Int)) + 11) % 2147483647) * (((num * 48271 + 30103 * (0 + (i : Int)) + 11) % 2147483647) / 1009 + 69621)) (show (2147483629 : Int) ≠ 0 by decide)
      have b1 := Int.emod_lt_of_pos (((num * 48271 + 30103 * (0 + (i : Int)) + 11) % 2147483647) * (((num * 48271 + 30103 * (0 + (i : Int)) + 11) % 2147483647) / 1009 + 69621)) (show (0 : Int) < 2147483629 by decide)
      have hlen : (ds.map V.int).length < sizeLine := by
        rw [List.length_map]
        exact small1000 (by omega)
      have upd_ok : ∀ (d : Int), Same H (upd H' p (.lst (ds.map V.int ++ [.int d]))) ∧ upd H' p (.lst (ds.map V.int ++ [.int d])) p = some (.lst ((ds ++ [d]).map V.int)) := fun d => by
        refine ⟨same_of sm np, ?_⟩
        rw [upd_same, List.map_append]
        rfl
      refine ⟨_, rfl, _, _, rfl, rfl, _, rfl, ite2 (fun _ => ?_) (fun _ => ?_)⟩
      · refine ⟨_, rfl, .inl ⟨rfl, _, SqL.of hp⟩, _, rfl, _, _, rfl, rfl, (by show (0 : Int) < 1009; decide), p, _, _, rfl, rfl, hp, hlen, ?_⟩
        refine ⟨_, rfl, _, _, rfl, rfl, ⟨by decide, by decide⟩, ?_⟩
        have c0 := Int.emod_nonneg rest (show (1009 : Int) ≠ 0 by decide)
        have c1 := Int.emod_lt_of_pos rest (show (0 : Int) < 1009 by decide)
        exact ⟨_, _, _, ds ++ [rest % 1009], rfl, b0, by omega, by rw [List.length_append, hl]; rfl, digOk_snoc hd c0 (by omega), (upd_ok _).1, (upd_ok _).2⟩
      · refine ⟨_, rfl, .inl ⟨rfl, _, SqL.of hp⟩, _, rfl, _, _, rfl, rfl, ⟨by decide, by decide⟩, _, _, rfl, rfl, (by show (0 : Int) < 1009; decide), p, _, _, rfl, rfl, hp, hlen, ?_⟩
        have c0 := Int.emod_nonneg (((((num * 48271 + 30103 * (0 + (i : Int)) + 11) % 2147483647) * (((num * 48271 + 30103 * (0 + (i : Int)) + 11) % 2147483647) / 1009 + 69621)) % 2147483629) / 7) (show (1009 : Int) ≠ 0 by decide)
        have c1 := Int.emod_lt_of_pos (((((num * 48271 + 30103 * (0 + (i : Int)) + 11) % 2147483647) * (((num * 48271 + 30103 * (0 + (i : Int)) + 11) % 2147483647) / 1009 + 69621)) % 2147483629) / 7) (show (0 : Int) < 1009 by decide)
        exact ⟨_, _, _, ds ++ [((((num * 48271 + 30103 * (0 + (i : Int)) + 11) % 2147483647) * (((num * 48271 + 30103 * (0 + (i : Int)) + 11) % 2147483647) / 1009 + 69621)) % 2147483629) / 7 % 1009], rfl, b0, by omega, by rw [List.length_append, hl]; rfl, digOk_snoc hd c0 (by omega), (upd_ok _).1, (upd_ok _).2⟩
    · rintro σ H' ⟨rest, num, y, ds, rfl, n0, n1, hl, hd, sm, hp⟩
      exact ⟨_, rfl, q H' p ds (by omega) hd sm np hp⟩
end
end Bh

/-! The law of whole images. -/
namespace Bh
open PySem PySem.Spec PyProof.Rows L2
open TL
theorem run_text {ws : List Nat} (hl : ws.length ≤ 512) (hw : ∀ n ∈ ws, n ≤ 65535) : runM 0 (Txt.split (textM ws) "\n") sh0 = some ⟨ws.map fun w => ((w : Nat) : Int), [], []⟩ := by
  by_cases h : ws = []
  · subst h
    have e : Txt.split (textM []) "\n" = [("" : Str)] := by decide +kernel
    rw [e]
    rfl
  · rw [split_text h hw]
    have q := run_rows ws 0 sh0 hw (by show 0 + ws.length ≤ 512; omega)
    rw [q]
    rfl
theorem atD {ds : List Int} (hl : ds.length = 60) (hd : DigOk ds) {j : Int} (h0 : 0 ≤ j) (h1 : j < 60) : ∃ d, atI (ds.map V.int) j = some (.int d) ∧ 0 ≤ d ∧ d ≤ 1008 := by
  have hlt : j.toNat < ds.length := by omega
  have e : j = ((j.toNat : Nat) : Int) := (Int.toNat_of_nonneg h0).symm
  have q : atI (ds.map V.int) ((j.toNat : Nat) : Int) = some (.int ds[j.toNat]) := atI_nat (by
    rw [List.getElem?_map, List.getElem?_eq_getElem hlt]
    rfl)
  rw [← e] at q
  exact ⟨ds[j.toNat], q, hd _ (List.getElem_mem hlt)⟩
theorem idx4 (d x : Int) : ∃ m : Int, (0 ≤ m ∧ m ≤ 512) ∧ atI [V.int (x % 60), V.int (x % 513), V.int 512, V.int 0] (d % 4) = some (.int m) := by
  have h : d % 4 = 0 ∨ d % 4 = 1 ∨ d % 4 = 2 ∨ d % 4 = 3 := by omega
  rcases h with h | h | h | h
  · rw [h]
    exact ⟨x % 60, by omega, atI_nat (j := 0) rfl⟩
  · rw [h]
    exact ⟨x % 513, by omega, atI_nat (j := 1) rfl⟩
  · rw [h]
    exact ⟨512, by decide, atI_nat (j := 2) rfl⟩
  · rw [h]
    exact ⟨0, by decide, atI_nat (j := 3) rfl⟩
theorem map_nV (ws : List Nat) : ws.map nV = (ws.map fun w => ((w : Nat) : Int)).map V.int := by
  rw [List.map_map]
  rfl
theorem ix_listK {X : Cx} {K : PySem.W.Frag} (h : X.K = K := by rfl) : IxR X (rIxL K) := by
  subst h
  exact ix_list
def lawN : List Str := ["_law_script", "_law_cells", "_law_cell_here", "_law_row", "_law_many", "_law_image", "_law_handed", "_law_text", "_law_turn", "_law_found", "_law_named", "_law_k", "_law_word"]
section
variable {P : Program} {w : World} {K : PySem.W.Frag} {mg : Str → Option Value} {base : Heap} {aN aX C : Addr}
theorem scLaw : FnScope ["_law_script", "_law_cells", "_law_cell_here", "_law_row", "_law_many", "_law_image", "_law_handed", "_law_text", "_law_turn", "_law_found", "_law_named", "_law_k", "_law_word"] ["_law_script"] (defScope sLaw) := ⟨rfl, rfl, rfl, by decide +kernel, rfl, by decide +kernel, by decide +kernel⟩
theorem ok_law {f fD fR fLs fT : Addr} {fd fdD fdR fdLs fdT : FuncData} (F : Fun K "law" "law" sLaw f fd) (D : CalF P w K mg base 2 "_law_digits" ["_law_cell_here", "_law_many"] spDig fD fdD)
    (R : CalF P w K mg base 2 "row_of" ["word"] spRow fR fdR) (Ls : CalF P w K mg base 3 "listed" ["image"] (spListed K) fLs fdLs)
    (Ty : CalF P w K mg base 6 "typed" ["text"] spTyped fT fdT) (gr : mg "range" = none) (gl : mg "list" = none) : FnOk P w K mg base CX0 7 f fd ["_law_script"] (spLaw K) := by
  refine F.ok scLaw (fun vs H Q E h => by obtain ⟨a, ns, rfl, _⟩ := h; rfl) (fun cdv A outer s H vs Q E hr h => ?_)
  obtain ⟨a, ns, rfl, hS, hlen, k⟩ := h
  have hr1 : Room 2 _ := hr.mono (by decide)
  have hr2 : Room 3 _ := hr.mono (by decide)
  have hu := hr.units
  have hu1 := hu_of hr
  have hu0 := hr.units0
  refine ⟨_, pss_cons (ps_set (i := 1) scLaw.nd rfl (.inl rfl) (pe_slice sl_list (pv 0) po_none (po_some pe_int)))
    (pss_cons (ps_if (pt_cmpR (op_eqD hu) (pv 1) (pe_lst pa_nil) (nomark _)) (pss_one (ps_set (i := 1) scLaw.nd rfl (.inl rfl) (pe_lst (pa_cons pe_int (pa_cons pe_int pa_nil))))) pss_nil)
    (pss_cons (ps_for PassesOwn.never rfl (pi_list (pv 1)) (pg_name (i := 2) scLaw.nd rfl (.inl rfl))
      (pss_cons (ps_set (i := 3) scLaw.nd rfl (.inr rfl) (pe_call D.G hr1 (by rfl) D.g D.kp D.b .nil pass0 (pa_cons (pv 2) (pa_cons pe_int pa_nil))))
      (pss_cons (ps_set (i := 4) scLaw.nd rfl (.inl rfl) (pe_ix ix_list (pe_lst (pa_cons (pe_op op_mod (pe_ix ix_list (pv 3) pe_int (fun _ _ => rfl)) pe_int) (pa_cons (pe_op op_mod (pe_ix ix_list (pv 3) pe_int (fun _ _ => rfl)) pe_int) (pa_cons pe_int (pa_cons pe_int pa_nil)))))
          (pe_op op_mod (pe_ix ix_list (pv 3) pe_int (fun _ _ => rfl)) pe_int) (fun _ _ => rfl)))
      (pss_cons (ps_setLc (i := 5) (own := [("_law_k", 11)]) (g := gName 11) (tt := tYes) (by rfl) scLaw.nd rfl rfl (sw_true rfl rfl rfl (by decide +kernel)) (pi_range1 (by rfl) gr (pa_cons (pv 4) pa_nil)) (blkOk_by (own := [("_law_k", 11)]) (N := lawN) (sc := defScope sLaw) (by decide +kernel))
          (fun _ _ _ _ _ => pg_name (i := 11) scLaw.nd rfl (Or.inl rfl)) (fun _ _ _ _ _ => pts_nil)
          (fun _ _ _ _ _ => pe_op op_mod (pe_op op_add (pe_op op_mul (pe_ix (ix_listK (K := K)) (pv 3) (pe_op op_mod (pv 11) pe_int) (fun _ _ => rfl)) pe_int) (pe_ix (ix_listK (K := K)) (pv 3) (pe_op op_mod (pe_op op_add (pe_op op_fdiv (pv 11) pe_int) (pe_op op_mul pe_int (pv 11))) pe_int) (fun _ _ => rfl))) pe_int))
      (pss_cons (ps_set (i := 6) scLaw.nd rfl (.inl rfl) (pe_callTy call_list_of (by rfl) gl (by decide +kernel) (pa_cons (pv 5) pa_nil)))
      (pss_cons (ps_set (i := 7) scLaw.nd rfl (.inl rfl) (pe_call Ls.G hr2 (by rfl) Ls.g Ls.kp Ls.b .nil pass0 (pa_cons (pv 6) pa_nil)))
      (pss_cons (ps_if (PW.pt (pw_or (pt_cmpR (op_neD hu) (pv 6) (pv 5) (nomark _)) (pw_or1 (pt_cmpR op_ne (pv 7) (pe_join pe_str (pe_lc (own := [("_law_word", 12)]) (g := gName 12) (tt := tYes) (by rfl) scLaw.nd (pi_list (pv 5)) (blkOk_by (own := [("_law_word", 12)]) (N := lawN) (sc := defScope sLaw) (by decide +kernel))
            (fun _ _ _ _ _ => pg_name (i := 12) scLaw.nd rfl (Or.inl rfl)) (fun _ _ _ _ _ => pts_nil) (fun _ _ _ _ _ => pe_call R.G hr1 (by rfl) R.g R.kp R.b .nil pass0 (pa_cons (pv 12) pa_nil)))) (nomark _)))))
        (pss_one (ps_ret pe_bl)) pss_nil)
      (pss_one (ps_for PassesOwn.never rfl (pi_range1 (by rfl) gr (pa_cons pe_int pa_nil)) (pg_name (i := 8) scLaw.nd rfl (.inl rfl))
        (pss_cons (ps_asg (pe_call Ty.G hr (by rfl) Ty.g Ty.kp Ty.b .nil pass0 (pa_cons (pv 7) pa_nil)) (pg_tup rfl (pgs_cons (pg_name (i := 9) scLaw.nd rfl (.inl rfl)) (pgs_cons (pg_name (i := 10) scLaw.nd rfl (.inl rfl)) pgs_nil))))
        (pss_cons (ps_if (PW.pt (pw_or (pt_cmpR (op_neD hu) (pv 9) (pv 5) (nomark _)) (pw_or1 (pt_cmpR (op_ne_dictA hu0) (pv 10) pe_dnewK (nomark _))))) (pss_one (ps_ret pe_bl)) pss_nil)
        (pss_cons (ps_expr (pe_bm PySem.F.plainAttrs_list PySem.F.slot_list_append PySem.F.type_list_append mt_append (pv 9) (pa_cons pe_int pa_nil)))
        (pss_one (ps_dput hu1 (pv 10) pe_str pe_int rfl))))))))))))))
    (pss_one (ps_ret pe_bl)))), ?_⟩
  obtain ⟨ms, ems, hms⟩ := cut_ints ns none (some 4)
  refine ⟨_, rfl, _, rfl, a, _, rfl, hS, fun c nc => ?_⟩
  rw [ems]
  have hc0 : SqL K (upd H c (.lst (ms.map V.int))) c (ms.map V.int) := .inl (.inl upd_same)
  refine ⟨_, rfl, Nat.zero_le _, fun e0 ne0 => ?_⟩
  have hc1 : SqL K (upd (upd H c (.lst (ms.map V.int))) e0 (.lst [])) c (ms.map V.int) := (same_upd' ne0).seq hc0
  refine ⟨_, _, .lst hc1 (dp_ints ms), .lst (.inl (.inl upd_same)) .nil, shaped_ints ms, shaped_ints [], _, rfl, ifB (fun _ => ⟨(by show 2 ≤ sizeLine; decide), fun ca nca => ?_⟩) (fun _ => ?_)⟩
  · obtain ⟨ms', hca⟩ : ∃ ms' : List Int, SqL K (upd (upd (upd H c (.lst (ms.map V.int))) e0 (.lst [])) ca (.lst [.int 4, .int 19])) ca (ms'.map V.int) := ⟨[4, 19], .inl (.inl upd_same)⟩
    refine ⟨_, rfl, ca, rfl, ⟨_, hca⟩, ?_⟩
    refine for_list (K := K) (a := ca) (xs := ms'.map V.int) (fun i σ H' => SqL K H' ca (ms'.map V.int) ∧ ∃ y2 y3 y4 y5 y6 y7 y8 y9 y10 y11 y12 : Option V, σ = [some (.ref a), some (.ref ca), y2, y3, y4, y5, y6, y7, y8, y9, y10, y11, y12]) ⟨hca, none, none, none, none, none, none, none, none, none, none, none, rfl⟩ (fun _ _ _ _ h => h.1) ?_ ?_
    · rintro i v σ H1 hi ⟨hca, y2, y3, y4, y5, y6, y7, y8, y9, y10, y11, y12, rfl⟩
      obtain ⟨cell, _, rfl⟩ : ∃ n, ms'[i]? = some n ∧ V.int n = v := by
        rw [List.getElem?_map] at hi
        cases e : ms'[i]? with
        | none => rw [e] at hi; cases hi
        | some n => rw [e] at hi; exact ⟨n, rfl, Option.some.inj hi⟩
      refine ⟨_, rfl, cell, 60, rfl, by decide, fun H2 pd ds hl hd sm2 npd hpd => ?_⟩
      have hca2 := sm2.seq hca
      have hp2 : SqL K H2 pd (ds.map V.int) := .inl (.inl hpd)
      obtain ⟨d0, e0, _⟩ := atD hl hd (j := 0) (by decide) (by decide)
      obtain ⟨d1, e1, _⟩ := atD hl hd (j := 1) (by decide) (by decide)
      obtain ⟨m, hm, e4⟩ := idx4 d1 d0
      -- many
      refine ⟨_, rfl, pd, _, 0, _, rfl, rfl, hp2, e0, _, _, rfl, rfl, (by show (0 : Int) < 60; decide), _, rfl, pd, _, 0, _, rfl, rfl, hp2, e0, _, _, rfl, rfl, (by show (0 : Int) < 513; decide), (by show 4 ≤ sizeLine; decide), fun q1 nq1 => ?_⟩
      have s1 := same_upd' (o := .lst [V.int (d0 % 60), V.int (d0 % 513), V.int 512, V.int 0]) nq1
      refine ⟨_, rfl, pd, _, 1, _, rfl, rfl, s1.seq hp2, e1, _, _, rfl, rfl, (by show (0 : Int) < 4; decide), q1, _, _, _, rfl, rfl, .inl (.inl upd_same), e4, ?_⟩
      -- the image
      refine ⟨_, rfl, m, rfl, by omega, by omega, fun D nD => ?_⟩
      refine lc_range (lo := 0) (n := m.toNat) (fun i H' => Same (upd H2 q1 (.lst [V.int (d0 % 60), V.int (d0 % 513), V.int 512, V.int 0])) H' ∧ ∃ vs : List Nat, vs.length = i ∧ (∀ v ∈ vs, v ≤ 65535) ∧ H' D = some (.lst (vs.map nV)))
        ⟨same_upd' nD, [], rfl, (fun _ h => by cases h), upd_same⟩ ?_ ?_
      · rintro j H' hj ⟨sm3, vs, hvl, hvb, hD⟩
        have hp' := sm3.seq (s1.seq hp2)
        obtain ⟨da, ea, ba⟩ := atD hl hd (j := (0 + (j : Int)) % 60) (by omega) (by omega)
        obtain ⟨db, eb, bb⟩ := atD hl hd (j := ((0 + (j : Int)) / 60 + 7 * (0 + (j : Int))) % 60) (by omega) (by omega)
        refine ⟨rfl, ?_⟩
        refine ⟨_, rfl, _, rfl, _, _, rfl, rfl, (by show (0 : Int) < 60; decide), pd, _, _, _, rfl, rfl, hp', ea, _, _, rfl, rfl, .inl ⟨by omega, by omega⟩, ?_⟩
        refine ⟨_, rfl, _, rfl, _, _, rfl, rfl, ⟨by decide, by decide⟩, _, rfl, _, _, rfl, rfl, .inl ⟨by decide, by decide⟩, _, _, rfl, rfl, _, _, rfl, rfl, (by show (0 : Int) < 60; decide), pd, _, _, _, rfl, rfl, hp', eb, _, _, rfl, rfl, _, _, rfl, rfl, (by show (0 : Int) < 65536; decide), ?_⟩
        have z0 := Int.emod_nonneg (da * 1009 + db) (show (65536 : Int) ≠ 0 by decide)
        have z1 := Int.emod_lt_of_pos (da * 1009 + db) (show (0 : Int) < 65536 by decide)
        obtain ⟨n, en⟩ : ∃ n : Nat, (da * 1009 + db) % 65536 = (n : Int) := ⟨_, (Int.toNat_of_nonneg z0).symm⟩
        refine ⟨_, hD, ?_, same_of sm3 nD, vs ++ [n], ?_, ?_, ?_⟩
        · rw [List.length_map, hvl]
          exact small1000 (by omega)
        · rw [List.length_append, hvl]
          rfl
        · intro v hv
          rcases List.mem_append.mp hv with h | h
          · exact hvb v h
          · rw [List.mem_singleton.mp h]
            omega
        · rw [upd_same, List.map_append]
          show some (HO.lst (vs.map nV ++ [V.int ((da * 1009 + db) % 65536)])) = _
          rw [en]
          rfl
      · rintro H' ⟨sm3, vs, hvl, hvb, hD⟩
        have hv512 : vs.length ≤ 512 := by omega
        have hca3 := sm3.seq (s1.seq hca2)
        have hDs : SqL K H' D (vs.map nV) := SqL.of hD
        -- handed, text
        refine ⟨_, rfl, D, _, rfl, .inl hDs, fun l nl => ?_⟩
        have s4 := same_upd' (o := .lst (vs.map nV)) nl
        refine ⟨_, rfl, l, vs, rfl, .inl (.inl upd_same), hv512, hvb, fun H5 sm5 => ?_⟩
        have hl5 : SqL K H5 l (vs.map nV) := sm5.seq (.inl (.inl upd_same))
        have hD5 : SqL K H5 D (vs.map nV) := sm5.seq (s4.seq hDs)
        have hc5 := sm5.seq (s4.seq hca3)
        have dpv : ∀ H6, DpAll K H6 (vs.map nV) ((vs.map fun w => ((w : Nat) : Int)).map PyData.int) := fun H6 => by
          rw [map_nV]
          exact dp_ints _
        have eqr : PyData.eqv (.list ((vs.map fun w => ((w : Nat) : Int)).map PyData.int)) (.list ((vs.map fun w => ((w : Nat) : Int)).map PyData.int)) = true := SeqAt.eqv_refl _ (can_ints _)
        refine ⟨_, rfl, _, rfl, _, _, .lst hl5 (dpv _), .lst hD5 (dpv _), shaped_ints _, shaped_ints _, _, rfl, ?_⟩
        rw [eqr]
        refine ⟨_, rfl, ⟨_, rfl⟩, _, rfl, D, rfl, ⟨_, hD5⟩, fun G nG => ?_⟩
        refine lc_list (K := K) (a := D) (xs := vs.map nV) (fun i H' => Same H5 H' ∧ H' G = some (.lst ((vs.take i).map fun n => V.str (rowM n)))) ⟨same_upd' nG, by rw [upd_same]; rfl⟩ (fun i H' _ h => h.1.seq hD5) ?_ ?_
        · intro i x H' hi hP
          obtain ⟨sm, hG⟩ := hP
          obtain ⟨n, hn, rfl⟩ : ∃ n, vs[i]? = some n ∧ nV n = x := by
            rw [List.getElem?_map] at hi
            cases e : vs[i]? with
            | none => rw [e] at hi; cases hi
            | some n => rw [e] at hi; exact ⟨n, rfl, Option.some.inj hi⟩
          have hmm : n ∈ vs := List.mem_of_getElem? hn
          have hil : i < vs.length := (List.getElem?_eq_some_iff.mp hn).1
          refine ⟨rfl, ?_⟩
          refine ⟨_, rfl, n, rfl, hvb n hmm, _, hG, ?_, same_of sm nG, ?_⟩
          · rw [List.length_map, List.length_take]
            exact Nat.lt_of_le_of_lt (Nat.min_le_left _ _) (small1000 (by omega))
          · rw [upd_same, List.take_add_one, hn, List.map_append]
            rfl
        · intro H6 hP
          obtain ⟨sm6, hG⟩ := hP
          rw [List.length_map, List.take_length] at hG
          refine ⟨_, G, vs.map rowM, rfl, rfl, .inl (.inl (.inl (by rw [List.map_map]; exact hG))), ?_, rfl, _, rfl, ?_⟩
          · have h1 := sum_le_mul (fun n => (rowM n).length) 12 vs (fun n hm => by
              show (rowM n).length ≤ 12
              unfold rowM
              rw [len_sS]
              exact rowL_len (hvb n hm))
            rw [List.map_map, List.length_map]
            have ez1 : ((·.length) ∘ rowM : Nat → Nat) = fun n => (rowM n).length := rfl
            rw [ez1]
            have ez2 : (("\n" : Str)).length = 1 := rfl
            rw [ez2]
            omega
          rw [join_eq]
          refine iteNS rfl ?_
          have hc6 := sm6.seq hc5
          have hD6 := sm6.seq hD5
          -- two readings
          refine ⟨2, rfl, by decide, by decide, ?_⟩
          refine for_range (lo := 0) (n := 2) (fun i σ H' => SqL K H' ca (ms'.map V.int) ∧ SqL K H' D (vs.map nV) ∧ ∃ z8 z9 z10 : Option V, σ = [some (.ref a), some (.ref ca), some (.int cell), some (.ref pd), some (.int m), some (.ref D), some (.ref l), some (.str (textM vs)), z8, z9, z10, y11, y12]) ⟨hc6, hD6, _, _, _, rfl⟩ ?_ ?_
          · rintro i σ H7 _ ⟨hc7, hD7, z8, z9, z10, rfl⟩
            refine ⟨_, rfl, textM vs, _, _, rfl, text_len hv512 hvb, run_text hv512 hvb, (fun _ h => by cases h), rfl, fun H8 t ta tb sm8 nt nta ntb ht hta htb => ?_⟩
            refine ⟨t, _, rfl, SqT.of ht, rfl, _, _, rfl, _, _, rfl, rfl, ?_⟩
            refine ⟨_, rfl, _, rfl, _, _, .lst (SqL.of hta) (dp_ints _), .lst (sm8.seq hD7) (dpv _), shaped_ints _, shaped_ints _, _, rfl, ?_⟩
            rw [eqr]
            refine ⟨_, rfl, fun d nd => ?_⟩
            have s9 := same_upd' (o := .dK []) nd
            refine ⟨tb, d, [], [], rfl, rfl, s9 _ _ htb, upd_same, rfl, (fun _ h => by cases h), _, rfl, ?_⟩
            have hta9 := s9 _ _ hta
            have htb9 := s9 _ _ htb
            have nab : ta ≠ tb := ne_of hta htb (by intro q; cases q)
            refine ⟨_, rfl, .inl ⟨rfl, _, SqL.of hta9⟩, ta, _, _, rfl, rfl, hta9, ?_, ?_⟩
            · rw [List.length_map, List.length_map]
              exact small1000 (by omega)
            refine ⟨_, rfl, tb, _, rfl, DPut.k (k := Sum.inr "x") (show upd _ ta _ tb = some (.dK []) by rw [upd_ne nab.symm]; exact htb9) (by show 0 < sizeLine; decide), ?_⟩
            have sm10 := same_of (o := .dK (putK [] (Sum.inr "x") (.int 1))) (same_of (o := .lst ((vs.map fun w => ((w : Nat) : Int)).map V.int ++ [.int 3])) (sm8.trans s9) nta) ntb
            exact ⟨sm10.seq hc7, sm10.seq hD7, _, _, _, rfl⟩
          · rintro σ H7 ⟨hc7, hD7, z8, z9, z10, rfl⟩
            exact ⟨hc7, _, _, _, _, _, _, _, _, _, _, _, rfl⟩
    · intro σ H' _
      exact k _
  · refine ⟨_, rfl, c, rfl, ⟨_, hc1⟩, ?_⟩
    refine for_list (K := K) (a := c) (xs := ms.map V.int) (fun i σ H' => SqL K H' c (ms.map V.int) ∧ ∃ y2 y3 y4 y5 y6 y7 y8 y9 y10 y11 y12 : Option V, σ = [some (.ref a), some (.ref c), y2, y3, y4, y5, y6, y7, y8, y9, y10, y11, y12]) ⟨hc1, none, none, none, none, none, none, none, none, none, none, none, rfl⟩ (fun _ _ _ _ h => h.1) ?_ ?_
    · rintro i v σ H1 hi ⟨hca, y2, y3, y4, y5, y6, y7, y8, y9, y10, y11, y12, rfl⟩
      obtain ⟨cell, _, rfl⟩ : ∃ n, ms[i]? = some n ∧ V.int n = v := by
        rw [List.getElem?_map] at hi
        cases e : ms[i]? with
        | none => rw [e] at hi; cases hi
        | some n => rw [e] at hi; exact ⟨n, rfl, Option.some.inj hi⟩
      refine ⟨_, rfl, cell, 60, rfl, by decide, fun H2 pd ds hl hd sm2 npd hpd => ?_⟩
      have hca2 := sm2.seq hca
      have hp2 : SqL K H2 pd (ds.map V.int) := .inl (.inl hpd)
      obtain ⟨d0, e0, _⟩ := atD hl hd (j := 0) (by decide) (by decide)
      obtain ⟨d1, e1, _⟩ := atD hl hd (j := 1) (by decide) (by decide)
      obtain ⟨m, hm, e4⟩ := idx4 d1 d0
      -- many
      refine ⟨_, rfl, pd, _, 0, _, rfl, rfl, hp2, e0, _, _, rfl, rfl, (by show (0 : Int) < 60; decide), _, rfl, pd, _, 0, _, rfl, rfl, hp2, e0, _, _, rfl, rfl, (by show (0 : Int) < 513; decide), (by show 4 ≤ sizeLine; decide), fun q1 nq1 => ?_⟩
      have s1 := same_upd' (o := .lst [V.int (d0 % 60), V.int (d0 % 513), V.int 512, V.int 0]) nq1
      refine ⟨_, rfl, pd, _, 1, _, rfl, rfl, s1.seq hp2, e1, _, _, rfl, rfl, (by show (0 : Int) < 4; decide), q1, _, _, _, rfl, rfl, .inl (.inl upd_same), e4, ?_⟩
      -- the image
      refine ⟨_, rfl, m, rfl, by omega, by omega, fun D nD => ?_⟩
      refine lc_range (lo := 0) (n := m.toNat) (fun i H' => Same (upd H2 q1 (.lst [V.int (d0 % 60), V.int (d0 % 513), V.int 512, V.int 0])) H' ∧ ∃ vs : List Nat, vs.length = i ∧ (∀ v ∈ vs, v ≤ 65535) ∧ H' D = some (.lst (vs.map nV)))
        ⟨same_upd' nD, [], rfl, (fun _ h => by cases h), upd_same⟩ ?_ ?_
      · rintro j H' hj ⟨sm3, vs, hvl, hvb, hD⟩
        have hp' := sm3.seq (s1.seq hp2)
        obtain ⟨da, ea, ba⟩ := atD hl hd (j := (0 + (j : Int)) % 60) (by omega) (by omega)
        obtain ⟨db, eb, bb⟩ := atD hl hd (j := ((0 + (j : Int)) / 60 + 7 * (0 + (j : Int))) % 60) (by omega) (by omega)
        refine ⟨rfl, ?_⟩
        refine ⟨_, rfl, _, rfl, _, _, rfl, rfl, (by show (0 : Int) < 60; decide), pd, _, _, _, rfl, rfl, hp', ea, _, _, rfl, rfl, .inl ⟨by omega, by omega⟩, ?_⟩
        refine ⟨_, rfl, _, rfl, _, _, rfl, rfl, ⟨by decide, by decide⟩, _, rfl, _, _, rfl, rfl, .inl ⟨by decide, by decide⟩, _, _, rfl, rfl, _, _, rfl, rfl, (by show (0 : Int) < 60; decide), pd, _, _, _, rfl, rfl, hp', eb, _, _, rfl, rfl, _, _, rfl, rfl, (by show (0 : Int) < 65536; decide), ?_⟩
        have z0 := Int.emod_nonneg (da * 1009 + db) (show (65536 : Int) ≠ 0 by decide)
        have z1 := Int.emod_lt_of_pos (da * 1009 + db) (show (0 : Int) < 65536 by decide)
        obtain ⟨n, en⟩ : ∃ n : Nat, (da * 1009 + db) % 65536 = (n : Int) := ⟨_, (Int.toNat_of_nonneg z0).symm⟩
        refine ⟨_, hD, ?_, same_of sm3 nD, vs ++ [n], ?_, ?_, ?_⟩
        · rw [List.length_map, hvl]
          exact small1000 (by omega)
        · rw [List.length_append, hvl]
          rfl
        · intro v hv
          rcases List.mem_append.mp hv with h | h
          · exact hvb v h
          · rw [List.mem_singleton.mp h]
            omega
        · rw [upd_same, List.map_append]
          show some (HO.lst (vs.map nV ++ [V.int ((da * 1009 + db) % 65536)])) = _
          rw [en]
          rfl
      · rintro H' ⟨sm3, vs, hvl, hvb, hD⟩
        have hv512 : vs.length ≤ 512 := by omega
        have hca3 := sm3.seq (s1.seq hca2)
        have hDs : SqL K H' D (vs.map nV) := SqL.of hD
        -- handed, text
        refine ⟨_, rfl, D, _, rfl, .inl hDs, fun l nl => ?_⟩
        have s4 := same_upd' (o := .lst (vs.map nV)) nl
        refine ⟨_, rfl, l, vs, rfl, .inl (.inl upd_same), hv512, hvb, fun H5 sm5 => ?_⟩
        have hl5 : SqL K H5 l (vs.map nV) := sm5.seq (.inl (.inl upd_same))
        have hD5 : SqL K H5 D (vs.map nV) := sm5.seq (s4.seq hDs)
        have hc5 := sm5.seq (s4.seq hca3)
        have dpv : ∀ H6, DpAll K H6 (vs.map nV) ((vs.map fun w => ((w : Nat) : Int)).map PyData.int) := fun H6 => by
          rw [map_nV]
          exact dp_ints _
        have eqr : PyData.eqv (.list ((vs.map fun w => ((w : Nat) : Int)).map PyData.int)) (.list ((vs.map fun w => ((w : Nat) : Int)).map PyData.int)) = true := SeqAt.eqv_refl _ (can_ints _)
        refine ⟨_, rfl, _, rfl, _, _, .lst hl5 (dpv _), .lst hD5 (dpv _), shaped_ints _, shaped_ints _, _, rfl, ?_⟩
        rw [eqr]
        refine ⟨_, rfl, ⟨_, rfl⟩, _, rfl, D, rfl, ⟨_, hD5⟩, fun G nG => ?_⟩
        refine lc_list (K := K) (a := D) (xs := vs.map nV) (fun i H' => Same H5 H' ∧ H' G = some (.lst ((vs.take i).map fun n => V.str (rowM n)))) ⟨same_upd' nG, by rw [upd_same]; rfl⟩ (fun i H' _ h => h.1.seq hD5) ?_ ?_
        · intro i x H' hi hP
          obtain ⟨sm, hG⟩ := hP
          obtain ⟨n, hn, rfl⟩ : ∃ n, vs[i]? = some n ∧ nV n = x := by
            rw [List.getElem?_map] at hi
            cases e : vs[i]? with
            | none => rw [e] at hi; cases hi
            | some n => rw [e] at hi; exact ⟨n, rfl, Option.some.inj hi⟩
          have hmm : n ∈ vs := List.mem_of_getElem? hn
          have hil : i < vs.length := (List.getElem?_eq_some_iff.mp hn).1
          refine ⟨rfl, ?_⟩
          refine ⟨_, rfl, n, rfl, hvb n hmm, _, hG, ?_, same_of sm nG, ?_⟩
          · rw [List.length_map, List.length_take]
            exact Nat.lt_of_le_of_lt (Nat.min_le_left _ _) (small1000 (by omega))
          · rw [upd_same, List.take_add_one, hn, List.map_append]
            rfl
        · intro H6 hP
          obtain ⟨sm6, hG⟩ := hP
          rw [List.length_map, List.take_length] at hG
          refine ⟨_, G, vs.map rowM, rfl, rfl, .inl (.inl (.inl (by rw [List.map_map]; exact hG))), ?_, rfl, _, rfl, ?_⟩
          · have h1 := sum_le_mul (fun n => (rowM n).length) 12 vs (fun n hm => by
              show (rowM n).length ≤ 12
              unfold rowM
              rw [len_sS]
              exact rowL_len (hvb n hm))
            rw [List.map_map, List.length_map]
            have ez1 : ((·.length) ∘ rowM : Nat → Nat) = fun n => (rowM n).length := rfl
            rw [ez1]
            have ez2 : (("\n" : Str)).length = 1 := rfl
            rw [ez2]
            omega
          rw [join_eq]
          refine iteNS rfl ?_
          have hc6 := sm6.seq hc5
          have hD6 := sm6.seq hD5
          -- two readings
          refine ⟨2, rfl, by decide, by decide, ?_⟩
          refine for_range (lo := 0) (n := 2) (fun i σ H' => SqL K H' c (ms.map V.int) ∧ SqL K H' D (vs.map nV) ∧ ∃ z8 z9 z10 : Option V, σ = [some (.ref a), some (.ref c), some (.int cell), some (.ref pd), some (.int m), some (.ref D), some (.ref l), some (.str (textM vs)), z8, z9, z10, y11, y12]) ⟨hc6, hD6, _, _, _, rfl⟩ ?_ ?_
          · rintro i σ H7 _ ⟨hc7, hD7, z8, z9, z10, rfl⟩
            refine ⟨_, rfl, textM vs, _, _, rfl, text_len hv512 hvb, run_text hv512 hvb, (fun _ h => by cases h), rfl, fun H8 t ta tb sm8 nt nta ntb ht hta htb => ?_⟩
            refine ⟨t, _, rfl, SqT.of ht, rfl, _, _, rfl, _, _, rfl, rfl, ?_⟩
            refine ⟨_, rfl, _, rfl, _, _, .lst (SqL.of hta) (dp_ints _), .lst (sm8.seq hD7) (dpv _), shaped_ints _, shaped_ints _, _, rfl, ?_⟩
            rw [eqr]
            refine ⟨_, rfl, fun d nd => ?_⟩
            have s9 := same_upd' (o := .dK []) nd
            refine ⟨tb, d, [], [], rfl, rfl, s9 _ _ htb, upd_same, rfl, (fun _ h => by cases h), _, rfl, ?_⟩
            have hta9 := s9 _ _ hta
            have htb9 := s9 _ _ htb
            have nab : ta ≠ tb := ne_of hta htb (by intro q; cases q)
            refine ⟨_, rfl, .inl ⟨rfl, _, SqL.of hta9⟩, ta, _, _, rfl, rfl, hta9, ?_, ?_⟩
            · rw [List.length_map, List.length_map]
              exact small1000 (by omega)
            refine ⟨_, rfl, tb, _, rfl, DPut.k (k := Sum.inr "x") (show upd _ ta _ tb = some (.dK []) by rw [upd_ne nab.symm]; exact htb9) (by show 0 < sizeLine; decide), ?_⟩
            have sm10 := same_of (o := .dK (putK [] (Sum.inr "x") (.int 1))) (same_of (o := .lst ((vs.map fun w => ((w : Nat) : Int)).map V.int ++ [.int 3])) (sm8.trans s9) nta) ntb
            exact ⟨sm10.seq hc7, sm10.seq hD7, _, _, _, rfl⟩
          · rintro σ H7 ⟨hc7, hD7, z8, z9, z10, rfl⟩
            exact ⟨hc7, _, _, _, _, _, _, _, _, _, _, _, rfl⟩
    · intro σ H' _
      exact k _
end
end Bh

/-! What the top has written; the head. -/
namespace Bh
open PySem PySem.Spec PyProof.Rows L2
def relB : List Str → List Value → Bool
  | [], [] => true
  | x :: xs, u :: us => Value.isStrOf x u && relB xs us
  | _, _ => false
theorem relB_vals : ∀ {xs : List Str} {us : List Value}, relB xs us = true → Vals (xs.map V.str) us
  | [], [], _ => .nil
  | x :: xs, u :: us, h => by
    unfold relB at h
    rw [Bool.and_eq_true] at h
    obtain ⟨t, e⟩ := Value.isStrOf_shape h.1
    exact .cons ⟨t, e⟩ (relB_vals h.2)
  | [], _ :: _, h => by cases h
  | _ :: _, [], h => by cases h
theorem tup_of {K : PySem.W.Frag} {a : Addr} {xs : List Str} {its : Array Value} {n : Nat} {sl : Array (Option Value)} (l : K.lookup a = some ⟨.type "tuple", none, .seq its n, sl⟩) (v : relB xs its.toList = true) (hx : xs.length ≤ 1000) : ∀ H, SqT K H a (xs.map V.str) := fun H => by
  have r := relB_vals v
  have hl := r.length
  rw [List.length_map] at hl
  refine .inr ⟨_, its, n, l, rfl, rfl, ?_, r⟩
  rw [← Array.length_toList, ← hl]
  exact Nat.le_of_lt (small1000 hx)
set_option linter.unusedVariables false in
theorem all_mk {l : PySem.W.OpenLaw} {w : World} {K : PySem.W.Frag} {h : Heap} {mg : Str → Option Value} {fa C : Addr} (X : K.In h) (G : h.Ns mainGlobals mg) (hfa : mg "law" = some (.ref fa))
    {f_rowof f_listed f_numberof f_figured f_isname f_typed f_llawdigits f_law f_minit f_mtake f_mtakename f_mtakebare f_mtakepair f_mtakeat f_mtakekeep f_mtakeworth f_mlay f_mputnamesin aN aX : Addr} {od_rowof an_rowof od_listed an_listed od_numberof an_numberof od_figured an_figured od_isname an_isname od_typed an_typed od_llawdigits an_llawdigits od_law an_law od_minit an_minit od_mtake an_mtake od_mtakename an_mtakename od_mtakebare an_mtakebare od_mtakepair an_mtakepair od_mtakeat an_mtakeat od_mtakekeep an_mtakekeep od_mtakeworth an_mtakeworth od_mlay an_mlay od_mputnamesin an_mputnamesin : Option Addr} {sl_rowof sl_listed sl_numberof sl_figured sl_isname sl_typed sl_llawdigits sl_law sl_minit sl_mtake sl_mtakename sl_mtakebare sl_mtakepair sl_mtakeat sl_mtakekeep sl_mtakeworth sl_mlay sl_mputnamesin sl_aN sl_aX : Array (Option Value)} {oc_rowof kV_rowof dc_rowof pm_rowof cd_rowof ct_rowof oc_listed kV_listed dc_listed pm_listed cd_listed ct_listed oc_figured kV_figured dc_figured pm_figured cd_figured ct_figured oc_numberof kV_numberof dc_numberof pm_numberof cd_numberof ct_numberof oc_isname kV_isname dc_isname pm_isname cd_isname ct_isname oc_typed kV_typed dc_typed pm_typed cd_typed ct_typed oc_llawdigits kV_llawdigits dc_llawdigits pm_llawdigits cd_llawdigits ct_llawdigits oc_law kV_law dc_law pm_law cd_law ct_law oc_minit kV_minit dc_minit pm_minit cd_minit ct_minit oc_mtake kV_mtake dc_mtake pm_mtake cd_mtake ct_mtake oc_mtakename kV_mtakename dc_mtakename pm_mtakename cd_mtakename ct_mtakename oc_mtakebare kV_mtakebare dc_mtakebare pm_mtakebare cd_mtakebare ct_mtakebare oc_mtakepair kV_mtakepair dc_mtakepair pm_mtakepair cd_mtakepair ct_mtakepair oc_mtakeat kV_mtakeat dc_mtakeat pm_mtakeat cd_mtakeat ct_mtakeat oc_mtakekeep kV_mtakekeep dc_mtakekeep pm_mtakekeep cd_mtakekeep ct_mtakekeep oc_mtakeworth kV_mtakeworth dc_mtakeworth pm_mtakeworth cd_mtakeworth ct_mtakeworth oc_mlay kV_mlay dc_mlay pm_mlay cd_mlay ct_mlay oc_mputnamesin kV_mputnamesin dc_mputnamesin pm_mputnamesin cd_mputnamesin ct_mputnamesin : Value} {t_X_SPAN t_FIGURES_MOST t_LETTERS_MOST t_FLASH_END t_WORD_MOST t_ERASED : Tok} {its_aN its_aX : Array Value} {n_aN n_aX : Nat}
    (a_rowof : PySem.W.nsIn K mainGlobals "row_of" = some (some (.ref f_rowof)))
    (l_rowof : K.lookup f_rowof = some ⟨oc_rowof, od_rowof, .func (PySem.W.fnOf "row_of" "row_of" (defArgs sRow) (defBody sRow) (defScope sRow) .none kV_rowof dc_rowof pm_rowof an_rowof cd_rowof ct_rowof), sl_rowof⟩)
    (c_rowof : PySem.W.codeIn K cd_rowof "row_of" = true)
    (k_rowof : PySem.W.keepIn K (.ref f_rowof) = true)
    (a_listed : PySem.W.nsIn K mainGlobals "listed" = some (some (.ref f_listed)))
    (l_listed : K.lookup f_listed = some ⟨oc_listed, od_listed, .func (PySem.W.fnOf "listed" "listed" (defArgs sListed) (defBody sListed) (defScope sListed) .none kV_listed dc_listed pm_listed an_listed cd_listed ct_listed), sl_listed⟩)
    (c_listed : PySem.W.codeIn K cd_listed "listed" = true)
    (k_listed : PySem.W.keepIn K (.ref f_listed) = true)
    (a_figured : PySem.W.nsIn K mainGlobals "figured" = some (some (.ref f_figured)))
    (l_figured : K.lookup f_figured = some ⟨oc_figured, od_figured, .func (PySem.W.fnOf "figured" "figured" (defArgs sFig) (defBody sFig) (defScope sFig) .none kV_figured dc_figured pm_figured an_figured cd_figured ct_figured), sl_figured⟩)
    (c_figured : PySem.W.codeIn K cd_figured "figured" = true)
    (k_figured : PySem.W.keepIn K (.ref f_figured) = true)
    (a_numberof : PySem.W.nsIn K mainGlobals "number_of" = some (some (.ref f_numberof)))
    (l_numberof : K.lookup f_numberof = some ⟨oc_numberof, od_numberof, .func (PySem.W.fnOf "number_of" "number_of" (defArgs sNum) (defBody sNum) (defScope sNum) .none kV_numberof dc_numberof pm_numberof an_numberof cd_numberof ct_numberof), sl_numberof⟩)
    (c_numberof : PySem.W.codeIn K cd_numberof "number_of" = true)
    (k_numberof : PySem.W.keepIn K (.ref f_numberof) = true)
    (a_isname : PySem.W.nsIn K mainGlobals "is_name" = some (some (.ref f_isname)))
    (l_isname : K.lookup f_isname = some ⟨oc_isname, od_isname, .func (PySem.W.fnOf "is_name" "is_name" (defArgs sNm) (defBody sNm) (defScope sNm) .none kV_isname dc_isname pm_isname an_isname cd_isname ct_isname), sl_isname⟩)
    (c_isname : PySem.W.codeIn K cd_isname "is_name" = true)
    (k_isname : PySem.W.keepIn K (.ref f_isname) = true)
    (a_typed : PySem.W.nsIn K mainGlobals "typed" = some (some (.ref f_typed)))
    (l_typed : K.lookup f_typed = some ⟨oc_typed, od_typed, .func (PySem.W.fnOf "typed" "typed" (defArgs sTyped) (defBody sTyped) (defScope sTyped) .none kV_typed dc_typed pm_typed an_typed cd_typed ct_typed), sl_typed⟩)
    (c_typed : PySem.W.codeIn K cd_typed "typed" = true)
    (k_typed : PySem.W.keepIn K (.ref f_typed) = true)
    (a_llawdigits : PySem.W.nsIn K mainGlobals "_law_digits" = some (some (.ref f_llawdigits)))
    (l_llawdigits : K.lookup f_llawdigits = some ⟨oc_llawdigits, od_llawdigits, .func (PySem.W.fnOf "_law_digits" "_law_digits" (defArgs sDig) (defBody sDig) (defScope sDig) .none kV_llawdigits dc_llawdigits pm_llawdigits an_llawdigits cd_llawdigits ct_llawdigits), sl_llawdigits⟩)
    (c_llawdigits : PySem.W.codeIn K cd_llawdigits "_law_digits" = true)
    (k_llawdigits : PySem.W.keepIn K (.ref f_llawdigits) = true)
    (a_law : PySem.W.nsIn K mainGlobals "law" = some (some (.ref f_law)))
    (l_law : K.lookup f_law = some ⟨oc_law, od_law, .func (PySem.W.fnOf "law" "law" (defArgs sLaw) (defBody sLaw) (defScope sLaw) .none kV_law dc_law pm_law an_law cd_law ct_law), sl_law⟩)
    (c_law : PySem.W.codeIn K cd_law "law" = true)
    (k_law : PySem.W.keepIn K (.ref f_law) = true)
    (aC : PySem.W.nsIn K mainGlobals "Sheet" = some (some (.ref C)))
    (a_minit : PySem.W.findIn K (.ref C) "__init__" = some (some (.ref f_minit)))
    (i_minit : PySem.W.isFn K (.ref f_minit) = true)
    (l_minit : K.lookup f_minit = some ⟨oc_minit, od_minit, .func (PySem.W.fnOf "__init__" "Sheet.__init__" (defArgs sInit) (defBody sInit) (defScope sInit) .none kV_minit dc_minit pm_minit an_minit cd_minit ct_minit), sl_minit⟩)
    (c_minit : PySem.W.codeIn K cd_minit "Sheet.__init__" = true)
    (k_minit : PySem.W.keepIn K (.ref f_minit) = true)
    (a_mtake : PySem.W.findIn K (.ref C) "take" = some (some (.ref f_mtake)))
    (i_mtake : PySem.W.isFn K (.ref f_mtake) = true)
    (l_mtake : K.lookup f_mtake = some ⟨oc_mtake, od_mtake, .func (PySem.W.fnOf "take" "Sheet.take" (defArgs sTake) (defBody sTake) (defScope sTake) .none kV_mtake dc_mtake pm_mtake an_mtake cd_mtake ct_mtake), sl_mtake⟩)
    (c_mtake : PySem.W.codeIn K cd_mtake "Sheet.take" = true)
    (k_mtake : PySem.W.keepIn K (.ref f_mtake) = true)
    (a_mtakename : PySem.W.findIn K (.ref C) "take_name" = some (some (.ref f_mtakename)))
    (i_mtakename : PySem.W.isFn K (.ref f_mtakename) = true)
    (l_mtakename : K.lookup f_mtakename = some ⟨oc_mtakename, od_mtakename, .func (PySem.W.fnOf "take_name" "Sheet.take_name" (defArgs sTName) (defBody sTName) (defScope sTName) .none kV_mtakename dc_mtakename pm_mtakename an_mtakename cd_mtakename ct_mtakename), sl_mtakename⟩)
    (c_mtakename : PySem.W.codeIn K cd_mtakename "Sheet.take_name" = true)
    (k_mtakename : PySem.W.keepIn K (.ref f_mtakename) = true)
    (a_mtakebare : PySem.W.findIn K (.ref C) "take_bare" = some (some (.ref f_mtakebare)))
    (i_mtakebare : PySem.W.isFn K (.ref f_mtakebare) = true)
    (l_mtakebare : K.lookup f_mtakebare = some ⟨oc_mtakebare, od_mtakebare, .func (PySem.W.fnOf "take_bare" "Sheet.take_bare" (defArgs sTBare) (defBody sTBare) (defScope sTBare) .none kV_mtakebare dc_mtakebare pm_mtakebare an_mtakebare cd_mtakebare ct_mtakebare), sl_mtakebare⟩)
    (c_mtakebare : PySem.W.codeIn K cd_mtakebare "Sheet.take_bare" = true)
    (k_mtakebare : PySem.W.keepIn K (.ref f_mtakebare) = true)
    (a_mtakepair : PySem.W.findIn K (.ref C) "take_pair" = some (some (.ref f_mtakepair)))
    (i_mtakepair : PySem.W.isFn K (.ref f_mtakepair) = true)
    (l_mtakepair : K.lookup f_mtakepair = some ⟨oc_mtakepair, od_mtakepair, .func (PySem.W.fnOf "take_pair" "Sheet.take_pair" (defArgs sTPair) (defBody sTPair) (defScope sTPair) .none kV_mtakepair dc_mtakepair pm_mtakepair an_mtakepair cd_mtakepair ct_mtakepair), sl_mtakepair⟩)
    (c_mtakepair : PySem.W.codeIn K cd_mtakepair "Sheet.take_pair" = true)
    (k_mtakepair : PySem.W.keepIn K (.ref f_mtakepair) = true)
    (a_mtakeat : PySem.W.findIn K (.ref C) "take_at" = some (some (.ref f_mtakeat)))
    (i_mtakeat : PySem.W.isFn K (.ref f_mtakeat) = true)
    (l_mtakeat : K.lookup f_mtakeat = some ⟨oc_mtakeat, od_mtakeat, .func (PySem.W.fnOf "take_at" "Sheet.take_at" (defArgs sTAt) (defBody sTAt) (defScope sTAt) .none kV_mtakeat dc_mtakeat pm_mtakeat an_mtakeat cd_mtakeat ct_mtakeat), sl_mtakeat⟩)
    (c_mtakeat : PySem.W.codeIn K cd_mtakeat "Sheet.take_at" = true)
    (k_mtakeat : PySem.W.keepIn K (.ref f_mtakeat) = true)
    (a_mtakekeep : PySem.W.findIn K (.ref C) "take_keep" = some (some (.ref f_mtakekeep)))
    (i_mtakekeep : PySem.W.isFn K (.ref f_mtakekeep) = true)
    (l_mtakekeep : K.lookup f_mtakekeep = some ⟨oc_mtakekeep, od_mtakekeep, .func (PySem.W.fnOf "take_keep" "Sheet.take_keep" (defArgs sTKeep) (defBody sTKeep) (defScope sTKeep) .none kV_mtakekeep dc_mtakekeep pm_mtakekeep an_mtakekeep cd_mtakekeep ct_mtakekeep), sl_mtakekeep⟩)
    (c_mtakekeep : PySem.W.codeIn K cd_mtakekeep "Sheet.take_keep" = true)
    (k_mtakekeep : PySem.W.keepIn K (.ref f_mtakekeep) = true)
    (a_mtakeworth : PySem.W.findIn K (.ref C) "take_worth" = some (some (.ref f_mtakeworth)))
    (i_mtakeworth : PySem.W.isFn K (.ref f_mtakeworth) = true)
    (l_mtakeworth : K.lookup f_mtakeworth = some ⟨oc_mtakeworth, od_mtakeworth, .func (PySem.W.fnOf "take_worth" "Sheet.take_worth" (defArgs sTWorth) (defBody sTWorth) (defScope sTWorth) .none kV_mtakeworth dc_mtakeworth pm_mtakeworth an_mtakeworth cd_mtakeworth ct_mtakeworth), sl_mtakeworth⟩)
    (c_mtakeworth : PySem.W.codeIn K cd_mtakeworth "Sheet.take_worth" = true)
    (k_mtakeworth : PySem.W.keepIn K (.ref f_mtakeworth) = true)
    (a_mlay : PySem.W.findIn K (.ref C) "lay" = some (some (.ref f_mlay)))
    (i_mlay : PySem.W.isFn K (.ref f_mlay) = true)
    (l_mlay : K.lookup f_mlay = some ⟨oc_mlay, od_mlay, .func (PySem.W.fnOf "lay" "Sheet.lay" (defArgs sLay) (defBody sLay) (defScope sLay) .none kV_mlay dc_mlay pm_mlay an_mlay cd_mlay ct_mlay), sl_mlay⟩)
    (c_mlay : PySem.W.codeIn K cd_mlay "Sheet.lay" = true)
    (k_mlay : PySem.W.keepIn K (.ref f_mlay) = true)
    (a_mputnamesin : PySem.W.findIn K (.ref C) "put_names_in" = some (some (.ref f_mputnamesin)))
    (i_mputnamesin : PySem.W.isFn K (.ref f_mputnamesin) = true)
    (l_mputnamesin : K.lookup f_mputnamesin = some ⟨oc_mputnamesin, od_mputnamesin, .func (PySem.W.fnOf "put_names_in" "Sheet.put_names_in" (defArgs sPut) (defBody sPut) (defScope sPut) .none kV_mputnamesin dc_mputnamesin pm_mputnamesin an_mputnamesin cd_mputnamesin ct_mputnamesin), sl_mputnamesin⟩)
    (c_mputnamesin : PySem.W.codeIn K cd_mputnamesin "Sheet.put_names_in" = true)
    (k_mputnamesin : PySem.W.keepIn K (.ref f_mputnamesin) = true)
    (pg : PySem.W.plainGet K C Str.empty = true)
    (hd : PySem.W.hasDictIn K C = true)
    (po : PySem.W.plainOver K C = true)
    (sa : PySem.W.findIn K (.ref C) "__setattr__" = some (some (.builtin "object.__setattr__")))
    (mk : PySem.W.makesIn K C = true)
    (kc : PySem.W.keepIn K (.ref C) = true)
    (n_words : PySem.W.findIn K (.ref C) "words" = some none)
    (n_names : PySem.W.findIn K (.ref C) "names" = some none)
    (n_uses : PySem.W.findIn K (.ref C) "uses" = some none)
    (g_X_SPAN : PySem.W.nsIn K mainGlobals "X_SPAN" = some (some (.int 1024 t_X_SPAN)))
    (g_FIGURES_MOST : PySem.W.nsIn K mainGlobals "FIGURES_MOST" = some (some (.int 5 t_FIGURES_MOST)))
    (g_LETTERS_MOST : PySem.W.nsIn K mainGlobals "LETTERS_MOST" = some (some (.int 8 t_LETTERS_MOST)))
    (g_FLASH_END : PySem.W.nsIn K mainGlobals "FLASH_END" = some (some (.int 512 t_FLASH_END)))
    (g_WORD_MOST : PySem.W.nsIn K mainGlobals "WORD_MOST" = some (some (.int 65535 t_WORD_MOST)))
    (g_ERASED : PySem.W.nsIn K mainGlobals "ERASED" = some (some (.int 65535 t_ERASED)))
    (g_aN : PySem.W.nsIn K mainGlobals "OP_NAMES" = some (some (.ref aN)))
    (l_aN : K.lookup aN = some ⟨.type "tuple", none, .seq its_aN n_aN, sl_aN⟩)
    (v_aN : relB opN its_aN.toList = true)
    (g_aX : PySem.W.nsIn K mainGlobals "OPS_WITH_X" = some (some (.ref aX)))
    (l_aX : K.lookup aX = some ⟨.type "tuple", none, .seq its_aX n_aX, sl_aX⟩)
    (v_aX : relB opX its_aX.toList = true)
    (z_len : PySem.W.nsIn K mainGlobals "len" = some none)
    (z_int : PySem.W.nsIn K mainGlobals "int" = some none)
    (z_enumerate : PySem.W.nsIn K mainGlobals "enumerate" = some none)
    (z_range : PySem.W.nsIn K mainGlobals "range" = some none)
    (z_list : PySem.W.nsIn K mainGlobals "list" = some none)
    : ∃ fd : FuncData, (∀ (s : Shared) (v : Value), BindsTo s fd ⟨[v], []⟩ [("_law_script", v)]) ∧ ∀ base : Heap, K.In base → base.Ns mainGlobals mg → FnOk l.prog w K mg base CX0 7 fa fd ["_law_script"] (spLaw K) := by
  have e := hfa.symm.trans (PySem.W.mg_of X G a_law)
  cases e
  have T : Tx K mg aN aX C := {
    xs := ⟨_, PySem.W.mg_of X G g_X_SPAN⟩
    fm := ⟨_, PySem.W.mg_of X G g_FIGURES_MOST⟩
    lm := ⟨_, PySem.W.mg_of X G g_LETTERS_MOST⟩
    fe := ⟨_, PySem.W.mg_of X G g_FLASH_END⟩
    wm := ⟨_, PySem.W.mg_of X G g_WORD_MOST⟩
    er := ⟨_, PySem.W.mg_of X G g_ERASED⟩
    gN := PySem.W.mg_of X G g_aN
    vN := tup_of l_aN v_aN (by decide)
    tN := ⟨_, l_aN, rfl, rfl⟩
    gX := PySem.W.mg_of X G g_aX
    vX := tup_of l_aX v_aX (by decide)
    len := PySem.W.mg_none_of X G z_len
    int := PySem.W.mg_none_of X G z_int
    enu := PySem.W.mg_none_of X G z_enumerate
    cl := ⟨pg, hd, po, sa⟩
    nW := n_words
    nN := n_names
    nU := n_uses
    gC := PySem.W.mg_of X G aC }
  have F_rowof := fun_mk (st := sRow) l_rowof c_rowof k_rowof
  have b_rowof := F_rowof.binds (ps := ["word"]) fun _ _ _ _ _ _ us hl => match us, hl with | [_], _ => rfl
  have F_listed := fun_mk (st := sListed) l_listed c_listed k_listed
  have b_listed := F_listed.binds (ps := ["image"]) fun _ _ _ _ _ _ us hl => match us, hl with | [_], _ => rfl
  have F_figured := fun_mk (st := sFig) l_figured c_figured k_figured
  have F_numberof := fun_mk (st := sNum) l_numberof c_numberof k_numberof
  have b_figured := F_figured.binds (ps := ["part", "most"]) fun _ _ _ _ _ _ us hl => match us, hl with | [_, _], _ => rfl
  have b_numberof := F_numberof.binds (ps := ["part"]) fun _ _ _ _ _ _ us hl => match us, hl with | [_], _ => rfl
  have F_isname := fun_mk (st := sNm) l_isname c_isname k_isname
  have b_isname := F_isname.binds (ps := ["part"]) fun _ _ _ _ _ _ us hl => match us, hl with | [_], _ => rfl
  have F_typed := fun_mk (st := sTyped) l_typed c_typed k_typed
  have b_typed := F_typed.binds (ps := ["text"]) fun _ _ _ _ _ _ us hl => match us, hl with | [_], _ => rfl
  have F_llawdigits := fun_mk (st := sDig) l_llawdigits c_llawdigits k_llawdigits
  have b_llawdigits := F_llawdigits.binds (ps := ["_law_cell_here", "_law_many"]) fun _ _ _ _ _ _ us hl => match us, hl with | [_, _], _ => rfl
  have F_law := fun_mk (st := sLaw) l_law c_law k_law
  have F_minit := fun_mk (st := sInit) l_minit c_minit k_minit
  have b_minit := F_minit.binds (ps := ["self"]) fun _ _ _ _ _ _ us hl => match us, hl with | [_], _ => rfl
  have F_mtake := fun_mk (st := sTake) l_mtake c_mtake k_mtake
  have b_mtake := F_mtake.binds (ps := ["self", "at", "row"]) fun _ _ _ _ _ _ us hl => match us, hl with | [_, _, _], _ => rfl
  have F_mtakename := fun_mk (st := sTName) l_mtakename c_mtakename k_mtakename
  have b_mtakename := F_mtakename.binds (ps := ["self", "name"]) fun _ _ _ _ _ _ us hl => match us, hl with | [_, _], _ => rfl
  have F_mtakebare := fun_mk (st := sTBare) l_mtakebare c_mtakebare k_mtakebare
  have b_mtakebare := F_mtakebare.binds (ps := ["self", "op"]) fun _ _ _ _ _ _ us hl => match us, hl with | [_, _], _ => rfl
  have F_mtakepair := fun_mk (st := sTPair) l_mtakepair c_mtakepair k_mtakepair
  have b_mtakepair := F_mtakepair.binds (ps := ["self", "at", "head", "part"]) fun _ _ _ _ _ _ us hl => match us, hl with | [_, _, _, _], _ => rfl
  have F_mtakeat := fun_mk (st := sTAt) l_mtakeat c_mtakeat k_mtakeat
  have b_mtakeat := F_mtakeat.binds (ps := ["self", "address"]) fun _ _ _ _ _ _ us hl => match us, hl with | [_, _], _ => rfl
  have F_mtakekeep := fun_mk (st := sTKeep) l_mtakekeep c_mtakekeep k_mtakekeep
  have b_mtakekeep := F_mtakekeep.binds (ps := ["self", "many"]) fun _ _ _ _ _ _ us hl => match us, hl with | [_, _], _ => rfl
  have F_mtakeworth := fun_mk (st := sTWorth) l_mtakeworth c_mtakeworth k_mtakeworth
  have b_mtakeworth := F_mtakeworth.binds (ps := ["self", "at", "base", "part", "most"]) fun _ _ _ _ _ _ us hl => match us, hl with | [_, _, _, _, _], _ => rfl
  have F_mlay := fun_mk (st := sLay) l_mlay c_mlay k_mlay
  have b_mlay := F_mlay.binds (ps := ["self", "word", "many"]) fun _ _ _ _ _ _ us hl => match us, hl with | [_, _, _], _ => rfl
  have F_mputnamesin := fun_mk (st := sPut) l_mputnamesin c_mputnamesin k_mputnamesin
  have b_mputnamesin := F_mputnamesin.binds (ps := ["self"]) fun _ _ _ _ _ _ us hl => match us, hl with | [_], _ => rfl
  refine ⟨PySem.W.fnOf "law" "law" (defArgs sLaw) (defBody sLaw) (defScope sLaw) .none kV_law dc_law pm_law an_law cd_law ct_law, fun s v => .of_eq rfl, fun base _ _ => ?_⟩
  have C_isname : CalF l.prog w K mg base 2 "is_name" ["part"] spNm _ _ := ⟨PySem.W.mg_of X G a_isname, k_isname, b_isname, ok_nm F_isname T⟩
  have C_numberof : CalF l.prog w K mg base 2 "number_of" ["part"] spNum _ _ := ⟨PySem.W.mg_of X G a_numberof, k_numberof, b_numberof, ok_num F_numberof T F_figured b_figured (PySem.W.mg_of X G a_figured)⟩
  have C_rowof : CalF l.prog w K mg base 2 "row_of" ["word"] spRow _ _ := ⟨PySem.W.mg_of X G a_rowof, k_rowof, b_rowof, ok_row F_rowof T⟩
  have C_listed : CalF l.prog w K mg base 3 "listed" ["image"] (spListed K) _ _ := ⟨PySem.W.mg_of X G a_listed, k_listed, b_listed, ok_listed F_listed T F_rowof b_rowof (PySem.W.mg_of X G a_rowof)⟩
  have C_mlay : CalM l.prog w K mg base C 2 "lay" ["self", "word", "many"] (spM C aLay) _ _ := ⟨⟨a_mlay, i_mlay, k_mlay⟩, b_mlay, ok_lay F_mlay T⟩
  have C_mtakename : CalM l.prog w K mg base C 3 "take_name" ["self", "name"] (spM C aName) _ _ := ⟨⟨a_mtakename, i_mtakename, k_mtakename⟩, b_mtakename, ok_tname F_mtakename T C_isname⟩
  have C_mtakebare : CalM l.prog w K mg base C 3 "take_bare" ["self", "op"] (spM C aBare) _ _ := ⟨⟨a_mtakebare, i_mtakebare, k_mtakebare⟩, b_mtakebare, ok_tbare F_mtakebare T C_mlay⟩
  have C_mtakeat : CalM l.prog w K mg base C 3 "take_at" ["self", "address"] (spM C aAt) _ _ := ⟨⟨a_mtakeat, i_mtakeat, k_mtakeat⟩, b_mtakeat, ok_tat F_mtakeat T C_mlay⟩
  have C_mtakekeep : CalM l.prog w K mg base C 3 "take_keep" ["self", "many"] (spM C aKeep) _ _ := ⟨⟨a_mtakekeep, i_mtakekeep, k_mtakekeep⟩, b_mtakekeep, ok_tkeep F_mtakekeep T C_mlay⟩
  have C_mtakeworth : CalM l.prog w K mg base C 3 "take_worth" ["self", "at", "base", "part", "most"] (spM C aWorth) _ _ := ⟨⟨a_mtakeworth, i_mtakeworth, k_mtakeworth⟩, b_mtakeworth, ok_tworth F_mtakeworth T C_mlay C_isname C_numberof⟩
  have C_mtakepair : CalM l.prog w K mg base C 4 "take_pair" ["self", "at", "head", "part"] (spM C aPair) _ _ := ⟨⟨a_mtakepair, i_mtakepair, k_mtakepair⟩, b_mtakepair, ok_tpair F_mtakepair T C_mtakeat C_mtakekeep C_mtakeworth C_numberof⟩
  have C_mtake : CalM l.prog w K mg base C 5 "take" ["self", "at", "row"] (spM C aTake) _ _ := ⟨⟨a_mtake, i_mtake, k_mtake⟩, b_mtake, ok_take F_mtake T C_mtakename C_mtakebare C_mtakepair⟩
  have C_mputnamesin : CalM l.prog w K mg base C 2 "put_names_in" ["self"] (spPut C) _ _ := ⟨⟨a_mputnamesin, i_mputnamesin, k_mputnamesin⟩, b_mputnamesin, ok_put F_mputnamesin T⟩
  have C_typed : CalF l.prog w K mg base 6 "typed" ["text"] spTyped _ _ := ⟨PySem.W.mg_of X G a_typed, k_typed, b_typed, ok_typed F_typed T ⟨mk, a_minit, i_minit, kc⟩ (ok_init F_minit T) b_minit C_mtake C_mputnamesin⟩
  have C_llawdigits : CalF l.prog w K mg base 2 "_law_digits" ["_law_cell_here", "_law_many"] spDig _ _ := ⟨PySem.W.mg_of X G a_llawdigits, k_llawdigits, b_llawdigits, ok_dig F_llawdigits (PySem.W.mg_none_of X G z_range)⟩
  exact ok_law F_law C_llawdigits C_rowof C_listed C_typed (PySem.W.mg_none_of X G z_range) (PySem.W.mg_none_of X G z_list)
end Bh

open PySem PySem.W PyProof.Rows in
set_option maxRecDepth 100000 in
set_option maxHeartbeats 0 in
theorem PySem.Challenge.cw_boardheld_k02_whole_images_listed_holds : PySem.Challenge.rw_boardheld_k02_whole_images_listed.Holds := by
  w_on; o_law; k_head; (case hw => w_witness2)
  k_fill
  refine L2.walk_of (l := PySem.Challenge.rw_boardheld_k02_whole_images_listed) (n := 63) (k := 7) (x := "_law_script") (CX := fun _ => L2.CX0) (sp := fun w => Bh.spLaw _) rfl (by decide) rfl ⟨rfl, by decide, by decide⟩ (fun w h Y => PySem.W.kIn_of Y) ?F (fun _ _ a ns hl _ hS => ⟨a, ns, rfl, hS, hl, fun _ => rfl⟩) (fun _ _ _ _ _ h => h)
  case F =>
    intro w mg fa h KX G hmg
    refine' Bh.all_mk KX G hmg ?a_rowof ?l_rowof ?c_rowof ?k_rowof ?a_listed ?l_listed ?c_listed ?k_listed ?a_figured ?l_figured ?c_figured ?k_figured ?a_numberof ?l_numberof ?c_numberof ?k_numberof ?a_isname ?l_isname ?c_isname ?k_isname ?a_typed ?l_typed ?c_typed ?k_typed ?a_llawdigits ?l_llawdigits ?c_llawdigits ?k_llawdigits ?a_law ?l_law ?c_law ?k_law ?aC ?a_minit ?i_minit ?l_minit ?c_minit ?k_minit ?a_mtake ?i_mtake ?l_mtake ?c_mtake ?k_mtake ?a_mtakename ?i_mtakename ?l_mtakename ?c_mtakename ?k_mtakename ?a_mtakebare ?i_mtakebare ?l_mtakebare ?c_mtakebare ?k_mtakebare ?a_mtakepair ?i_mtakepair ?l_mtakepair ?c_mtakepair ?k_mtakepair ?a_mtakeat ?i_mtakeat ?l_mtakeat ?c_mtakeat ?k_mtakeat ?a_mtakekeep ?i_mtakekeep ?l_mtakekeep ?c_mtakekeep ?k_mtakekeep ?a_mtakeworth ?i_mtakeworth ?l_mtakeworth ?c_mtakeworth ?k_mtakeworth ?a_mlay ?i_mlay ?l_mlay ?c_mlay ?k_mlay ?a_mputnamesin ?i_mputnamesin ?l_mputnamesin ?c_mputnamesin ?k_mputnamesin ?pg ?hd ?po ?sa ?mk ?kc ?n_words ?n_names ?n_uses ?g_X_SPAN ?g_FIGURES_MOST ?g_LETTERS_MOST ?g_FLASH_END ?g_WORD_MOST ?g_ERASED ?g_aN ?l_aN ?v_aN ?g_aX ?l_aX ?v_aX ?z_len ?z_int ?z_enumerate ?z_range ?z_list
    (case a_rowof => k_is)
    (case l_rowof => k_is)
    (case c_rowof => k_is)
    (case k_rowof => k_is)
    (case a_listed => k_is)
    (case l_listed => k_is)
    (case c_listed => k_is)
    (case k_listed => k_is)
    (case a_figured => k_is)
    (case l_figured => k_is)
    (case c_figured => k_is)
    (case k_figured => k_is)
    (case a_numberof => k_is)
    (case l_numberof => k_is)
    (case c_numberof => k_is)
    (case k_numberof => k_is)
    (case a_isname => k_is)
    (case l_isname => k_is)
    (case c_isname => k_is)
    (case k_isname => k_is)
    (case a_typed => k_is)
    (case l_typed => k_is)
    (case c_typed => k_is)
    (case k_typed => k_is)
    (case a_llawdigits => k_is)
    (case l_llawdigits => k_is)
    (case c_llawdigits => k_is)
    (case k_llawdigits => k_is)
    (case a_law => k_is)
    (case l_law => k_is)
    (case c_law => k_is)
    (case k_law => k_is)
    (case aC => k_is)
    (case a_minit => k_is)
    (case i_minit => k_is)
    (case l_minit => k_is)
    (case c_minit => k_is)
    (case k_minit => k_is)
    (case a_mtake => k_is)
    (case i_mtake => k_is)
    (case l_mtake => k_is)
    (case c_mtake => k_is)
    (case k_mtake => k_is)
    (case a_mtakename => k_is)
    (case i_mtakename => k_is)
    (case l_mtakename => k_is)
    (case c_mtakename => k_is)
    (case k_mtakename => k_is)
    (case a_mtakebare => k_is)
    (case i_mtakebare => k_is)
    (case l_mtakebare => k_is)
    (case c_mtakebare => k_is)
    (case k_mtakebare => k_is)
    (case a_mtakepair => k_is)
    (case i_mtakepair => k_is)
    (case l_mtakepair => k_is)
    (case c_mtakepair => k_is)
    (case k_mtakepair => k_is)
    (case a_mtakeat => k_is)
    (case i_mtakeat => k_is)
    (case l_mtakeat => k_is)
    (case c_mtakeat => k_is)
    (case k_mtakeat => k_is)
    (case a_mtakekeep => k_is)
    (case i_mtakekeep => k_is)
    (case l_mtakekeep => k_is)
    (case c_mtakekeep => k_is)
    (case k_mtakekeep => k_is)
    (case a_mtakeworth => k_is)
    (case i_mtakeworth => k_is)
    (case l_mtakeworth => k_is)
    (case c_mtakeworth => k_is)
    (case k_mtakeworth => k_is)
    (case a_mlay => k_is)
    (case i_mlay => k_is)
    (case l_mlay => k_is)
    (case c_mlay => k_is)
    (case k_mlay => k_is)
    (case a_mputnamesin => k_is)
    (case i_mputnamesin => k_is)
    (case l_mputnamesin => k_is)
    (case c_mputnamesin => k_is)
    (case k_mputnamesin => k_is)
    (case pg => k_is)
    (case hd => k_is)
    (case po => k_is)
    (case sa => k_is)
    (case mk => k_is)
    (case kc => k_is)
    (case n_words => k_is)
    (case n_names => k_is)
    (case n_uses => k_is)
    (case g_X_SPAN => k_is)
    (case g_FIGURES_MOST => k_is)
    (case g_LETTERS_MOST => k_is)
    (case g_FLASH_END => k_is)
    (case g_WORD_MOST => k_is)
    (case g_ERASED => k_is)
    (case g_aN => k_is)
    (case l_aN => k_is)
    (case v_aN => decide +kernel)
    (case g_aX => k_is)
    (case l_aX => k_is)
    (case v_aX => decide +kernel)
    (case z_len => k_is)
    (case z_int => k_is)
    (case z_enumerate => k_is)
    (case z_range => k_is)
    (case z_list => k_is)

