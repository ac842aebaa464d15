import PyProof.Rows.All
import Wide.All
import OpenK.AllK
import Wide.FinOn
import HandS.ForMost
import HandS.FStr
import HandS.Strs
import HandS.StrMore
import HandS.DeepEq
import HandS.OwnEq
import HandS.DictComp
import HandS.IsInst
import HandS.Finally
import PySem.Challenge.RW_boardheld_k03_whole_texts_with_names
set_option Elab.async false
set_option linter.all false
set_option maxRecDepth 100000
set_option maxHeartbeats 4000000
/-! Texts and rows: what a row of a word is, what a row of a text lays. Plain lists of codes; no program here. -/
namespace Bh
open PySem PySem.Spec PyProof.Rows L2
open TL

/-! ### codes below 128 -/
theorem dig_small : ∀ c : Nat, c < 128 → Unicode.isDigit c = (decide (48 ≤ c) && decide (c ≤ 57)) := by decide +kernel
theorem alp_small : ∀ c : Nat, c < 128 → Unicode.isAlpha c = ((decide (65 ≤ c) && decide (c ≤ 90)) || (decide (97 ≤ c) && decide (c ≤ 122))) := by decide +kernel
theorem low_small : ∀ c : Nat, c < 128 → Unicode.isLower c = (decide (97 ≤ c) && decide (c ≤ 122)) := by decide +kernel
theorem upp_small : ∀ c : Nat, c < 128 → Unicode.isUpper c = (decide (65 ≤ c) && decide (c ≤ 90)) := by decide +kernel
theorem tit_small : ∀ c : Nat, c < 128 → Unicode.isTitle c = false := by decide +kernel

/-- a text by its codes -/
def sS (l : List Nat) : Str := ⟨l.toArray⟩
theorem tl_sS (l : List Nat) : tl (sS l) = l := rfl
theorem sS_tl (x : Str) : sS (tl x) = x := mk_tl x
theorem sS_inj {l m : List Nat} (h : sS l = sS m) : l = m := by
  have e := congrArg tl h
  exact e
theorem eq_sS {x : Str} {l : List Nat} (h : tl x = l) : x = sS l := by
  rw [← h]
  exact (mk_tl x).symm
theorem len_sS (l : List Nat) : (sS l).length = l.length := by
  rw [len_tl, tl_sS]
theorem all_tl (x : Str) (f : Nat → Bool) : x.cps.all f = (tl x).all f := by
  show x.cps.all f = x.cps.toList.all f
  simp
theorem any_tl (x : Str) (f : Nat → Bool) : x.cps.any f = (tl x).any f := by
  show x.cps.any f = x.cps.toList.any f
  simp

def digB (c : Nat) : Bool := decide (48 ≤ c) && decide (c ≤ 57)
def lowB (c : Nat) : Bool := decide (97 ≤ c) && decide (c ≤ 122)

/-- isascii and isdigit, together -/
theorem asc_dig (x : Str) : (Txt.isascii x && Txt.isdigit x) = (!(tl x).isEmpty && (tl x).all digB) := by
  unfold Txt.isascii Txt.isdigit
  rw [all_tl, all_tl, len_tl]
  generalize tl x = l
  cases l with
  | nil => rfl
  | cons a r =>
    have e : ∀ m : List Nat, (m.all (· < 128) && m.all Unicode.isDigit) = m.all digB := by
      intro m
      induction m with
      | nil => rfl
      | cons c t ih =>
        simp only [List.all_cons]
        rw [← ih]
        by_cases hc : c < 128
        · rw [dig_small c hc]
          unfold digB
          simp [hc]
          cases decide (48 ≤ c) <;> cases decide (c ≤ 57) <;> simp
        · have : digB c = false := by
            unfold digB
            simp
            omega
          rw [this]
          simp [hc]
    rw [← e]
    simp
theorem asc_low (x : Str) : (Txt.isascii x && (Txt.isalpha x && Txt.islower x)) = (!(tl x).isEmpty && (tl x).all lowB) := by
  unfold Txt.isascii Txt.isalpha Txt.islower
  rw [all_tl, all_tl, any_tl, any_tl, len_tl]
  generalize tl x = l
  by_cases ha : l.all (· < 128) = true
  · have hc : ∀ c ∈ l, c < 128 := by simpa [List.all_eq_true] using ha
    rw [ha, Bool.true_and]
    have e1 : l.all Unicode.isAlpha = l.all (fun c => (decide (65 ≤ c) && decide (c ≤ 90)) || lowB c) := by
      rw [Bool.eq_iff_iff, List.all_eq_true, List.all_eq_true]
      constructor <;> intro h c hm <;> have := h c hm <;> rw [alp_small c (hc c hm)] at * <;> exact this
    have e2 : l.any Unicode.isLower = l.any lowB := by
      rw [Bool.eq_iff_iff, List.any_eq_true, List.any_eq_true]
      constructor <;> rintro ⟨c, hm, h⟩ <;> refine ⟨c, hm, ?_⟩ <;> rw [low_small c (hc c hm)] at * <;> exact h
    have e3 : (l.any fun c => Unicode.isUpper c || Unicode.isTitle c) = l.any fun c => decide (65 ≤ c) && decide (c ≤ 90) := by
      rw [Bool.eq_iff_iff, List.any_eq_true, List.any_eq_true]
      constructor <;> rintro ⟨c, hm, h⟩ <;> refine ⟨c, hm, ?_⟩ <;> rw [upp_small c (hc c hm), tit_small c (hc c hm), Bool.or_false] at * <;> exact h
    rw [e1, e2, e3]
    cases l with
    | nil => rfl
    | cons a r =>
      rw [Bool.eq_iff_iff]
      simp only [List.isEmpty_cons, Bool.not_false, Bool.true_and, Bool.and_eq_true, List.all_eq_true, List.any_eq_true, Bool.not_eq_true', List.any_eq_false]
      constructor
      · rintro ⟨⟨_, h1⟩, _, h3⟩ c hm
        have q := h1 c hm
        have q3 := h3 c hm
        rw [Bool.or_eq_true] at q
        rcases q with q | q
        · exact absurd (Eq.mp (Bool.and_eq_true _ _) q) q3
        · exact q
      · intro h
        refine ⟨⟨by simp, fun c hm => by rw [h c hm]; simp⟩, ⟨a, List.mem_cons_self, h a List.mem_cons_self⟩, fun c hm => ?_⟩
        have := h c hm
        unfold lowB at this
        simp at this ⊢
        omega
  · have hf : l.all (· < 128) = false := by simpa using ha
    rw [hf, Bool.false_and]
    symm
    rw [Bool.and_eq_false_iff]
    right
    rw [← Bool.not_eq_true]
    intro h
    apply ha
    rw [List.all_eq_true] at h ⊢
    intro c hm
    have := h c hm
    unfold lowB at this
    simp at this ⊢
    omega

/-! ### numbers and names of a row -/
/-- what number a part writes -/
def numOf (p : Str) : Option Int :=
  if (!(tl p).isEmpty && (tl p).all digB && decide ((tl p).length ≤ 5)) = true then
    (if ((tl p).head? = some 48 ∧ tl p ≠ [48]) then none else some ((NumText.digitsVal (tl p) : Nat) : Int))
  else none
def isNm (p : Str) : Bool := !(tl p).isEmpty && (tl p).all lowB && decide ((tl p).length ≤ 8)
theorem allDig {l : List Nat} (h : l.all digB = true) : NumText.AllDigits l := by
  intro c hm
  have q := (List.all_eq_true.mp h) c hm
  unfold digB at q
  simp at q
  exact q
theorem numOf_nonneg {p : Str} {n : Int} (h : numOf p = some n) : 0 ≤ n := by
  unfold numOf at h
  split at h
  · split at h
    · cases h
    · cases h
      exact Int.natCast_nonneg _
  · cases h
theorem dv_lt : ∀ (l : List Nat), NumText.AllDigits l → NumText.digitsVal l < 10 ^ l.length := by
  have key : ∀ (l : List Nat) (a : Nat), NumText.AllDigits l → l.foldl (fun acc c => acc * 10 + (c - 48)) a < (a + 1) * 10 ^ l.length := by
    intro l
    induction l with
    | nil => intro a _; simp
    | cons c r ih =>
      intro a h
      have hc : 48 ≤ c ∧ c ≤ 57 := h c List.mem_cons_self
      have q := ih (a * 10 + (c - 48)) (fun d hd => h d (List.mem_cons_of_mem _ hd))
      rw [List.foldl_cons, List.length_cons, Nat.pow_succ]
      refine Nat.lt_of_lt_of_le q ?_
      have : (a * 10 + (c - 48) + 1) ≤ (a + 1) * 10 := by omega
      calc (a * 10 + (c - 48) + 1) * 10 ^ r.length ≤ ((a + 1) * 10) * 10 ^ r.length := Nat.mul_le_mul_right _ this
        _ = (a + 1) * (10 ^ r.length * 10) := by rw [Nat.mul_assoc, Nat.mul_comm 10]
  intro l h
  have := key l 0 h
  simpa [NumText.digitsVal] using this
theorem numOf_lt {p : Str} {n : Int} (h : numOf p = some n) : n < 100000 := by
  unfold numOf at h
  split at h
  · rename_i hc
    split at h
    · cases h
    · cases h
      simp only [Bool.and_eq_true, decide_eq_true_eq] at hc
      have q := dv_lt (tl p) (allDig hc.1.2)
      have q2 : 10 ^ (tl p).length ≤ 10 ^ 5 := Nat.pow_le_pow_right (by decide) hc.2
      omega
  · cases h

/-! ### the ops -/
def opN : List Str := ["mark", "lit", "get", "put", "add", "sub", "and", "xor", "getb", "putb", "tob", "swap", "go", "ifz", "ifn", "call", "ret", "push", "pop", "sleep", "let", "back", "half"]
def opX : List Str := ["lit", "get", "put", "add", "sub", "and", "xor", "getb", "putb", "go", "ifz", "ifn", "call", "let"]
def nmL (op : Nat) : List Nat := tl (opN.getD op Str.empty)
def posN (z : Str) : Nat := opN.findIdx (fun y => y == z)
def wordL (w : Nat) : List Nat := [119, 111, 114, 100, 32] ++ numL w
/-- the row of a word, its codes -/
def rowL (w : Nat) : List Nat :=
  if 23 ≤ w / 1024 then wordL w else
  if opN.getD (w / 1024) Str.empty ∈ opX then nmL (w / 1024) ++ 32 :: numL (w % 1024) else
  if w % 1024 = 0 then nmL (w / 1024) else wordL w
def rowM (w : Nat) : Str := sS (rowL w)

/-! ### the mirror of the sheet -/
structure Sh where
  words : List Int
  names : List (Str × Int)
  uses : List (Int × Int × Str)
def sh0 : Sh := ⟨[], [], []⟩
def layM (w : Int) (m : Int) (s : Sh) : Bool × Sh :=
  if (s.words.length : Int) + m > 512 then (false, s) else (true, { s with words := s.words ++ List.replicate m.toNat w })
def hasN (ns : List (Str × Int)) (x : Str) : Bool := ns.any fun p => p.1 == x
def nameM (x : Str) (s : Sh) : Bool × Sh :=
  if isNm x = false ∨ hasN s.names x = true then (false, s) else (true, { s with names := s.names ++ [(x, (s.words.length : Int))] })
def bareM (x : Str) (s : Sh) : Bool × Sh := if x ∉ opN ∨ x ∈ opX then (false, s) else layM ((posN x : Int) * 1024) 1 s
def worthM (at_ : Int) (base : Int) (p : Str) (most : Int) (s : Sh) : Bool × Sh :=
  if isNm p = true then layM base 1 { s with uses := s.uses ++ [(at_, (s.words.length : Int), p)] } else
  match numOf p with
  | none => (false, s)
  | some n => if n > most then (false, s) else layM (base + n) 1 s
def atM (o : Option Int) (s : Sh) : Bool × Sh := match o with
  | none => (false, s)
  | some n => if n < (s.words.length : Int) then (false, s) else layM 65535 (n - s.words.length) s
def keepM (o : Option Int) (s : Sh) : Bool × Sh := match o with
  | none => (false, s)
  | some n => layM 0 n s
def pairM (at_ : Int) (h p : Str) (s : Sh) : Bool × Sh :=
  if h = "at" then atM (numOf p) s else
  if h = "keep" then keepM (numOf p) s else
  if h = "word" then worthM at_ 0 p 65535 s else
  if h ∈ opX then worthM at_ ((posN h : Int) * 1024) p 1023 s else (false, s)
def takeM (at_ : Int) (row : Str) (s : Sh) : Bool × Sh :=
  if row = "" then (true, s) else
  if Txt.endswith row ":" = true then nameM (cutS row none (some (-1))) s else
  match Txt.split row " " with
  | [_] => bareM row s
  | [a, b] => pairM at_ a b s
  | _ => (false, s)
/-- the rows of a text, one behind the other -/
def runM : Int → List Str → Sh → Option Sh
  | _, [], s => some s
  | i, r :: rs, s => if (takeM i r s).1 = true then runM (i + 1) rs (takeM i r s).2 else none
end Bh

/-! The row of a word is read to the word. -/
namespace Bh
open PySem PySem.Spec PyProof.Rows L2
open TL
theorem ends_colon (x : Str) : Txt.endswith x ":" = true ↔ (tl x).getLast? = some 58 := by
  have e : (":" : Str) = ⟨#[58]⟩ := by decide +kernel
  rw [e]
  have h1 : (⟨#[58]⟩ : Str).length = 1 := rfl
  unfold Txt.endswith
  rw [List.getLast?_eq_getElem?, ← len_tl, Bool.and_eq_true, decide_eq_true_eq, h1]
  have q := PySem.StrLaws.subAt_one x 58 (x.length - 1)
  rw [h1] at q
  constructor
  · rintro ⟨a, b⟩
    exact q.mp ⟨by omega, b⟩
  · intro h
    have z := q.mpr h
    have : (tl x)[x.length - 1]? = some 58 := h
    have hl := (List.getElem?_eq_some_iff.mp this).1
    rw [← len_tl] at hl
    exact ⟨by omega, z.2⟩
theorem sp_tl : tl (" " : Str) = [32] := by decide +kernel
theorem sp_k : (" " : Str).cps.all (· < 256) = true := by decide +kernel
theorem split_two {p r : List Nat} (hp : 32 ∉ p) (hr : 32 ∉ r) : Txt.split (sS (p ++ 32 :: r)) " " = [sS p, sS r] := by
  apply map_tl_inj
  rw [split_spl _ _ (by rw [sp_tl]; exact List.cons_ne_nil _ _) (kind_ok sp_k), sp_tl]
  show spl [32] 0 [] (p ++ ([32] ++ r)) = _
  rw [spl_part1 hp, spl_last1 hr]
  rfl
theorem split_one {p : List Nat} (hp : 32 ∉ p) : Txt.split (sS p) " " = [sS p] := by
  apply map_tl_inj
  rw [split_spl _ _ (by rw [sp_tl]; exact List.cons_ne_nil _ _) (kind_ok sp_k), sp_tl]
  show spl [32] 0 [] p = _
  rw [spl_last1 hp]
  rfl
theorem sS_ne {l m : List Nat} (h : l ≠ m) : sS l ≠ sS m := fun e => h (sS_inj e)
theorem str_sS (x : Str) : x = sS (tl x) := (sS_tl x).symm
/-- a number's first figure -/
theorem numL_head : ∀ n : Nat, 1 ≤ n → ∃ c r, numL n = c :: r ∧ 49 ≤ c := by
  intro n
  induction n using Nat.strongRecOn with
  | _ n ih =>
    intro h1
    by_cases h : n < 10
    · rw [numL_lt h]
      exact ⟨48 + n, [], rfl, by omega⟩
    · obtain ⟨c, r, e, hc⟩ := ih (n / 10) (by omega) (by omega)
      rw [numL_step (by omega), e]
      exact ⟨c, r ++ [48 + n % 10], rfl, hc⟩
theorem numL_zero : numL 0 = [48] := numL_lt (by decide)
theorem numL_all (n : Nat) : (numL n).all digB = true := by
  rw [List.all_eq_true]
  intro c hm
  have q := numL_digits n c hm
  unfold digB
  simp
  exact q
theorem numOf_num {n : Nat} (h : n < 100000) : numOf (sS (numL n)) = some (n : Int) := by
  unfold numOf
  rw [tl_sS, numL_all]
  have hne : (numL n).isEmpty = false := by
    cases e : numL n with
    | nil => exact absurd e (numL_ne n)
    | cons _ _ => rfl
  have hl : (numL n).length ≤ 5 := numL_len (by decide) (by omega)
  rw [hne, decide_eq_true hl]
  rw [if_pos (by rfl), if_neg, numL_val]
  rintro ⟨h1, h2⟩
  by_cases h0 : n = 0
  · rw [h0] at h2
    exact h2 numL_zero
  · obtain ⟨c, r, e, hc⟩ := numL_head n (by omega)
    rw [e] at h1
    have := Option.some.inj h1
    omega
theorem not_nm_num (n : Nat) : isNm (sS (numL n)) = false := by
  unfold isNm
  rw [tl_sS]
  cases e : numL n with
  | nil => exact absurd e (numL_ne n)
  | cons c r =>
    have q := numL_digits n c (by rw [e]; exact List.mem_cons_self)
    have : lowB c = false := by
      unfold lowB
      have : decide (97 ≤ c) = false := decide_eq_false (by omega)
      rw [this]
      rfl
    rw [List.all_cons, this]
    rfl
theorem numL_nosp (n : Nat) : 32 ∉ numL n := numL_free (.inl (by decide))
theorem numL_last (n : Nat) (p : List Nat) : (p ++ numL n).getLast? ≠ some 58 := by
  intro h
  have hne := numL_ne n
  rw [List.getLast?_append] at h
  cases e : (numL n).getLast? with
  | none => exact hne (List.getLast?_eq_none_iff.mp e)
  | some c =>
    rw [e] at h
    have h' : some c = some 58 := h
    have hm := List.mem_of_getLast? e
    rw [Option.some.inj h'] at hm
    exact numL_free (.inr (by decide)) hm
/-- facts of the ops -/
def opOk (op : Nat) : Bool :=
  decide (posN (opN.getD op Str.empty) = op) && decide (opN.getD op Str.empty ∈ opN) && decide (32 ∉ nmL op) && decide (nmL op ≠ []) && decide ((nmL op).getLast? ≠ some 58) &&
    decide (opN.getD op Str.empty ≠ ("at" : Str)) && decide (opN.getD op Str.empty ≠ ("keep" : Str)) && decide (opN.getD op Str.empty ≠ ("word" : Str)) && decide (opN.getD op Str.empty ≠ ("" : Str))
theorem ops_ok : ∀ op : Nat, op < 23 → opOk op = true := by decide +kernel
theorem lay_one {w : Int} {s : Sh} (hl : s.words.length < 512) : layM w 1 s = (true, { s with words := s.words ++ [w] }) := by
  unfold layM
  rw [if_neg (by omega)]
  rfl
theorem take_row {i : Int} {w : Nat} (hw : w ≤ 65535) {s : Sh} (hl : s.words.length < 512) : takeM i (rowM w) s = (true, { s with words := s.words ++ [(w : Int)] }) := by
  have hword : ∀ s : Sh, s.words.length < 512 → takeM i (sS (wordL w)) s = (true, { s with words := s.words ++ [(w : Int)] }) := fun s hl => by
    have e0 : ("" : Str) = sS [] := by decide +kernel
    unfold takeM
    rw [e0, if_neg (sS_ne (by unfold wordL; simp))]
    rw [if_neg (fun h => numL_last w _ ((ends_colon _).mp h))]
    have e1 : sS (wordL w) = sS ([119, 111, 114, 100] ++ 32 :: numL w) := by
      unfold wordL
      simp
    rw [e1, split_two (by decide) (numL_nosp w)]
    show pairM i (sS [119, 111, 114, 100]) (sS (numL w)) s = _
    unfold pairM
    have n1 : ¬ sS [119, 111, 114, 100] = ("at" : Str) := by decide +kernel
    have n2 : ¬ sS [119, 111, 114, 100] = ("keep" : Str) := by decide +kernel
    have n3 : sS [119, 111, 114, 100] = ("word" : Str) := by decide +kernel
    rw [if_neg n1, if_neg n2, if_pos n3]
    unfold worthM
    rw [not_nm_num, if_neg Bool.false_ne_true, numOf_num (by omega)]
    show (if (w : Int) > 65535 then (false, s) else layM (0 + (w : Int)) 1 s) = _
    rw [if_neg (by omega), lay_one hl, Int.zero_add]
  unfold rowM rowL
  by_cases h23 : 23 ≤ w / 1024
  · rw [if_pos h23]
    exact hword s hl
  rw [if_neg h23]
  have ok := ops_ok (w / 1024) (by omega)
  unfold opOk at ok
  simp only [Bool.and_eq_true, decide_eq_true_eq] at ok
  obtain ⟨⟨⟨⟨⟨⟨⟨⟨o1, o2⟩, o3⟩, o4⟩, o5⟩, o6⟩, o7⟩, o8⟩, o9⟩ := ok
  have enm : sS (nmL (w / 1024)) = opN.getD (w / 1024) Str.empty := sS_tl _
  have e0 : ("" : Str) = sS [] := by decide +kernel
  by_cases hx : opN.getD (w / 1024) Str.empty ∈ opX
  · rw [if_pos hx]
    unfold takeM
    rw [e0, if_neg (sS_ne (by simp)), if_neg (fun h => by
      have q := (ends_colon _).mp h
      rw [tl_sS] at q
      have e : nmL (w / 1024) ++ 32 :: numL (w % 1024) = (nmL (w / 1024) ++ [32]) ++ numL (w % 1024) := by simp
      rw [e] at q
      exact numL_last _ _ q), split_two o3 (numL_nosp _)]
    show pairM i (sS (nmL (w / 1024))) (sS (numL (w % 1024))) s = _
    unfold pairM
    rw [enm, if_neg o6, if_neg o7, if_neg o8, if_pos hx, o1]
    unfold worthM
    rw [not_nm_num, if_neg Bool.false_ne_true, numOf_num (by omega)]
    show (if ((w % 1024 : Nat) : Int) > 1023 then (false, s) else layM ((((w / 1024 : Nat) : Int)) * 1024 + ((w % 1024 : Nat) : Int)) 1 s) = _
    rw [if_neg (by omega), lay_one hl]
    have : (((w / 1024 : Nat) : Int)) * 1024 + ((w % 1024 : Nat) : Int) = (w : Int) := by omega
    rw [this]
  · rw [if_neg hx]
    by_cases h0 : w % 1024 = 0
    · rw [if_pos h0]
      unfold takeM
      rw [e0, if_neg (sS_ne o4), if_neg (fun h => o5 (by have q := (ends_colon _).mp h; rw [tl_sS] at q; exact q)), split_one o3]
      show bareM (sS (nmL (w / 1024))) s = _
      unfold bareM
      rw [enm, if_neg (fun q => q.elim (fun q => q o2) hx), o1, lay_one hl]
      have : (((w / 1024 : Nat) : Int)) * 1024 = (w : Int) := by omega
      rw [this]
    · rw [if_neg h0]
      exact hword s hl
theorem run_rows : ∀ (ws : List Nat) (i : Int) (s : Sh), (∀ w ∈ ws, w ≤ 65535) → s.words.length + ws.length ≤ 512 → runM i (ws.map rowM) s = some { s with words := s.words ++ ws.map fun w => ((w : Nat) : Int) }
  | [], i, s, _, _ => by
    show some s = _
    rw [List.map_nil, List.append_nil]
  | w :: ws, i, s, h, hl => by
    rw [List.length_cons] at hl
    rw [List.map_cons]
    unfold runM
    rw [take_row (h w List.mem_cons_self) (by omega), if_pos rfl]
    have ih := run_rows ws (i + 1) { s with words := s.words ++ [(w : Int)] } (fun y hy => h y (List.mem_cons_of_mem _ hy)) (by
      show (s.words ++ [(w : Int)]).length + ws.length ≤ 512
      rw [List.length_append, List.length_singleton]
      omega)
    show runM (i + 1) (ws.map rowM) { s with words := s.words ++ [(w : Int)] } = _
    rw [ih]
    simp
end Bh

/-! != of two tuples whose items are the same: flat things, lists, dicts. -/
namespace Bh
open PySem PySem.Spec PyProof.Rows L2 PySem.Calls PySem.SeqAt
open AutoSeq1 (wpAny_loadPart')
open MeetsSeq MeetsSeq2 MeetsSeq3
section
variable {prog : Program} {w : World} {A : Around} {R : Result → Shared → Prop}
theorem tup_ne_body (x y : Addr) (us vs : Array Value) (n1 n2 : Nat) (d1 d2 : Option Addr) (sl1 sl2 : Array (Option Value)) (hsz : us.size = vs.size) {s : Shared}
    (hx : s.heap.get? x = some { cls := .type "tuple", dict := d1, data := .seq us n1, slots := sl1 }) (hy : s.heap.get? y = some { cls := .type "tuple", dict := d2, data := .seq vs n2, slots := sl2 })
    (same : ∀ i (h1 : i < us.size) (h2 : i < vs.size), EqP prog w A.in1 s us[i] vs[i] true) (fin : R (.ok (.ret (.bool false))) s) :
    wpAny (model prog w) A.in1 (Builtin.«tuple.__ne__» ⟨[.ref x, .ref y], []⟩) (GQ.FinOf prog w A R) (fun e s' => R (.error e) s') s := by
  have f2 := AutoSeq1.sub_tuple_tuple
  have hz : (us.toList.zip vs.toList).length = us.size := by simp [hsz]
  obtain ⟨hp, g, d, tk, os⟩ := s
  wp_walk using wpAny_loadPart' hx, wpAny_loadPart' hy, wpAny_forIn_list _ (fun rest acc s' => acc.1 = none ∧ s' = ⟨hp, g, d, tk, os⟩ ∧ ∃ k, k ≤ us.size ∧ rest = (us.toList.zip vs.toList).drop k) _
  case turn =>
    rintro ⟨u, v⟩ rest acc s' ⟨ha, rfl, k, hk, hr⟩
    have hlt : k < (us.toList.zip vs.toList).length := by
      rcases Nat.lt_or_ge k (us.toList.zip vs.toList).length with q | q
      · exact q
      · rw [List.drop_of_length_le q] at hr
        cases hr
    have h1 : k < us.size := hz ▸ hlt
    have h2 : k < vs.size := hsz ▸ h1
    rw [List.drop_eq_getElem_cons hlt] at hr
    obtain ⟨hpair, htail⟩ := List.cons.inj hr
    have e1 : u = us[k] := by
      have q := congrArg Prod.fst hpair
      simpa using q
    have e2 : v = vs[k] := by
      have q := congrArg Prod.snd hpair
      simpa using q
    subst e1 e2
    refine wpAny_bind (same k h1 h2 _ _ ?_)
    wp_walk
    exact ⟨rfl, rfl, k + 1, h1, htail⟩
  case fin =>
    rintro ⟨b1, b2⟩ s' ⟨ha, rfl, k, hk, hr⟩
    simp only at ha
    subst ha
    wp_walk
    simpa [Builtin.Tuple.tupleCompareSizes, hsz] using fin
  case h =>
    exact ⟨rfl, rfl, 0, Nat.zero_le _, rfl⟩
end
section
variable {prog : Program} {w : World} {A : Around} {E : Value → Shared → Prop} {s : Shared}
theorem rc_tup_ne {x y : Addr} {us vs : Array Value} {Q : Value → Shared → Prop} (hx : s.heap.IsTuple x us) (hy : s.heap.IsTuple y vs) (hsz : us.size = vs.size) (hu : A.units < cLine)
    (same : ∀ i (h1 : i < us.size) (h2 : i < vs.size), EqP prog w A.in1 s us[i] vs[i] true) (q : Q (.bool false) s) : wpAny (model prog w) A (richCompare .NotEq (.ref x) (.ref y)) Q E s := by
  obtain ⟨⟨c1, d1, data1, sl1⟩, ho1, hc1, n1, hd1⟩ := id hx
  obtain ⟨⟨c2, d2, data2, sl2⟩, ho2, hc2, n2, hd2⟩ := id hy
  simp only at hc1 hd1 hc2 hd2
  subst hc1 hd1 hc2 hd2
  refine wpAny_richCompare_same_room (op := .NotEq) ⟨_, ho1, rfl⟩ ⟨_, ho2, rfl⟩ F.slot_tuple_ne (GQ.call_here F.slot_tuple_ne ⟨_, ho1, rfl⟩ F.entry_tuple_ne (F.args_tuple_ne_2 _ _) ?_) hu
  exact tup_ne_body (R := wants (fun v s' => v ≠ .notImplemented ∧ Q v s') E) x y us vs n1 n2 d1 d2 sl1 sl2 hsz ho1 ho2 same ⟨(fun z => nomatch z), q⟩
end
section
variable {X : Cx}
/-- t != u, two tuples that are equal: items flat and the same, lists or dicts that are equal -/
def rNeT (K : PySem.W.Frag) : R2 := fun x y H Q => ∃ a b xs ys n, x = .ref a ∧ y = .ref b ∧ SqT K H a xs ∧ SqT K H b ys ∧ n ≤ 60 ∧ Paired (EqV K H n) xs ys ∧ Q (.bl false) H
theorem op_neT (hu : X.A.units + 64 < cLine) : OpR X (compareOp .NotEq) (rNeT X.K) := by
  intro pins s σ H x y v u Q I rx ry h
  obtain ⟨a, b, xs, ys, n, rfl, rfl, ha, hb, hn, hp, q⟩ := h
  cases rx
  cases ry
  obtain ⟨us, r1, p1, _⟩ := I.tuple ha
  obtain ⟨ws, r2, p2, _⟩ := I.tuple hb
  have hl : xs.length = ys.length := Paired.length hp
  have hsz : us.toArray.size = ws.toArray.size := by
    rw [List.size_toArray, List.size_toArray, ← r1.length, ← r2.length]
    exact hl
  refine rc_tup_ne p1 p2 hsz (by omega) (fun i h1 h2 => ?_) ⟨.bl false, H, I, rfl, q⟩
  have k := items_run (fun x y v u hxy rv ru => eqV_run I n X.A.in1 (by show X.A.units + 1 + n < cLine; omega) x y v u hxy rv ru) hp r1 r2 i (by simpa using h1) (by simpa using h2)
  simpa using k
end
end Bh

/-! The program's defs, each with its promise: row_of, listed, number_of, is_name. -/
namespace Bh
open PySem PySem.Spec PyProof.Rows L2
open TL
def topS (i : Nat) : Stmt := PySem.Challenge.pw_boardheld_k03_whole_texts_with_names.main.body.getD i (.Pass ⟨0, 0, 0, 0⟩)
abbrev sNum : Stmt := topS 14
abbrev sNm : Stmt := topS 15
/-- what the top holds -/
structure Tx (K : PySem.W.Frag) (mg : Str → Option Value) (aN aX C : Addr) : Prop where
  xs : ∃ t, mg "X_SPAN" = some (.int 1024 t)
  fm : ∃ t, mg "FIGURES_MOST" = some (.int 5 t)
  lm : ∃ t, mg "LETTERS_MOST" = some (.int 8 t)
  fe : ∃ t, mg "FLASH_END" = some (.int 512 t)
  wm : ∃ t, mg "WORD_MOST" = some (.int 65535 t)
  er : ∃ t, mg "ERASED" = some (.int 65535 t)
  gN : mg "OP_NAMES" = some (.ref aN)
  vN : ∀ H, SqT K H aN (opN.map V.str)
  tN : ∃ o, K.lookup aN = some o ∧ o.cls = .type "tuple" ∧ o.dict = none
  gX : mg "OPS_WITH_X" = some (.ref aX)
  vX : ∀ H, SqT K H aX (opX.map V.str)
  len : mg "len" = none
  int : mg "int" = none
  enu : mg "enumerate" = none
  cl : Cls K C
  nW : NoAttr K C "words"
  nN : NoAttr K C "names"
  nU : NoAttr K C "uses"
  gC : mg "Sheet" = some (.ref C)
theorem in_strs (z : Str) : ∀ ys : List Str, inV (.str z) (ys.map V.str) = decide (z ∈ ys)
  | [] => rfl
  | y :: ys => by
    have ih := in_strs z ys
    unfold inV at ih ⊢
    rw [List.map_cons, List.any_cons, ih]
    show ((y == z) || decide (z ∈ ys)) = decide (z ∈ y :: ys)
    by_cases e : y = z
    · subst e
      simp
    · have e2 : ¬ z = y := fun q => e q.symm
      have : (y == z) = false := by simpa using e
      rw [this]
      simp [e2]
theorem flat_strs' (ys : List Str) : (ys.map V.str).all flatV = true := by
  rw [List.all_eq_true]
  intro v hv
  obtain ⟨y, _, rfl⟩ := List.mem_map.mp hv
  rfl
theorem num_small {n : Nat} (h : n ≤ 65535) : ((n : Int)).natAbs.log2 < 1920 := by
  have e : ((n : Int)).natAbs = n := rfl
  rw [e]
  by_cases h0 : n = 0
  · subst h0
    decide
  · exact (Nat.log2_lt h0).mpr (Nat.lt_of_le_of_lt h (by decide +kernel))
theorem numL5 {n : Nat} (h : n ≤ 65535) : (numL n).length ≤ 5 := numL_len (by decide) (Nat.lt_of_le_of_lt h (by decide))
theorem fits_small {n : Nat} (h : n ≤ 100000) : n ≤ sizeLine := Nat.le_trans h (by decide)
theorem tl_empty : tl Str.empty = [] := rfl
theorem opN_len : ∀ op : Nat, op < 23 → (opN.getD op Str.empty).length ≤ 5 := by decide +kernel
theorem opN_at : ∀ op : Nat, op < 23 → opN[op]? = some (opN.getD op Str.empty) := by decide +kernel

theorem ifN {c : Bool} {A B : Prop} (h1 : c = false → A) (h2 : c = true → B) : if (!c) = true then A else B := by
  cases c with
  | true => exact h2 rfl
  | false => exact h1 rfl
theorem ifB {c : Bool} {A B : Prop} (h1 : c = true → A) (h2 : c = false → B) : if c = true then A else B := by
  cases c with
  | true => exact h1 rfl
  | false => exact h2 rfl
section
variable {X : Cx}
theorem pgI {x : Str} {n : Int} {t : Tok} {pos : Pos} (hm : X.mg x = some (.int n t)) (hg : Gl X x := by rfl) (hd : (x == ("__debug__" : Str)) = false := by decide) : PE X (.Name x pos) (tC (.int n)) := pe_glob (v := .int n) hg hm ⟨t, rfl⟩ hd
theorem pgR {x : Str} {a : Addr} {pos : Pos} (hm : X.mg x = some (.ref a)) (hg : Gl X x := by rfl) (hd : (x == ("__debug__" : Str)) = false := by decide) : PE X (.Name x pos) (tC (.ref a)) := pe_glob (v := .ref a) hg hm rfl hd
end
section
variable {P : Program} {w : World} {K : PySem.W.Frag} {mg : Str → Option Value} {base : Heap} {aN aX C : Addr}
theorem same_upd' {H : Hp} {p : Addr} {o : HO} (h : H p = none) : Same H (upd H p o) := fun b x e => by
  rw [upd_ne (ne_of_none e h)]
  exact e
theorem rowL_len {n : Nat} (hn : n ≤ 65535) : (rowL n).length ≤ 12 := by
  have h5 := numL5 hn
  have h5' := numL5 (show n % 1024 ≤ 65535 by omega)
  unfold rowL
  split
  · unfold wordL
    simp only [List.length_append, List.length_cons, List.length_nil]
    omega
  · have h23 : n / 1024 < 23 := by omega
    have hln := opN_len _ h23
    rw [len_tl] at hln
    split
    · rw [List.length_append, List.length_cons]
      unfold nmL
      omega
    · split
      · unfold nmL
        omega
      · unfold wordL
        simp only [List.length_append, List.length_cons, List.length_nil]
        omega
theorem sum_le_mul {α : Type} (f : α → Nat) (c : Nat) : ∀ (l : List α), (∀ x ∈ l, f x ≤ c) → (l.map f).sum ≤ l.length * c
  | [], _ => by simp
  | x :: r, h => by
    have ih := sum_le_mul f c r fun y hy => h y (List.mem_cons_of_mem _ hy)
    have hx := h x List.mem_cons_self
    rw [List.map_cons, List.sum_cons, List.length_cons, Nat.succ_mul]
    omega
abbrev sFig : Stmt := topS 10
theorem scFig : FnScope ["part", "most"] ["part", "most"] (defScope sFig) := ⟨rfl, rfl, rfl, by decide +kernel, rfl, by decide +kernel, by decide +kernel⟩
theorem scNum : FnScope ["part"] ["part"] (defScope sNum) := ⟨rfl, rfl, rfl, by decide +kernel, rfl, by decide +kernel, by decide +kernel⟩
def oV : Option Int → V
  | none => .non
  | some n => .int n
def spNum : Sp := fun vs H Q _ => ∃ p : Str, vs = [.str p] ∧ p.length ≤ 100000 ∧ Q (oV (numOf p)) H
def spFig : Sp := fun vs H Q _ => ∃ p : Str, vs = [.str p, .int 5] ∧ p.length ≤ 100000 ∧ Q (oV (numOf p)) H
theorem ok_fig {f : Addr} {fd : FuncData} (F : Fun K "figured" "figured" sFig f fd) (T : Tx K mg aN aX C) : FnOk P w K mg base CX0 1 f fd ["part", "most"] spFig := by
  refine F.ok scFig (fun vs H Q E h => by obtain ⟨n, rfl, _⟩ := h; rfl) (fun cdv A outer s H vs Q E hr h => ?_)
  obtain ⟨p, rfl, hp, q⟩ := h
  refine ⟨_, pss_cons (ps_if (PW.pt (pw_or (pt_not (pt_val (pe_m0 PySem.F.slot_str_isascii PySem.F.type_str_isascii mt_isascii (pv 0))))
      (pw_or (pt_not (pt_val (pe_m0 PySem.F.slot_str_isdigit PySem.F.type_str_isdigit mt_isdigit (pv 0))))
        (pw_or1 (pt_cmpR op_gt (pe_callB call_len_str (by rfl) T.len PySem.boot_len (pa_cons (pv 0) pa_nil)) (pv 1) (nomark _))))))
      (pss_one (ps_ret pe_non)) pss_nil)
    (pss_cons (ps_if (PW.pt (pw_and (pt_cmpR op_eq (pe_item_str (pv 0) pe_int (fun _ _ => rfl)) pe_str (nomark _)) (pw_and1 (pt_cmpR op_ne (pv 0) pe_str (nomark _)))))
      (pss_one (ps_ret pe_non)) pss_nil)
    (pss_one (ps_ret (pe_callTy call_int_str (by rfl) T.int (by decide +kernel) (pa_cons (pv 0) pa_nil))))), ?_⟩
  have hline : p.length ≤ sizeLine := fits_small hp
  unfold numOf at q
  have key := asc_dig p
  have e5 : (decide ((5 : Int) < (p.length : Int))) = !decide ((tl p).length ≤ 5) := by
    rw [← len_tl]
    by_cases z : p.length ≤ 5
    · rw [decide_eq_true z]
      exact decide_eq_false (by omega)
    · rw [decide_eq_false z]
      exact decide_eq_true (by omega)
  have bad : ∀ {B : Prop}, (!(tl p).isEmpty && (tl p).all digB && decide ((tl p).length ≤ 5)) = false → Q .non H := fun h => by
    rw [h, if_neg Bool.false_ne_true] at q
    exact q
  refine ⟨_, rfl, ⟨_, rfl⟩, _, rfl, rfl, trivial, _, rfl, ifN (fun ha => ?_) (fun ha => ?_)⟩
  · exact bad (B := True) (by rw [← key, ha] <;> rfl)
  refine ⟨_, rfl, ⟨_, rfl⟩, _, rfl, rfl, trivial, _, rfl, ifN (fun hd => ?_) (fun hd => ?_)⟩
  · exact bad (B := True) (by rw [← key, hd, Bool.and_false] <;> rfl)
  refine ⟨_, rfl, _, rfl, hline, _, rfl, _, _, rfl, rfl, _, rfl, ?_⟩
  rw [ha, hd] at key
  have key2 : (!(tl p).isEmpty && (tl p).all digB) = true := key.symm
  refine ifB (fun h5 => ?_) (fun h5 => ?_)
  · refine bad (B := True) ?_
    rw [key2, Bool.true_and]
    have h5' := of_decide_eq_true h5
    rw [len_tl] at h5'
    exact decide_eq_false (by omega)
  have h5' : (tl p).length ≤ 5 := by
    have z := of_decide_eq_false h5
    rw [len_tl] at z
    omega
  rw [key2, Bool.true_and, decide_eq_true h5', if_pos rfl] at q
  rw [Bool.and_eq_true] at key2
  obtain ⟨c, r, hl⟩ : ∃ c r, tl p = c :: r := by
    cases e : tl p with
    | nil => rw [e] at key2; exact absurd key2.1 (by decide)
    | cons c r => exact ⟨c, r, rfl⟩
  have h0 : p.cps[0]? = some c := by
    have : p.cps.toList[0]? = some c := by
      show (tl p)[0]? = some c
      rw [hl]
      rfl
    simpa using this
  have hpl : 0 < p.length := by
    rw [len_tl, hl]
    exact Nat.succ_pos _
  have hint : intText? p = some ((NumText.digitsVal (tl p) : Nat) : Int) := PySem.intText_digits (allDig key2.2) (by
    show tl p ≠ []
    rw [hl]
    exact List.cons_ne_nil _ _) (by rw [len_tl]; omega)
  refine ⟨_, rfl, _, 0, c, rfl, rfl, by decide, by decide, by omega, h0, rfl, _, rfl, ?_⟩
  refine ifB (fun hc => ?_) (fun hc => ?_)
  · have hc' : c = 48 := by
      have z : V.str ⟨#[c]⟩ = V.str ("0" : Str) := of_decide_eq_true hc
      have z2 := congrArg tl (V.str.inj z)
      have z3 : [c] = [48] := z2
      exact List.head_eq_of_cons_eq z3
    refine ⟨_, rfl, rfl, _, rfl, ifN (fun hz => ?_) (fun hz => ?_)⟩
    · have hz' : ¬ p = ("0" : Str) := fun z => by
        have := of_decide_eq_false hz
        exact this (by rw [z])
      have hne : tl p ≠ [48] := fun z => hz' (ext_tl z)
      rw [if_pos ⟨by rw [hl, hc'] <;> rfl, hne⟩] at q
      exact q
    · have hz' : p = ("0" : Str) := V.str.inj (of_decide_eq_true hz)
      have hne : tl p = [48] := congrArg tl hz'
      rw [if_neg (fun z => z.2 hne)] at q
      exact ⟨_, rfl, _, _, rfl, hint, by rw [len_tl]; omega, q⟩
  · have hc' : ¬ c = 48 := fun z => by
      have := of_decide_eq_false hc
      exact this (by rw [z] <;> rfl)
    rw [if_neg (fun z => by
      have z1 := z.1
      rw [hl] at z1
      exact hc' (Option.some.inj z1))] at q
    exact ⟨_, rfl, _, _, rfl, hint, by rw [len_tl]; omega, q⟩
theorem ok_num {f fF : Addr} {fd fdF : FuncData} (F : Fun K "number_of" "number_of" sNum f fd) (T : Tx K mg aN aX C) (FF : Fun K "figured" "figured" sFig fF fdF) (bF : Binds K fdF ["part", "most"] []) (gF : mg "figured" = some (.ref fF)) : FnOk P w K mg base CX0 2 f fd ["part"] spNum := by
  obtain ⟨tf, gf⟩ := T.fm
  refine F.ok scNum (fun vs H Q E h => by obtain ⟨n, rfl, _⟩ := h; rfl) (fun cdv A outer s H vs Q E hr h => ?_)
  obtain ⟨p, rfl, hp, q⟩ := h
  refine ⟨_, pss_one (ps_ret (pe_call (ok_fig FF T) hr (by rfl) gF FF.kp bF .nil pass0 (pa_cons (pv 0) (pa_cons (pgI gf) pa_nil)))), ?_⟩
  exact ⟨_, rfl, p, rfl, hp, q⟩
theorem scNm : FnScope ["part"] ["part"] (defScope sNm) := ⟨rfl, rfl, rfl, by decide +kernel, rfl, by decide +kernel, by decide +kernel⟩
def spNm : Sp := fun vs H Q _ => ∃ p : Str, vs = [.str p] ∧ p.length ≤ 100000 ∧ Q (.bl (isNm p)) H
theorem ok_nm {f : Addr} {fd : FuncData} (F : Fun K "is_name" "is_name" sNm f fd) (T : Tx K mg aN aX C) : FnOk P w K mg base CX0 2 f fd ["part"] spNm := by
  obtain ⟨tf, gf⟩ := T.lm
  refine F.ok scNm (fun vs H Q E h => by obtain ⟨n, rfl, _⟩ := h; rfl) (fun cdv A outer s H vs Q E hr h => ?_)
  obtain ⟨p, rfl, hp, q⟩ := h
  refine ⟨_, pss_one (ps_ret (pe_and (pe_m0 PySem.F.slot_str_isascii PySem.F.type_str_isascii mt_isascii (pv 0))
      (pe_and (pe_m0 PySem.F.slot_str_isalpha PySem.F.type_str_isalpha mt_isalpha (pv 0))
      (pe_and (pe_m0 PySem.F.slot_str_islower PySem.F.type_str_islower mt_islower (pv 0))
        (pe_one (pe_cmpR op_le (pe_callB call_len_str (by rfl) T.len PySem.boot_len (pa_cons (pv 0) pa_nil)) (pgI gf) (nomark _))))))), ?_⟩
  have hline : p.length ≤ sizeLine := fits_small hp
  have key := asc_low p
  unfold isNm at q
  rw [← key] at q
  refine ⟨_, rfl, ⟨_, rfl⟩, _, rfl, rfl, trivial, _, rfl, ifB (fun ha => ?_) (fun ha => ?_)⟩
  · rw [ha] at q
    refine ⟨_, rfl, ⟨_, rfl⟩, _, rfl, rfl, trivial, _, rfl, ifB (fun hb => ?_) (fun hb => ?_)⟩
    · rw [hb] at q
      refine ⟨_, rfl, ⟨_, rfl⟩, _, rfl, rfl, trivial, _, rfl, ifB (fun hc => ?_) (fun hc => ?_)⟩
      · rw [hc] at q
        refine ⟨_, rfl, _, rfl, hline, _, _, rfl, rfl, ?_⟩
        have e : (true && (true && true) && decide ((tl p).length ≤ 8)) = decide ((p.length : Int) ≤ 8) := by
          rw [Bool.true_and, Bool.true_and, Bool.true_and, ← len_tl]
          by_cases z : p.length ≤ 8
          · rw [decide_eq_true z]
            exact (decide_eq_true (by omega)).symm
          · rw [decide_eq_false z]
            exact (decide_eq_false (by omega)).symm
        rw [e] at q
        exact q
      · rw [hc] at q
        exact q
    · rw [hb] at q
      exact q
  · rw [ha] at q
    exact q
end
end Bh

/-! The sheet: its object, its methods. -/
namespace Bh
open PySem PySem.Spec PyProof.Rows L2
open TL
abbrev sInit : Stmt := inClass (topS 16) 0
abbrev sTake : Stmt := inClass (topS 16) 1
abbrev sTName : Stmt := inClass (topS 16) 2
abbrev sTBare : Stmt := inClass (topS 16) 3
abbrev sTPair : Stmt := inClass (topS 16) 4
abbrev sTAt : Stmt := inClass (topS 16) 5
abbrev sTKeep : Stmt := inClass (topS 16) 6
abbrev sTWorth : Stmt := inClass (topS 16) 7
abbrev sLay : Stmt := inClass (topS 16) 8
abbrev sPut : Stmt := inClass (topS 16) 9
abbrev sTyped : Stmt := topS 17
/-! ### the fields -/
theorem wn_ : ¬ (("words" : Str) = "names") := by decide +kernel
theorem wu_ : ¬ (("words" : Str) = "uses") := by decide +kernel
theorem nu_ : ¬ (("names" : Str) = "uses") := by decide +kernel
theorem nw_ : ¬ (("names" : Str) = "words") := by decide +kernel
theorem uw_ : ¬ (("uses" : Str) = "words") := by decide +kernel
theorem un_ : ¬ (("uses" : Str) = "names") := by decide +kernel
def shF (a b c : Addr) : List (Str × V) := putF "uses" (.ref c) (putF "names" (.ref b) (putF "words" (.ref a) []))
theorem shF_w (a b c : Addr) : (shF a b c).lookup ("words" : Str) = some (.ref a) := by
  unfold shF
  rw [lookup_putF, if_neg wu_, lookup_putF, if_neg wn_, lookup_putF, if_pos rfl]
theorem shF_n (a b c : Addr) : (shF a b c).lookup ("names" : Str) = some (.ref b) := by
  unfold shF
  rw [lookup_putF, if_neg nu_, lookup_putF, if_pos rfl]
theorem shF_u (a b c : Addr) : (shF a b c).lookup ("uses" : Str) = some (.ref c) := by
  unfold shF
  rw [lookup_putF, if_pos rfl]
theorem shF_no (a b c : Addr) {m : Str} (h1 : ¬ m = "words") (h2 : ¬ m = "names") (h3 : ¬ m = "uses") : (shF a b c).lookup m = none := by
  unfold shF
  rw [lookup_putF, if_neg h3, lookup_putF, if_neg h2, lookup_putF, if_neg h1]
  rfl
def nmK (ns : List (Str × Int)) : List (Key × V) := ns.map fun p => ((Sum.inr p.1 : Key), V.int p.2)
theorem valV_nmK (x : Str) : ∀ ns : List (Str × Int), (valV (nmK ns) (Sum.inr x)).isSome = hasN ns x
  | [] => rfl
  | (y, n) :: r => by
    have ih := valV_nmK x r
    unfold nmK hasN at ih ⊢
    rw [List.map_cons, List.any_cons]
    by_cases e : y = x
    · subst e
      rw [valV_pos rfl]
      simp
    · have e1 : ¬ ((Sum.inr y : Key) = Sum.inr x) := fun z => e (Sum.inr.inj z)
      rw [valV_neg e1, ih]
      have e2 : (y == x) = false := by simpa using e
      rw [e2, Bool.false_or]
theorem putK_nmK {ns : List (Str × Int)} {x : Str} {n : Int} (h : hasN ns x = false) : putK (nmK ns) (Sum.inr x) (.int n) = nmK (ns ++ [(x, n)]) := by
  have e : valV (nmK ns) (Sum.inr x) = none := by
    have q := valV_nmK x ns
    rw [h] at q
    cases z : valV (nmK ns) (Sum.inr x) with
    | none => rfl
    | some y => rw [z] at q; cases q
  rw [putK_new _ e]
  unfold nmK
  rw [List.map_append]
  rfl
theorem nmK_len (ns : List (Str × Int)) : (nmK ns).length = ns.length := List.length_map ..
/-! ### the sheet in the heap -/
def useT (u : Int × Int × Str) : HO := .tup [.int u.1, .int u.2.1, .str u.2.2]
def UsesAt (H : Hp) : List V → List (Int × Int × Str) → Prop := Paired fun v u => ∃ t, v = .ref t ∧ H t = some (useT u)
theorem UsesAt.mono {H H' : Hp} (k : ∀ t xs, H t = some (.tup xs) → H' t = some (.tup xs)) : ∀ {us : List V} {ls : List (Int × Int × Str)}, UsesAt H us ls → UsesAt H' us ls
  | _, _, .nil => .nil
  | _, _, .cons h r => .cons (let ⟨t, e, q⟩ := h; ⟨t, e, k _ _ q⟩) (UsesAt.mono k r)
theorem UsesAt.snoc {H : Hp} {t : Addr} {u : Int × Int × Str} (ht : H t = some (useT u)) : ∀ {us : List V} {ls : List (Int × Int × Str)}, UsesAt H us ls → UsesAt H (us ++ [.ref t]) (ls ++ [u])
  | _, _, .nil => .cons ⟨t, rfl, ht⟩ .nil
  | _, _, .cons h r => .cons h (UsesAt.snoc ht r)
structure Shp (C : Addr) (H0 H : Hp) (p dx a b c : Addr) (us : List V) (s : Sh) : Prop where
  sm : Same H0 H
  fp : H0 p = none
  fa : H0 a = none
  fb : H0 b = none
  fc : H0 c = none
  hp : H p = some (.ins C dx (shF a b c))
  ha : H a = some (.lst (s.words.map V.int))
  hb : H b = some (.dK (nmK s.names))
  hc : H c = some (.lst us)
  ac : a ≠ c
  hu : UsesAt H us s.uses
  lw : s.words.length ≤ 512
def SheetAt (C : Addr) (H0 H : Hp) (p : Addr) (s : Sh) : Prop := ∃ dx a b c us, Shp C H0 H p dx a b c us s
theorem same_of {H0 H : Hp} {x : Addr} {o : HO} (sm : Same H0 H) (fx : H0 x = none) : Same H0 (upd H x o) := fun b y e => by
  rw [upd_ne (ne_of_none e fx)]
  exact sm _ _ e
section
variable {C : Addr} {H0 H : Hp} {p dx a b c : Addr} {us : List V} {s : Sh}
theorem Shp.pa (h : Shp C H0 H p dx a b c us s) : p ≠ a := ne_of h.hp h.ha (by intro q; cases q)
theorem Shp.pb (h : Shp C H0 H p dx a b c us s) : p ≠ b := ne_of h.hp h.hb (by intro q; cases q)
theorem Shp.pc (h : Shp C H0 H p dx a b c us s) : p ≠ c := ne_of h.hp h.hc (by intro q; cases q)
theorem Shp.ab (h : Shp C H0 H p dx a b c us s) : a ≠ b := ne_of h.ha h.hb (by intro q; cases q)
theorem Shp.bc (h : Shp C H0 H p dx a b c us s) : b ≠ c := ne_of h.hb h.hc (by intro q; cases q)
theorem Shp.words (h : Shp C H0 H p dx a b c us s) (ws : List Int) (hl : ws.length ≤ 512) : Shp C H0 (upd H a (.lst (ws.map V.int))) p dx a b c us { s with words := ws } where
  sm := same_of h.sm h.fa
  fp := h.fp
  fa := h.fa
  fb := h.fb
  fc := h.fc
  hp := by rw [upd_ne h.pa]; exact h.hp
  ha := upd_same
  hb := by rw [upd_ne h.ab.symm]; exact h.hb
  hc := by rw [upd_ne h.ac.symm]; exact h.hc
  ac := h.ac
  hu := h.hu.mono fun t xs e => by rw [upd_ne (ne_of e h.ha (by intro q; cases q))]; exact e
  lw := hl
theorem Shp.named (h : Shp C H0 H p dx a b c us s) (ns : List (Str × Int)) : Shp C H0 (upd H b (.dK (nmK ns))) p dx a b c us { s with names := ns } where
  sm := same_of h.sm h.fb
  fp := h.fp
  fa := h.fa
  fb := h.fb
  fc := h.fc
  hp := by rw [upd_ne h.pb]; exact h.hp
  ha := by rw [upd_ne h.ab]; exact h.ha
  hb := upd_same
  hc := by rw [upd_ne h.bc.symm]; exact h.hc
  ac := h.ac
  hu := h.hu.mono fun t xs e => by rw [upd_ne (ne_of e h.hb (by intro q; cases q))]; exact e
  lw := h.lw
/-- a new object is laid -/
theorem Shp.more (h : Shp C H0 H p dx a b c us s) {x : Addr} {o : HO} (hx : H x = none) : Shp C H0 (upd H x o) p dx a b c us s where
  sm := h.sm.trans (same_upd' hx)
  fp := h.fp
  fa := h.fa
  fb := h.fb
  fc := h.fc
  hp := same_upd' hx _ _ h.hp
  ha := same_upd' hx _ _ h.ha
  hb := same_upd' hx _ _ h.hb
  hc := same_upd' hx _ _ h.hc
  ac := h.ac
  hu := h.hu.mono fun t xs e => same_upd' hx _ _ e
  lw := h.lw
theorem Shp.used (h : Shp C H0 H p dx a b c us s) {t : Addr} {u : Int × Int × Str} (ht : H t = some (useT u)) : Shp C H0 (upd H c (.lst (us ++ [.ref t]))) p dx a b c (us ++ [.ref t]) { s with uses := s.uses ++ [u] } where
  sm := same_of h.sm h.fc
  fp := h.fp
  fa := h.fa
  fb := h.fb
  fc := h.fc
  hp := by rw [upd_ne h.pc]; exact h.hp
  ha := by rw [upd_ne h.ac]; exact h.ha
  hb := by rw [upd_ne h.bc]; exact h.hb
  hc := upd_same
  ac := h.ac
  hu := (UsesAt.snoc ht h.hu).mono fun t xs e => by rw [upd_ne (ne_of e h.hc (by intro q; cases q))]; exact e
  lw := h.lw
theorem UsesAt.len {H : Hp} : ∀ {us : List V} {ls : List (Int × Int × Str)}, UsesAt H us ls → us.length = ls.length
  | _, _, .nil => rfl
  | _, _, .cons _ r => by rw [List.length_cons, List.length_cons, UsesAt.len r]
end
/-! ### the promises -/
def spInit (C : Addr) : Sp := fun vs H Q _ => ∃ (H0 : Hp) (p dx : Addr), vs = [.ref p] ∧ Same H0 H ∧ H0 p = none ∧ H p = some (.ins C dx []) ∧ ∀ H' : Hp, SheetAt C H0 H' p sh0 → Q .non H'
/-- a method that does m : Sh -> Bool x Sh, its arguments as told -/
def spM (C : Addr) (args : List V → Sh → (Bool × Sh) → Prop) : Sp := fun vs H Q _ => ∃ (H0 : Hp) (p : Addr) (s : Sh) (vs' : List V) (r : Bool × Sh), vs = .ref p :: vs' ∧ args vs' s r ∧ SheetAt C H0 H p s ∧ ∀ H' : Hp, SheetAt C H0 H' p r.2 → Q (.bl r.1) H'
def aLay (vs : List V) (s : Sh) (r : Bool × Sh) : Prop := ∃ (w m : Int), vs = [.int w, .int m] ∧ 0 ≤ m ∧ m < 100000 ∧ r = layM w m s
section
variable {P : Program} {w : World} {K : PySem.W.Frag} {mg : Str → Option Value} {base : Heap} {aN aX C : Addr}
theorem scInit : FnScope ["self"] ["self"] (defScope sInit) := ⟨rfl, rfl, rfl, by decide +kernel, rfl, by decide +kernel, by decide +kernel⟩
theorem ok_init {f : Addr} {fd : FuncData} (F : Fun K "__init__" "Sheet.__init__" sInit f fd) (T : Tx K mg aN aX C) : FnOk P w K mg base CX0 2 f fd ["self"] (spInit C) := by
  refine F.ok scInit (fun vs H Q E h => by obtain ⟨H0, p, dx, rfl, _⟩ := h; rfl) (fun cdv A outer s H vs Q E hr h => ?_)
  obtain ⟨H0, p, dx, rfl, s0, p0, hp, k⟩ := h
  refine ⟨_, pss_cons (ps_fld (pv 0) (pe_lst pa_nil) rfl) (pss_cons (ps_fld (pv 0) pe_dnewK rfl) (pss_one (ps_fld (pv 0) (pe_lst pa_nil) rfl))), ?_⟩
  refine ⟨Nat.zero_le _, fun a na => ?_⟩
  have pa : p ≠ a := ne_of_none hp na
  refine ⟨_, rfl, p, C, dx, [], rfl, (by rw [upd_ne pa]; exact hp), T.cl, T.nW, (by show 0 < 1000; decide), ?_⟩
  intro b nb
  have pb : p ≠ b := fun q => by rw [q, upd_same] at nb; cases nb
  have nb1 : upd H a (.lst []) b = none := by rw [upd_ne pb.symm] at nb; exact nb
  have ab : a ≠ b := fun q => by rw [q, upd_same] at nb1; cases nb1
  have nb2 : H b = none := by rw [upd_ne ab.symm] at nb1; exact nb1
  refine ⟨_, rfl, p, C, dx, _, rfl, (by rw [upd_ne pb]; exact upd_same), T.cl, T.nN, (by show 1 < 1000; decide), ?_⟩
  refine ⟨Nat.zero_le _, fun c nc => ?_⟩
  have pc : p ≠ c := fun q => by rw [q, upd_same] at nc; cases nc
  have nc1 := nc
  rw [upd_ne pc.symm] at nc1
  have bc : b ≠ c := fun q => by rw [q, upd_same] at nc1; cases nc1
  rw [upd_ne bc.symm, upd_ne pc.symm] at nc1
  have ac : a ≠ c := fun q => by rw [q, upd_same] at nc1; cases nc1
  rw [upd_ne ac.symm] at nc1
  refine ⟨_, rfl, p, C, dx, _, rfl, (by rw [upd_ne pc]; exact upd_same), T.cl, T.nU, (by show 2 < 1000; decide), ?_⟩
  refine k _ ⟨dx, a, b, c, [], ?_⟩
  exact {
    sm := fun z o e => by
      have zp : z ≠ p := ne_of_none e p0
      rw [upd_ne zp, upd_ne (ne_of_none (s0 _ _ e) nc1), upd_ne zp, upd_ne (ne_of_none (s0 _ _ e) nb2), upd_ne zp, upd_ne (ne_of_none (s0 _ _ e) na)]
      exact s0 _ _ e
    fp := p0
    fa := s0.free na
    fb := s0.free nb2
    fc := s0.free nc1
    hp := upd_same
    ha := by rw [upd_ne pa.symm, upd_ne ac, upd_ne pa.symm, upd_ne ab, upd_ne pa.symm, upd_same]; rfl
    hb := by rw [upd_ne pb.symm, upd_ne bc, upd_ne pb.symm, upd_same]; rfl
    hc := by rw [upd_ne pc.symm, upd_same]
    ac := ac
    hu := .nil
    lw := Nat.zero_le _ }
theorem scLay : FnScope ["self", "word", "many"] ["self", "word", "many"] (defScope sLay) := ⟨rfl, rfl, rfl, by decide +kernel, rfl, by decide +kernel, by decide +kernel⟩
theorem ok_lay {f : Addr} {fd : FuncData} (F : Fun K "lay" "Sheet.lay" sLay f fd) (T : Tx K mg aN aX C) : FnOk P w K mg base CX0 2 f fd ["self", "word", "many"] (spM C aLay) := by
  obtain ⟨tf, gf⟩ := T.fe
  refine F.ok scLay (fun vs H Q E h => by obtain ⟨H0, p, s, vs', r, rfl, ⟨w, m, rfl, _⟩, _⟩ := h; rfl) (fun cdv A outer s H vs Q E hr h => ?_)
  obtain ⟨H0, p, z, _, _, rfl, ⟨w, m, rfl, m0, m1, rfl⟩, ⟨dx, a, b, c, us, S⟩, k⟩ := h
  refine ⟨_, pss_cons (ps_if (pt_cmpR op_gt (pe_op op_add (pe_callB call_len_seq (by rfl) T.len PySem.boot_len (pa_cons (pe_fld (pv 0) rfl) pa_nil)) (pv 2)) (pgI gf) (nomark _)) (pss_one (ps_ret pe_bl)) pss_nil)
    (pss_cons (ps_expr (pe_bm PySem.F.plainAttrs_list PySem.F.slot_list_extend PySem.F.type_list_extend mt_extend (pe_fld (pv 0) rfl) (pa_cons (pe_op op_rep (pe_lst (pa_cons (pv 1) pa_nil)) (pv 2)) pa_nil)))
    (pss_one (ps_ret pe_bl))), ?_⟩
  refine ⟨_, rfl, p, C, dx, _, _, rfl, S.hp, T.cl, T.nW, shF_w _ _ _, a, _, rfl, .inl (SqL.of S.ha), _, rfl, _, _, rfl, rfl, _, _, rfl, rfl, _, rfl, ?_⟩
  rw [List.length_map]
  unfold layM at k
  refine ifB (fun h => ?_) (fun h => ?_)
  · have h' : (z.words.length : Int) + m > 512 := of_decide_eq_true h
    rw [if_pos h'] at k
    exact k _ ⟨dx, a, b, c, us, S⟩
  · have h' : ¬ (z.words.length : Int) + m > 512 := of_decide_eq_false h
    rw [if_neg h'] at k
    refine ⟨_, rfl, p, C, dx, _, _, rfl, S.hp, T.cl, T.nW, shF_w _ _ _, .inl ⟨rfl, _, SqL.of S.ha⟩, ?_⟩
    refine ⟨_, rfl, by show 1 ≤ sizeLine; decide, fun l nl => ?_⟩
    have S1 := S.more (o := .lst [.int w]) nl
    refine ⟨_, rfl, l, m, [.int w], rfl, rfl, upd_same, by omega, by omega, (by show 1 * m.toNat ≤ sizeLine; exact fits_small (by omega)), fun q nq => ?_⟩
    have ef : (List.replicate m.toNat [V.int w]).flatten = (List.replicate m.toNat w).map V.int := by
      induction m.toNat with
      | zero => rfl
      | succ n ih => rw [List.replicate_succ, List.flatten_cons, ih, List.replicate_succ, List.map_cons]; rfl
    rw [ef]
    have S2 := S1.more (o := .lst ((List.replicate m.toNat w).map V.int)) nq
    refine ⟨a, q, z.words.map V.int, _, rfl, rfl, S2.ha, upd_same, ?_, ?_⟩
    · rw [List.length_map, List.length_map, List.length_replicate]
      exact fits_small (by omega)
    · rw [← List.map_append]
      exact k _ ⟨dx, a, b, c, us, (S2.words (z.words ++ List.replicate m.toNat w) (by rw [List.length_append, List.length_replicate]; omega))⟩
end
end Bh

/-! The sheet's methods that take a row or a part of one. -/
namespace Bh
open PySem PySem.Spec PyProof.Rows L2
open TL
section
variable (P : Program) (w : World) (K : PySem.W.Frag) (mg : Str → Option Value) (base : Heap)
/-- a def that may be called by its name -/
structure CalF (k : Nat) (nm : Str) (ps : List Str) (sp : Sp) (f : Addr) (fd : FuncData) : Prop where
  g : mg nm = some (.ref f)
  kp : PySem.W.keepIn K (.ref f) = true
  b : Binds K fd ps []
  G : FnOk P w K mg base CX0 k f fd ps sp
structure CalM (C : Addr) (k : Nat) (nm : Str) (ps : List Str) (sp : Sp) (f : Addr) (fd : FuncData) : Prop where
  m : Meth K C nm f
  b : Binds K fd ps []
  G : FnOk P w K mg base CX0 k f fd ps sp
end
def aName (vs : List V) (s : Sh) (r : Bool × Sh) : Prop := ∃ x : Str, vs = [.str x] ∧ x.length ≤ 100000 ∧ s.names.length < 100000 ∧ r = nameM x s
def aBare (vs : List V) (s : Sh) (r : Bool × Sh) : Prop := ∃ x : Str, vs = [.str x] ∧ r = bareM x s
def aAt (vs : List V) (s : Sh) (r : Bool × Sh) : Prop := ∃ o : Option Int, vs = [oV o] ∧ (∀ n, o = some n → 0 ≤ n ∧ n < 100000) ∧ r = atM o s
def aKeep (vs : List V) (s : Sh) (r : Bool × Sh) : Prop := ∃ o : Option Int, vs = [oV o] ∧ (∀ n, o = some n → 0 ≤ n ∧ n < 100000) ∧ r = keepM o s
def aWorth (vs : List V) (s : Sh) (r : Bool × Sh) : Prop := ∃ (i b : Int) (x : Str) (m : Int), vs = [.int i, .int b, .str x, .int m] ∧ x.length ≤ 100000 ∧ s.uses.length < 100000 ∧ r = worthM i b x m s
def aPair (vs : List V) (s : Sh) (r : Bool × Sh) : Prop := ∃ (i : Int) (h x : Str), vs = [.int i, .str h, .str x] ∧ x.length ≤ 100000 ∧ s.uses.length < 100000 ∧ r = pairM i h x s
def aTake (vs : List V) (s : Sh) (r : Bool × Sh) : Prop := ∃ (i : Int) (x : Str), vs = [.int i, .str x] ∧ x.length ≤ 90000 ∧ s.names.length < 100000 ∧ s.uses.length < 100000 ∧ r = takeM i x s
section
variable {P : Program} {w : World} {K : PySem.W.Frag} {mg : Str → Option Value} {base : Heap} {aN aX C : Addr}
theorem no_take {a b c : Addr} : (shF a b c).lookup ("lay" : Str) = none := shF_no _ _ _ (by decide +kernel) (by decide +kernel) (by decide +kernel)
theorem scTName : FnScope ["self", "name"] ["self", "name"] (defScope sTName) := ⟨rfl, rfl, rfl, by decide +kernel, rfl, by decide +kernel, by decide +kernel⟩
theorem ok_tname {f fN : Addr} {fd fdN : FuncData} (F : Fun K "take_name" "Sheet.take_name" sTName f fd) (T : Tx K mg aN aX C) (N : CalF P w K mg base 2 "is_name" ["part"] spNm fN fdN) : FnOk P w K mg base CX0 3 f fd ["self", "name"] (spM C aName) := by
  refine F.ok scTName (fun vs H Q E h => by obtain ⟨H0, p, s, vs', r, rfl, ⟨x, rfl, _⟩, _⟩ := h; rfl) (fun cdv A outer s H vs Q E hr h => ?_)
  obtain ⟨H0, p, z, _, _, rfl, ⟨x, rfl, hx, hn, rfl⟩, ⟨dx, a, b, c, us, S⟩, k⟩ := h
  have hu := hu_of hr
  refine ⟨_, pss_cons (ps_if (PW.pt (pw_or (pt_not (pt_val (pe_call N.G hr (by rfl) N.g N.kp N.b .nil pass0 (pa_cons (pv 1) pa_nil)))) (pw_or1 (pt_cmp (pc_din hu (pv 1) (pe_fld (pv 0) rfl)))))) (pss_one (ps_ret pe_bl)) pss_nil)
    (pss_cons (ps_dput hu (pe_fld (pv 0) rfl) (pv 1) (pe_callB call_len_seq (by rfl) T.len PySem.boot_len (pa_cons (pe_fld (pv 0) rfl) pa_nil)) rfl)
    (pss_one (ps_ret pe_bl))), ?_⟩
  refine ⟨_, rfl, x, rfl, hx, _, rfl, ifN (fun h => ?_) (fun h => ?_)⟩
  · have e : nameM x z = (false, z) := if_pos (Or.inl h)
    rw [e] at k
    exact k _ ⟨dx, a, b, c, us, S⟩
  · refine ⟨_, rfl, _, rfl, p, C, dx, _, _, rfl, S.hp, T.cl, T.nN, shF_n _ _ _, b, _, rfl, DGet.k (k := Sum.inr x) S.hb, _, rfl, ?_⟩
    rw [valV_nmK]
    refine ifB (fun h2 => ?_) (fun h2 => ?_)
    · have e : nameM x z = (false, z) := if_pos (Or.inr h2)
      rw [e] at k
      exact k _ ⟨dx, a, b, c, us, S⟩
    · have e : nameM x z = (true, { z with names := z.names ++ [(x, (z.words.length : Int))] }) := if_neg (fun q => q.elim (fun q => by rw [h] at q; cases q) (fun q => by rw [h2] at q; cases q))
      rw [e] at k
      refine ⟨_, rfl, p, C, dx, _, _, rfl, S.hp, T.cl, T.nW, shF_w _ _ _, a, _, rfl, .inl (SqL.of S.ha), ?_⟩
      refine ⟨_, rfl, p, C, dx, _, _, rfl, S.hp, T.cl, T.nN, shF_n _ _ _, _, rfl, b, _, rfl, DPut.k (k := Sum.inr x) S.hb (by rw [nmK_len]; exact Nat.lt_of_lt_of_le hn (by decide)), ?_⟩
      rw [List.length_map, putK_nmK h2]
      exact k _ ⟨dx, a, b, c, us, S.named _⟩
theorem posN_at {z : Str} (h : z ∈ opN) : opN[posN z]? = some z ∧ ∀ m, m < posN z → opN[m]? ≠ some z := by
  have hlt : posN z < opN.length := List.findIdx_lt_length_of_exists ⟨z, h, by simp⟩
  refine ⟨?_, fun m hm e => ?_⟩
  · have q := List.findIdx_getElem (xs := opN) (p := fun y => y == z) (w := hlt)
    rw [List.getElem?_eq_getElem hlt]
    exact congrArg some (eq_of_beq q)
  · have q := List.not_of_lt_findIdx (xs := opN) (p := fun y => y == z) hm
    obtain ⟨hl, e'⟩ := List.getElem?_eq_some_iff.mp e
    rw [e'] at q
    simp at q
theorem posN_lt {z : Str} (h : z ∈ opN) : posN z < 23 := List.findIdx_lt_length_of_exists ⟨z, h, by simp⟩
theorem scTBare : FnScope ["self", "op"] ["self", "op"] (defScope sTBare) := ⟨rfl, rfl, rfl, by decide +kernel, rfl, by decide +kernel, by decide +kernel⟩
theorem ok_tbare {f fL : Addr} {fd fdL : FuncData} (F : Fun K "take_bare" "Sheet.take_bare" sTBare f fd) (T : Tx K mg aN aX C) (L : CalM P w K mg base C 2 "lay" ["self", "word", "many"] (spM C aLay) fL fdL) : FnOk P w K mg base CX0 3 f fd ["self", "op"] (spM C aBare) := by
  obtain ⟨tx, gxs⟩ := T.xs
  refine F.ok scTBare (fun vs H Q E h => by obtain ⟨H0, p, s, vs', r, rfl, ⟨x, rfl, _⟩, _⟩ := h; rfl) (fun cdv A outer s H vs Q E hr h => ?_)
  obtain ⟨H0, p, z, _, _, rfl, ⟨x, rfl, rfl⟩, ⟨dx, a, b, c, us, S⟩, k⟩ := h
  have hu := hu_of hr
  refine ⟨_, pss_cons (ps_if (PW.pt (pw_or (pt_cmpR op_notIn_seq (pv 1) (pgR T.gN) (by rfl)) (pw_or1 (pt_cmpR op_in_seq (pv 1) (pgR T.gX) (by rfl))))) (pss_one (ps_ret pe_bl)) pss_nil)
    (pss_one (ps_ret (pe_meth (pv 0) T.cl L.m L.G hr L.b .nil pass0 (pa_cons (pe_op op_mul (pe_bm PySem.F.plainAttrs_tuple PySem.F.slot_tuple_index PySem.F.type_tuple_index mt_tup_index (pgR T.gN) (pa_cons (pv 1) pa_nil)) (pgI gxs)) (pa_cons pe_int pa_nil))))), ?_⟩
  have ef : ∀ {B : Prop}, (x ∉ opN ∨ x ∈ opX) → Q (.bl false) H := fun h => by
    have e : bareM x z = (false, z) := if_pos h
    rw [e] at k
    exact k _ ⟨dx, a, b, c, us, S⟩
  refine ⟨_, rfl, aN, _, rfl, .inr (T.vN _), rfl, flat_strs' _, _, rfl, ?_⟩
  rw [if_pos rfl, in_strs]
  refine ifN (fun h => ?_) (fun h => ?_)
  · exact ef (B := True) (.inl (of_decide_eq_false h))
  · have hm : x ∈ opN := of_decide_eq_true h
    refine ⟨_, rfl, aX, _, rfl, .inr (T.vX _), rfl, flat_strs' _, _, rfl, ?_⟩
    rw [if_neg Bool.false_ne_true, in_strs]
    refine ifB (fun h2 => ?_) (fun h2 => ?_)
    · exact ef (B := True) (.inr (of_decide_eq_true h2))
    · have hx2 : ¬ x ∈ opX := of_decide_eq_false h2
      have e : bareM x z = layM ((posN x : Int) * 1024) 1 z := if_neg (fun q => q.elim (fun q => q hm) hx2)
      rw [e] at k
      obtain ⟨oN, l1, l2, l3⟩ := T.tN
      refine ⟨_, rfl, p, dx, _, rfl, S.hp, no_take, .inr (.inl ⟨rfl, oN, l1, l2, l3⟩), _, rfl, aN, opN, x, posN x, rfl, rfl, T.vN _, (posN_at hm).1, (posN_at hm).2, _, _, rfl, rfl, .inl ?_, ?_⟩
      · have := posN_lt hm
        exact ⟨by omega, by omega⟩
      · exact ⟨H0, p, z, _, _, rfl, ⟨_, 1, rfl, by decide, by decide, rfl⟩, ⟨dx, a, b, c, us, S⟩, k⟩
theorem scTAt : FnScope ["self", "address"] ["self", "address"] (defScope sTAt) := ⟨rfl, rfl, rfl, by decide +kernel, rfl, by decide +kernel, by decide +kernel⟩
theorem ok_tat {f fL : Addr} {fd fdL : FuncData} (F : Fun K "take_at" "Sheet.take_at" sTAt f fd) (T : Tx K mg aN aX C) (L : CalM P w K mg base C 2 "lay" ["self", "word", "many"] (spM C aLay) fL fdL) : FnOk P w K mg base CX0 3 f fd ["self", "address"] (spM C aAt) := by
  obtain ⟨tx, gxs⟩ := T.er
  refine F.ok scTAt (fun vs H Q E h => by obtain ⟨H0, p, s, vs', r, rfl, ⟨x, rfl, _⟩, _⟩ := h; rfl) (fun cdv A outer s H vs Q E hr h => ?_)
  obtain ⟨H0, p, z, _, _, rfl, ⟨o, rfl, hb, rfl⟩, ⟨dx, a, b, c, us, S⟩, k⟩ := h
  refine ⟨_, pss_cons (ps_if (PW.pt (pw_or (pt_cmp (pc_isN (pv 1))) (pw_or1 (pt_cmpR op_lt (pv 1) (pe_callB call_len_seq (by rfl) T.len PySem.boot_len (pa_cons (pe_fld (pv 0) rfl) pa_nil)) (nomark _))))) (pss_one (ps_ret pe_bl)) pss_nil)
    (pss_one (ps_ret (pe_meth (pv 0) T.cl L.m L.G hr L.b .nil pass0 (pa_cons (pgI gxs) (pa_cons (pe_op op_sub (pv 1) (pe_callB call_len_seq (by rfl) T.len PySem.boot_len (pa_cons (pe_fld (pv 0) rfl) pa_nil))) pa_nil))))), ?_⟩
  cases o with
  | none =>
    refine ⟨_, rfl, _, rfl, ?_⟩
    exact k _ ⟨dx, a, b, c, us, S⟩
  | some n =>
    obtain ⟨n0, n1⟩ := hb n rfl
    refine ⟨_, rfl, _, rfl, ?_⟩
    refine ⟨_, rfl, _, rfl, p, C, dx, _, _, rfl, S.hp, T.cl, T.nW, shF_w _ _ _, a, _, rfl, .inl (SqL.of S.ha), _, _, rfl, rfl, _, rfl, ?_⟩
    rw [List.length_map]
    refine ifB (fun h => ?_) (fun h => ?_)
    · have e : atM (some n) z = (false, z) := if_pos (of_decide_eq_true h)
      rw [e] at k
      exact k _ ⟨dx, a, b, c, us, S⟩
    · have h' := of_decide_eq_false h
      have e : atM (some n) z = layM 65535 (n - z.words.length) z := if_neg h'
      rw [e] at k
      refine ⟨_, rfl, p, dx, _, rfl, S.hp, no_take, _, rfl, _, rfl, p, C, dx, _, _, rfl, S.hp, T.cl, T.nW, shF_w _ _ _, a, _, rfl, .inl (SqL.of S.ha), _, _, rfl, rfl, ?_⟩
      rw [List.length_map]
      exact ⟨H0, p, z, _, _, rfl, ⟨_, _, rfl, by omega, by omega, rfl⟩, ⟨dx, a, b, c, us, S⟩, k⟩
theorem scTKeep : FnScope ["self", "many"] ["self", "many"] (defScope sTKeep) := ⟨rfl, rfl, rfl, by decide +kernel, rfl, by decide +kernel, by decide +kernel⟩
theorem ok_tkeep {f fL : Addr} {fd fdL : FuncData} (F : Fun K "take_keep" "Sheet.take_keep" sTKeep f fd) (T : Tx K mg aN aX C) (L : CalM P w K mg base C 2 "lay" ["self", "word", "many"] (spM C aLay) fL fdL) : FnOk P w K mg base CX0 3 f fd ["self", "many"] (spM C aKeep) := by
  refine F.ok scTKeep (fun vs H Q E h => by obtain ⟨H0, p, s, vs', r, rfl, ⟨x, rfl, _⟩, _⟩ := h; rfl) (fun cdv A outer s H vs Q E hr h => ?_)
  obtain ⟨H0, p, z, _, _, rfl, ⟨o, rfl, hb, rfl⟩, ⟨dx, a, b, c, us, S⟩, k⟩ := h
  refine ⟨_, pss_cons (ps_if (pt_cmp (pc_isN (pv 1))) (pss_one (ps_ret pe_bl)) pss_nil)
    (pss_one (ps_ret (pe_meth (pv 0) T.cl L.m L.G hr L.b .nil pass0 (pa_cons pe_int (pa_cons (pv 1) pa_nil))))), ?_⟩
  cases o with
  | none =>
    refine ⟨_, rfl, _, rfl, ?_⟩
    exact k _ ⟨dx, a, b, c, us, S⟩
  | some n =>
    obtain ⟨n0, n1⟩ := hb n rfl
    refine ⟨_, rfl, _, rfl, ?_⟩
    refine ⟨_, rfl, p, dx, _, rfl, S.hp, no_take, _, rfl, ?_⟩
    exact ⟨H0, p, z, _, _, rfl, ⟨_, _, rfl, n0, n1, rfl⟩, ⟨dx, a, b, c, us, S⟩, k⟩
theorem scTWorth : FnScope ["self", "at", "base", "part", "most", "number"] ["self", "at", "base", "part", "most"] (defScope sTWorth) := ⟨rfl, rfl, rfl, by decide +kernel, rfl, by decide +kernel, by decide +kernel⟩
theorem ok_tworth {f fL fN fM : Addr} {fd fdL fdN fdM : FuncData} (F : Fun K "take_worth" "Sheet.take_worth" sTWorth f fd) (T : Tx K mg aN aX C) (L : CalM P w K mg base C 2 "lay" ["self", "word", "many"] (spM C aLay) fL fdL)
    (N : CalF P w K mg base 2 "is_name" ["part"] spNm fN fdN) (M : CalF P w K mg base 2 "number_of" ["part"] spNum fM fdM) : FnOk P w K mg base CX0 3 f fd ["self", "at", "base", "part", "most"] (spM C aWorth) := by
  refine F.ok scTWorth (fun vs H Q E h => by obtain ⟨H0, p, s, vs', r, rfl, ⟨_, _, _, _, rfl, _⟩, _⟩ := h; rfl) (fun cdv A outer s H vs Q E hr h => ?_)
  obtain ⟨H0, p, z, _, _, rfl, ⟨i, bs, x, m, rfl, hx, hus, rfl⟩, ⟨dx, a, b, c, us, S⟩, k⟩ := h
  refine ⟨_, pss_cons (ps_if (pt_val (pe_call N.G hr (by rfl) N.g N.kp N.b .nil pass0 (pa_cons (pv 3) pa_nil)))
      (pss_cons (ps_expr (pe_bm PySem.F.plainAttrs_list PySem.F.slot_list_append PySem.F.type_list_append mt_append (pe_fld (pv 0) rfl) (pa_cons (pe_tup (pa_cons (pv 1) (pa_cons (pe_callB call_len_seq (by rfl) T.len PySem.boot_len (pa_cons (pe_fld (pv 0) rfl) pa_nil)) (pa_cons (pv 3) pa_nil)))) pa_nil)))
        (pss_one (ps_ret (pe_meth (pv 0) T.cl L.m L.G hr L.b .nil pass0 (pa_cons (pv 2) (pa_cons pe_int pa_nil)))))) pss_nil)
    (pss_cons (ps_set (i := 5) scTWorth.nd rfl (.inl rfl) (pe_call M.G hr (by rfl) M.g M.kp M.b .nil pass0 (pa_cons (pv 3) pa_nil)))
    (pss_cons (ps_if (PW.pt (pw_or (pt_cmp (pc_isN (pv 5))) (pw_or1 (pt_cmpR op_gt (pv 5) (pv 4) (nomark _))))) (pss_one (ps_ret pe_bl)) pss_nil)
    (pss_one (ps_ret (pe_meth (pv 0) T.cl L.m L.G hr L.b .nil pass0 (pa_cons (pe_op op_add (pv 2) (pv 5)) (pa_cons pe_int pa_nil))))))), ?_⟩
  refine ⟨_, rfl, x, rfl, hx, _, rfl, ifB (fun h => ?_) (fun h => ?_)⟩
  · have e : worthM i bs x m z = layM bs 1 { z with uses := z.uses ++ [(i, (z.words.length : Int), x)] } := if_pos h
    rw [e] at k
    refine ⟨_, rfl, p, C, dx, _, _, rfl, S.hp, T.cl, T.nU, shF_u _ _ _, .inl ⟨rfl, _, SqL.of S.hc⟩, ?_⟩
    refine ⟨_, rfl, _, rfl, p, C, dx, _, _, rfl, S.hp, T.cl, T.nW, shF_w _ _ _, a, _, rfl, .inl (SqL.of S.ha), _, rfl, (by show 3 ≤ sizeLine; decide), fun t nt => ?_⟩
    rw [List.length_map]
    have S1 := S.more (o := useT (i, (z.words.length : Int), x)) nt
    refine ⟨c, us, _, rfl, rfl, S1.hc, ?_, ?_⟩
    · rw [UsesAt.len S.hu]
      exact Nat.lt_of_lt_of_le hus (by decide)
    · have S2 := S1.used (u := (i, (z.words.length : Int), x)) upd_same
      refine ⟨_, rfl, p, dx, _, rfl, S2.hp, no_take, _, rfl, ?_⟩
      exact ⟨H0, p, _, _, _, rfl, ⟨_, 1, rfl, by decide, by decide, rfl⟩, ⟨dx, a, b, c, _, S2⟩, k⟩
  · refine ⟨_, rfl, x, rfl, hx, ?_⟩
    unfold worthM at k
    rw [h, if_neg Bool.false_ne_true] at k
    cases hn : numOf x with
    | none =>
      rw [hn] at k
      refine ⟨_, rfl, _, rfl, ?_⟩
      exact k _ ⟨dx, a, b, c, us, S⟩
    | some n =>
      rw [hn] at k
      refine ⟨_, rfl, _, rfl, ?_⟩
      refine ⟨_, rfl, _, rfl, _, _, rfl, rfl, _, rfl, ?_⟩
      have k' : ∀ H' : Hp, SheetAt C H0 H' p (if n > m then (false, z) else layM (bs + n) 1 z).2 → Q (.bl (if n > m then (false, z) else layM (bs + n) 1 z).1) H' := k
      refine ifB (fun h2 => ?_) (fun h2 => ?_)
      · rw [if_pos (of_decide_eq_true h2)] at k'
        exact k' _ ⟨dx, a, b, c, us, S⟩
      · rw [if_neg (of_decide_eq_false h2)] at k'
        refine ⟨_, rfl, p, dx, _, rfl, S.hp, no_take, _, rfl, _, rfl, _, _, rfl, rfl, ?_⟩
        exact ⟨H0, p, _, _, _, rfl, ⟨_, 1, rfl, by decide, by decide, rfl⟩, ⟨dx, a, b, c, _, S⟩, k'⟩
end
end Bh

/-! take_pair, take: one row of a text. -/
namespace Bh
open PySem PySem.Spec PyProof.Rows L2
open TL
theorem spl_part_le (S : List Nat) : ∀ (l : List Nat) (k : Nat) (acc : List Nat), ∀ q ∈ spl S k acc l, q.length ≤ acc.length + l.length
  | [], k, acc, q, hq => by
    rw [spl_nil] at hq
    rw [List.mem_singleton.mp hq]
    exact Nat.le_add_right _ _
  | c :: r, 0, acc, q, hq => by
    cases e : pre S (c :: r) with
    | true =>
      rw [spl_hit e] at hq
      rcases List.mem_cons.mp hq with h | h
      · rw [h]
        exact Nat.le_add_right _ _
      · have := spl_part_le S r (S.length - 1) [] q h
        simp only [List.length_nil, List.length_cons] at this ⊢
        omega
    | false =>
      rw [spl_miss e] at hq
      have := spl_part_le S r 0 (acc ++ [c]) q hq
      simp only [List.length_append, List.length_cons, List.length_nil] at this ⊢
      omega
  | c :: r, k + 1, acc, q, hq => by
    have := spl_part_le S r k acc q hq
    simp only [List.length_cons] at this ⊢
    omega
theorem split_le {x y : Str} (hy : tl y ≠ []) (hk : y.cps.all (· < 256) = true) {q : Str} (hq : q ∈ Txt.split x y) : q.length ≤ x.length := by
  have e := split_spl x y hy (kind_ok hk)
  have m : tl q ∈ (Txt.split x y).map tl := List.mem_map_of_mem hq
  rw [e] at m
  have := spl_part_le (tl y) (tl x) 0 [] (tl q) m
  rw [len_tl, len_tl]
  simpa using this
theorem opX_sub {z : Str} (h : z ∈ opX) : z ∈ opN := by
  have key : ∀ y ∈ opX, y ∈ opN := by decide +kernel
  exact key z h
theorem no_m {a b c : Addr} {m : Str} (h : decide (m = ("words" : Str) ∨ m = ("names" : Str) ∨ m = ("uses" : Str)) = false) : (shF a b c).lookup m = none := by
  have h' := of_decide_eq_false h
  exact shF_no _ _ _ (fun e => h' (.inl e)) (fun e => h' (.inr (.inl e))) (fun e => h' (.inr (.inr e)))
section
variable {P : Program} {w : World} {K : PySem.W.Frag} {mg : Str → Option Value} {base : Heap} {aN aX C : Addr}
theorem scTPair : FnScope ["self", "at", "head", "part"] ["self", "at", "head", "part"] (defScope sTPair) := ⟨rfl, rfl, rfl, by decide +kernel, rfl, by decide +kernel, by decide +kernel⟩
theorem ok_tpair {f fA fP fW fM : Addr} {fd fdA fdP fdW fdM : FuncData} (F : Fun K "take_pair" "Sheet.take_pair" sTPair f fd) (T : Tx K mg aN aX C) (A1 : CalM P w K mg base C 3 "take_at" ["self", "address"] (spM C aAt) fA fdA)
    (A2 : CalM P w K mg base C 3 "take_keep" ["self", "many"] (spM C aKeep) fP fdP) (A3 : CalM P w K mg base C 3 "take_worth" ["self", "at", "base", "part", "most"] (spM C aWorth) fW fdW)
    (M : CalF P w K mg base 2 "number_of" ["part"] spNum fM fdM) : FnOk P w K mg base CX0 4 f fd ["self", "at", "head", "part"] (spM C aPair) := by
  obtain ⟨tx, gxs⟩ := T.xs
  obtain ⟨tw, gwm⟩ := T.wm
  refine F.ok scTPair (fun vs H Q E h => by obtain ⟨H0, p, s, vs', r, rfl, ⟨_, _, _, rfl, _⟩, _⟩ := h; rfl) (fun cdv A outer s H vs Q E hr h => ?_)
  obtain ⟨H0, p, z, _, _, rfl, ⟨i, hd, x, rfl, hx, hus, rfl⟩, ⟨dx, a, b, c, us, S⟩, k⟩ := h
  have hr1 : Room 2 _ := hr.mono (by decide)
  refine ⟨_, pss_cons (ps_if (pt_cmpR op_eq (pv 2) pe_str (nomark _)) (pss_one (ps_ret (pe_meth (pv 0) T.cl A1.m A1.G hr A1.b .nil pass0 (pa_cons (pe_call M.G hr1 (by rfl) M.g M.kp M.b .nil pass0 (pa_cons (pv 3) pa_nil)) pa_nil)))) pss_nil)
    (pss_cons (ps_if (pt_cmpR op_eq (pv 2) pe_str (nomark _)) (pss_one (ps_ret (pe_meth (pv 0) T.cl A2.m A2.G hr A2.b .nil pass0 (pa_cons (pe_call M.G hr1 (by rfl) M.g M.kp M.b .nil pass0 (pa_cons (pv 3) pa_nil)) pa_nil)))) pss_nil)
    (pss_cons (ps_if (pt_cmpR op_eq (pv 2) pe_str (nomark _)) (pss_one (ps_ret (pe_meth (pv 0) T.cl A3.m A3.G hr A3.b .nil pass0 (pa_cons (pv 1) (pa_cons pe_int (pa_cons (pv 3) (pa_cons (pgI gwm) pa_nil))))))) pss_nil)
    (pss_cons (ps_if (pt_cmpR op_in_seq (pv 2) (pgR T.gX) (by rfl)) (pss_one (ps_ret (pe_meth (pv 0) T.cl A3.m A3.G hr A3.b .nil pass0 (pa_cons (pv 1) (pa_cons (pe_op op_mul (pe_bm PySem.F.plainAttrs_tuple PySem.F.slot_tuple_index PySem.F.type_tuple_index mt_tup_index (pgR T.gN) (pa_cons (pv 2) pa_nil)) (pgI gxs)) (pa_cons (pv 3) (pa_cons (pe_op op_sub (pgI gxs) pe_int) pa_nil))))))) pss_nil)
    (pss_one (ps_ret pe_bl))))), ?_⟩
  have S' : SheetAt C H0 H p z := ⟨dx, a, b, c, us, S⟩
  have bnd : ∀ n, numOf x = some n → 0 ≤ n ∧ n < 100000 := fun n e => ⟨numOf_nonneg e, numOf_lt e⟩
  unfold pairM at k
  refine ⟨_, rfl, rfl, _, rfl, ifB (fun h1 => ?_) (fun h1 => ?_)⟩
  · rw [if_pos (V.str.inj (of_decide_eq_true h1))] at k
    exact ⟨_, rfl, p, dx, _, rfl, S.hp, no_m (by decide +kernel), _, rfl, x, rfl, hx, H0, p, z, _, _, rfl, ⟨_, rfl, bnd, rfl⟩, S', k⟩
  rw [if_neg (fun e => of_decide_eq_false h1 (congrArg V.str e))] at k
  refine ⟨_, rfl, rfl, _, rfl, ifB (fun h2 => ?_) (fun h2 => ?_)⟩
  · rw [if_pos (V.str.inj (of_decide_eq_true h2))] at k
    exact ⟨_, rfl, p, dx, _, rfl, S.hp, no_m (by decide +kernel), _, rfl, x, rfl, hx, H0, p, z, _, _, rfl, ⟨_, rfl, bnd, rfl⟩, S', k⟩
  rw [if_neg (fun e => of_decide_eq_false h2 (congrArg V.str e))] at k
  refine ⟨_, rfl, rfl, _, rfl, ifB (fun h3 => ?_) (fun h3 => ?_)⟩
  · rw [if_pos (V.str.inj (of_decide_eq_true h3))] at k
    exact ⟨_, rfl, p, dx, _, rfl, S.hp, no_m (by decide +kernel), _, rfl, _, rfl, H0, p, z, _, _, rfl, ⟨_, _, _, _, rfl, hx, hus, rfl⟩, S', k⟩
  rw [if_neg (fun e => of_decide_eq_false h3 (congrArg V.str e))] at k
  refine ⟨_, rfl, aX, _, rfl, .inr (T.vX _), rfl, flat_strs' _, _, rfl, ?_⟩
  rw [if_neg Bool.false_ne_true, in_strs]
  refine ifB (fun h4 => ?_) (fun h4 => ?_)
  · have h4' := of_decide_eq_true h4
    rw [if_pos h4'] at k
    have hm := opX_sub h4'
    obtain ⟨oN, l1, l2, l3⟩ := T.tN
    refine ⟨_, rfl, p, dx, _, rfl, S.hp, no_m (by decide +kernel), _, rfl, .inr (.inl ⟨rfl, oN, l1, l2, l3⟩), _, rfl, aN, opN, hd, posN hd, rfl, rfl, T.vN _, (posN_at hm).1, (posN_at hm).2, _, _, rfl, rfl, .inl ?_, _, rfl, _, _, rfl, rfl, ?_⟩
    · have := posN_lt hm
      exact ⟨by omega, by omega⟩
    · exact ⟨H0, p, z, _, _, rfl, ⟨_, _, _, _, rfl, hx, hus, rfl⟩, S', k⟩
  · rw [if_neg (of_decide_eq_false h4)] at k
    exact k _ S'
theorem scTake : FnScope ["self", "at", "row", "parts"] ["self", "at", "row"] (defScope sTake) := ⟨rfl, rfl, rfl, by decide +kernel, rfl, by decide +kernel, by decide +kernel⟩
theorem ok_take {f fA fP fW : Addr} {fd fdA fdP fdW : FuncData} (F : Fun K "take" "Sheet.take" sTake f fd) (T : Tx K mg aN aX C) (A1 : CalM P w K mg base C 3 "take_name" ["self", "name"] (spM C aName) fA fdA)
    (A2 : CalM P w K mg base C 3 "take_bare" ["self", "op"] (spM C aBare) fP fdP) (A3 : CalM P w K mg base C 4 "take_pair" ["self", "at", "head", "part"] (spM C aPair) fW fdW) : FnOk P w K mg base CX0 5 f fd ["self", "at", "row"] (spM C aTake) := by
  refine F.ok scTake (fun vs H Q E h => by obtain ⟨H0, p, s, vs', r, rfl, ⟨_, _, rfl, _⟩, _⟩ := h; rfl) (fun cdv A outer s H vs Q E hr h => ?_)
  obtain ⟨H0, p, z, _, _, rfl, ⟨i, x, rfl, hx, hns, hus, rfl⟩, ⟨dx, a, b, c, us, S⟩, k⟩ := h
  have hr2 : Room 3 _ := hr.mono (by decide)
  refine ⟨_, pss_cons (ps_if (pt_cmpR op_eq (pv 2) pe_str (nomark _)) (pss_one (ps_ret pe_bl)) pss_nil)
    (pss_cons (ps_if (pt_val (pe_m1 PySem.F.slot_str_endswith PySem.F.type_str_endswith mt_endswith (pv 2) pe_str)) (pss_one (ps_ret (pe_meth (pv 0) T.cl A1.m A1.G hr2 A1.b .nil pass0 (pa_cons (pe_slice sl_str (pv 2) po_none (po_some (pe_un un_neg pe_int))) pa_nil)))) pss_nil)
    (pss_cons (ps_set (i := 3) scTake.nd rfl (.inl rfl) (pe_split (pv 2) pe_str))
    (pss_cons (ps_if (pt_cmpR op_eq (pe_callB call_len_seq (by rfl) T.len PySem.boot_len (pa_cons (pv 3) pa_nil)) pe_int (nomark _)) (pss_one (ps_ret (pe_meth (pv 0) T.cl A2.m A2.G hr2 A2.b .nil pass0 (pa_cons (pv 2) pa_nil)))) pss_nil)
    (pss_cons (ps_if (pt_cmpR op_eq (pe_callB call_len_seq (by rfl) T.len PySem.boot_len (pa_cons (pv 3) pa_nil)) pe_int (nomark _)) (pss_one (ps_ret (pe_meth (pv 0) T.cl A3.m A3.G hr A3.b .nil pass0 (pa_cons (pv 1) (pa_cons (pe_ix ix_list (pv 3) pe_int (fun _ _ => rfl)) (pa_cons (pe_ix ix_list (pv 3) pe_int (fun _ _ => rfl)) pa_nil)))))) pss_nil)
    (pss_one (ps_ret pe_bl)))))), ?_⟩
  have S' : SheetAt C H0 H p z := ⟨dx, a, b, c, us, S⟩
  have hline : x.length ≤ sizeLine := fits_small (by omega)
  unfold takeM at k
  refine ⟨_, rfl, rfl, _, rfl, ifB (fun h1 => ?_) (fun h1 => ?_)⟩
  · rw [if_pos (V.str.inj (of_decide_eq_true h1))] at k
    exact k _ S'
  rw [if_neg (fun e => of_decide_eq_false h1 (congrArg V.str e))] at k
  refine ⟨_, rfl, ⟨_, rfl⟩, _, _, rfl, rfl, _, rfl, ifB (fun h2 => ?_) (fun h2 => ?_)⟩
  · rw [if_pos h2] at k
    have hc := cutS_length x none (some (-1))
    exact ⟨_, rfl, p, dx, _, rfl, S.hp, no_m (by decide +kernel), _, rfl, 1, rfl, _, rfl, _, rfl, hline, H0, p, z, _, _, rfl, ⟨_, rfl, by omega, hns, rfl⟩, S', k⟩
  rw [if_neg (by rw [h2]; exact Bool.false_ne_true)] at k
  refine ⟨_, rfl, ⟨_, rfl⟩, _, _, rfl, rfl, rfl, (by
    have : 90002 ≤ sizeLine := by decide
    omega), fun l nl => ?_⟩
  have S1 := S.more (o := .lst ((Txt.split x " ").map V.str)) nl
  have S1' : SheetAt C H0 _ p z := ⟨dx, a, b, c, us, S1⟩
  have hl : SqL K (upd H l (.lst ((Txt.split x " ").map V.str))) l ((Txt.split x " ").map V.str) := .inl (.inl upd_same)
  have hle : ∀ q ∈ Txt.split x " ", q.length ≤ 100000 := fun q hq => Nat.le_trans (split_le (by decide +kernel) (by decide +kernel) hq) (by omega)
  refine ⟨_, rfl, l, _, rfl, .inl hl, rfl, _, rfl, ?_⟩
  rw [List.length_map]
  generalize Txt.split x " " = parts at *
  refine ifB (fun h3 => ?_) (fun h3 => ?_)
  · have e1 : parts.length = 1 := by
      have z1 := V.int.inj (of_decide_eq_true h3)
      omega
    match parts, e1 with
    | [q], _ => exact ⟨_, rfl, p, dx, _, rfl, S1.hp, no_m (by decide +kernel), _, rfl, H0, p, z, _, _, rfl, ⟨_, rfl, rfl⟩, S1', k⟩
  have n1 : parts.length ≠ 1 := fun e => of_decide_eq_false h3 (by rw [e] <;> rfl)
  refine ⟨_, rfl, l, _, rfl, .inl hl, rfl, _, rfl, ?_⟩
  rw [List.length_map]
  refine ifB (fun h4 => ?_) (fun h4 => ?_)
  · have e2 : parts.length = 2 := by
      have z1 := V.int.inj (of_decide_eq_true h4)
      omega
    match parts, e2 with
    | [q1, q2], _ => exact ⟨_, rfl, p, dx, _, rfl, S1.hp, no_m (by decide +kernel), _, rfl, _, rfl, l, _, 0, .str q1, rfl, rfl, hl, atI_nat (j := 0) rfl, _, rfl, l, _, 1, .str q2, rfl, rfl, hl, atI_nat (j := 1) rfl, H0, p, z, _, _, rfl, ⟨_, _, _, rfl, hle q2 (by simp), hus, rfl⟩, S1', k⟩
  · have n2 : parts.length ≠ 2 := fun e => of_decide_eq_false h4 (by rw [e] <;> rfl)
    match parts, n1, n2 with
    | [], _, _ => exact k _ S1'
    | [_], n, _ => exact absurd rfl n
    | [_, _], _, n => exact absurd rfl n
    | _ :: _ :: _ :: _, _, _ => exact k _ S1'
end
end Bh

/-! put_names_in where every name stands, typed of a text that is read. -/
namespace Bh
open PySem PySem.Spec PyProof.Rows L2
open TL
/-! ### two rules -/
section
variable {X : Cx}
/-- xs[j], read for xs[j] op= e -/
def rAtL (K : PySem.W.Frag) : V → V → Hp → VK → Prop := fun o i H Q => ∃ (p : Addr) (xs : List V) (j : Nat) (z : V), o = .ref p ∧ i = .int (j : Int) ∧ SqL K H p xs ∧ xs[j]? = some z ∧ Q z H
theorem get_list : PGet X (rAtL X.K) := by
  intro pins s σ H o i ov iv Q I ro ri h
  obtain ⟨p, xs, j, z, rfl, rfl, hq, hz, q⟩ := h
  cases ro
  obtain ⟨t, rfl⟩ := ri
  obtain ⟨its, rv, pl, hs⟩ := I.list hq
  obtain ⟨u, hu, ru⟩ := rv.get hz
  have hj : j < xs.length := (List.getElem?_eq_some_iff.mp hz).1
  have hl := rv.length
  have hn := line63
  have hs' : xs.length ≤ sizeLine := hs
  exact wpAny_getItem_list pl.isList (by omega) (by omega) (by simpa using hu) ⟨z, H, I, ru, q⟩
theorem for_enum {K : PySem.W.Frag} {a : Addr} {xs : List V} {g : TG} {tb : TS} {D : Ends} {σ : L2.St} {H : Hp} (Pv : Nat → L2.St → Hp → Prop) (start : Pv 0 σ H) (stays : ∀ i σ H, Pv i σ H → SqL K H a xs)
    (turn : ∀ (i : Nat) (x : V) (T : Addr) (σ : L2.St) (H : Hp), xs[i]? = some x → Pv i σ H → H T = none → g (.ref T) σ (upd H T (.tup [.int (i : Nat), x])) fun σ2 H2 => tb { D with nx := Pv (i + 1), ct := Pv (i + 1), bk := D.nx } σ2 H2) (ends : ∀ σ H, Pv xs.length σ H → D.nx σ H) :
    ∃ W : Nat → Nat → L2.St → Hp → Prop, (∃ m, W 0 m σ H) ∧ ∀ i m σ H, W i m σ H →
      ((Ite K a).stop i H ∧ D.nx σ H) ∨ ((Ite K a).go i H ∧ ∃ N : L2.St → Hp → Prop, (∀ σ' H', N σ' H' → ∃ m', m' < m ∧ W (i + 1) m' σ' H') ∧ ∀ v H', (Ite K a).yld i H v H' → g v σ H' fun σ2 H2 => tb { D with nx := N, ct := N, bk := D.nx } σ2 H2) := by
  refine ⟨fun i m σ H => i + m = xs.length ∧ Pv i σ H, ⟨xs.length, Nat.zero_add _, start⟩, fun i m σ H hW => ?_⟩
  obtain ⟨hm, hP⟩ := hW
  have hS := stays i σ H hP
  cases m with
  | zero =>
    have e : i = xs.length := hm
    rw [e] at hP
    exact .inl ⟨⟨xs, hS, Nat.le_of_eq e.symm⟩, ends σ H hP⟩
  | succ m =>
    have hi : i < xs.length := by omega
    have hx : xs[i]? = some xs[i] := List.getElem?_eq_getElem hi
    refine .inr ⟨⟨xs, xs[i], hS, hx⟩, Pv (i + 1), fun σ' H' h' => ⟨m, Nat.lt_succ_self m, by omega, h'⟩, fun v H' hy => ?_⟩
    obtain ⟨T, y, rfl, hT, rfl, hy⟩ := hy
    have ey : xs[i] = y := Option.some.inj (hx.symm.trans (hy xs hS))
    rw [← ey]
    exact turn i xs[i] T σ H hx hP hT
end
/-! ### names resolved -/
def look (ns : List (Str × Int)) (x : Str) : Option Int := (ns.find? fun p => p.1 == x).map (·.2)
def putM (ns : List (Str × Int)) : List (Int × Int × Str) → List Int → Option (List Int)
  | [], ws => some ws
  | u :: r, ws => match look ns u.2.2, ws[u.2.1.toNat]? with
    | some n, some v => putM ns r (ws.set u.2.1.toNat (v + n))
    | _, _ => none
theorem valV_look (x : Str) : ∀ ns : List (Str × Int), valV (nmK ns) (Sum.inr x) = (look ns x).map V.int
  | [] => rfl
  | (y, n) :: r => by
    have ih := valV_look x r
    unfold nmK look at ih ⊢
    rw [List.map_cons, List.find?_cons]
    by_cases e : y = x
    · subst e
      rw [valV_pos rfl]
      simp
    · have e1 : ¬ ((Sum.inr y : Key) = Sum.inr x) := fun z => e (Sum.inr.inj z)
      rw [valV_neg e1, ih]
      have e2 : (y == x) = false := by simpa using e
      rw [e2]
theorem paired_get {α β : Type} {F : α → β → Prop} : ∀ {xs : List α} {ys : List β} {i : Nat} {y : β}, Paired F xs ys → ys[i]? = some y → ∃ x, xs[i]? = some x ∧ F x y
  | _, _, _, _, .nil, e => by simp at e
  | _, _, 0, _, .cons r _, e => ⟨_, rfl, by rw [← Option.some.inj e]; exact r⟩
  | _, _, i + 1, y, .cons _ t, e => paired_get (i := i) (y := y) t e
theorem set_map (ws : List Int) (j : Nat) (v : Int) : (ws.map V.int).set j (.int v) = (ws.set j v).map V.int := by
  rw [List.map_set]
section
variable {P : Program} {w : World} {K : PySem.W.Frag} {mg : Str → Option Value} {base : Heap} {aN aX C : Addr}
def spPut (C : Addr) : Sp := fun vs H Q _ => ∃ (H0 : Hp) (p : Addr) (s : Sh) (ws : List Int), vs = [.ref p] ∧ SheetAt C H0 H p s ∧ (∀ u ∈ s.uses, 0 ≤ u.2.1) ∧ putM s.names s.uses s.words = some ws ∧ ∀ H' : Hp, SheetAt C H0 H' p { s with words := ws } → Q .non H'
theorem scPut : FnScope ["self", "at", "address", "name"] ["self"] (defScope sPut) := ⟨rfl, rfl, rfl, by decide +kernel, rfl, by decide +kernel, by decide +kernel⟩
theorem ok_put {f : Addr} {fd : FuncData} (F : Fun K "put_names_in" "Sheet.put_names_in" sPut f fd) (T : Tx K mg aN aX C) : FnOk P w K mg base CX0 2 f fd ["self"] (spPut C) := by
  refine F.ok scPut (fun vs H Q E h => by obtain ⟨H0, p, s, ws, rfl, _⟩ := h; rfl) (fun cdv A outer s H vs Q E hr h => ?_)
  obtain ⟨H0, p, z, wz, rfl, ⟨dx, a, b, c, us, S⟩, hpos, hput, k⟩ := h
  have hu := hu_of hr
  refine ⟨_, pss_one (ps_for PassesOwn.never rfl (pi_list (pe_fld (pv 0) rfl)) (pg_tup rfl (pgs_cons (pg_name (i := 1) scPut.nd rfl (.inl rfl)) (pgs_cons (pg_name (i := 2) scPut.nd rfl (.inl rfl)) (pgs_cons (pg_name (i := 3) scPut.nd rfl (.inl rfl)) pgs_nil))))
    (pss_cons (ps_if (pt_cmp (pc_dnotin hu (pv 3) (pe_fld (pv 0) rfl))) (pss_one ps_never) pss_nil)
    (pss_one (ps_augS (pe_fld (pv 0) rfl) (pv 2) get_list (pe_dget hu (pe_fld (pv 0) rfl) (pv 3) (fun _ _ => rfl)) ip_add set_list)))), ?_⟩
  refine ⟨_, rfl, p, C, dx, _, _, rfl, S.hp, T.cl, T.nU, shF_u _ _ _, c, rfl, ⟨_, SqL.of S.hc⟩, ?_⟩
  refine for_list (K := K) (a := c) (xs := us) (fun i σ H' => ∃ (ws : List Int) (y1 y2 y3 : Option V), σ = [some (.ref p), y1, y2, y3] ∧ Shp C H0 H' p dx a b c us { z with words := ws } ∧ putM z.names (z.uses.drop i) ws = some wz)
    ⟨z.words, none, none, none, rfl, S, hput⟩ (fun i σ H' _ h => by obtain ⟨ws, y1, y2, y3, _, S', _⟩ := h; exact SqL.of S'.hc) ?_ ?_
  · rintro i v σ H' hi ⟨ws, y1, y2, y3, rfl, S', hq⟩
    have hul := UsesAt.len S'.hu
    have hil : i < z.uses.length := by
      rw [← hul]
      exact (List.getElem?_eq_some_iff.mp hi).1
    obtain ⟨u, hu1⟩ : ∃ u, z.uses[i]? = some u := ⟨_, List.getElem?_eq_getElem hil⟩
    obtain ⟨v', hv', t, et, ht⟩ := paired_get S'.hu hu1
    have : v = .ref t := by
      rw [← et]
      exact Option.some.inj (hi.symm.trans hv')
    subst this
    have hdrop : z.uses.drop i = u :: z.uses.drop (i + 1) := by
      rw [List.drop_eq_getElem_cons hil]
      have : z.uses[i] = u := Option.some.inj ((List.getElem?_eq_getElem hil).symm.trans hu1)
      rw [this]
    rw [hdrop] at hq
    have hp0 := hpos u (List.mem_of_getElem? hu1)
    unfold putM at hq
    cases hl : look z.names u.2.2 with
    | none => rw [hl] at hq; cases hq
    | some n =>
      rw [hl] at hq
      cases hw : ws[u.2.1.toNat]? with
      | none => rw [hw] at hq; cases hq
      | some vv =>
        rw [hw] at hq
        have hq' : putM z.names (z.uses.drop (i + 1)) (ws.set u.2.1.toNat (vv + n)) = some wz := hq
        have ev : valV (nmK z.names) (Sum.inr u.2.2) = some (.int n) := by
          rw [valV_look, hl]
          rfl
        refine ⟨t, _, rfl, SqT.of ht, rfl, _, _, rfl, _, _, rfl, _, _, rfl, rfl, ?_⟩
        refine ⟨_, rfl, _, rfl, p, C, dx, _, _, rfl, S'.hp, T.cl, T.nN, shF_n _ _ _, b, some (.int n), rfl, (by rw [← ev]; exact DGet.k (k := Sum.inr u.2.2) S'.hb), _, rfl, ?_⟩
        refine ⟨_, rfl, p, C, dx, _, _, rfl, S'.hp, T.cl, T.nW, shF_w _ _ _, _, rfl, ?_⟩
        have eN : u.2.1 = ((u.2.1.toNat : Nat) : Int) := (Int.toNat_of_nonneg hp0).symm
        have hlt : u.2.1.toNat < ws.length := (List.getElem?_eq_some_iff.mp hw).1
        refine ⟨a, _, u.2.1.toNat, .int vv, rfl, congrArg V.int eN, SqL.of S'.ha, by rw [List.getElem?_map, hw]; rfl, ?_⟩
        refine ⟨_, rfl, p, C, dx, _, _, rfl, S'.hp, T.cl, T.nN, shF_n _ _ _, _, rfl, ?_⟩
        have ei : ixN (ws.map V.int).length u.2.1 = some u.2.1.toNat := by
          unfold ixN
          rw [if_pos hp0, List.length_map, if_pos (by omega)]
        refine ⟨b, .int n, rfl, (by rw [← ev]; exact DGet.k (k := Sum.inr u.2.2) S'.hb), vv, n, rfl, rfl, a, _, _, _, rfl, rfl, S'.ha, ei, ws.set u.2.1.toNat (vv + n), _, _, _, rfl, ?_, hq'⟩
        rw [set_map]
        exact S'.words _ (by rw [List.length_set]; exact S'.lw)
  · rintro σ H' ⟨ws, y1, y2, y3, rfl, S', hq⟩
    have hul := UsesAt.len S'.hu
    rw [hul, List.drop_length] at hq
    cases hq
    exact k _ ⟨dx, a, b, c, us, S'⟩
theorem takeM_lens (i : Int) (r : Str) (s : Sh) : (takeM i r s).2.names.length ≤ s.names.length + 1 ∧ (takeM i r s).2.uses.length ≤ s.uses.length + 1 := by
  have hl : ∀ (w m : Int) (s : Sh), (layM w m s).2.names = s.names ∧ (layM w m s).2.uses = s.uses := fun w m s => by
    unfold layM
    split <;> exact ⟨rfl, rfl⟩
  have hn : ∀ (x : Str) (s : Sh), (nameM x s).2.names.length ≤ s.names.length + 1 ∧ (nameM x s).2.uses.length ≤ s.uses.length + 1 := fun x s => by
    unfold nameM
    split
    · exact ⟨Nat.le_succ _, Nat.le_succ _⟩
    · refine ⟨?_, Nat.le_succ _⟩
      show (s.names ++ _).length ≤ _
      rw [List.length_append]
      exact Nat.le_refl _
  have hw : ∀ (i b : Int) (x : Str) (m : Int) (s : Sh), (worthM i b x m s).2.names.length ≤ s.names.length + 1 ∧ (worthM i b x m s).2.uses.length ≤ s.uses.length + 1 := fun i b x m s => by
    unfold worthM
    split
    · rw [(hl _ _ _).1, (hl _ _ _).2]
      refine ⟨Nat.le_succ _, ?_⟩
      show (s.uses ++ _).length ≤ _
      rw [List.length_append]
      exact Nat.le_refl _
    · split
      · exact ⟨Nat.le_succ _, Nat.le_succ _⟩
      · split
        · exact ⟨Nat.le_succ _, Nat.le_succ _⟩
        · rw [(hl _ _ _).1, (hl _ _ _).2]
          exact ⟨Nat.le_succ _, Nat.le_succ _⟩
  have h0 : s.names.length ≤ s.names.length + 1 ∧ s.uses.length ≤ s.uses.length + 1 := ⟨Nat.le_succ _, Nat.le_succ _⟩
  have hl0 : ∀ w m, (layM w m s).2.names.length ≤ s.names.length + 1 ∧ (layM w m s).2.uses.length ≤ s.uses.length + 1 := fun w m => by
    rw [(hl _ _ _).1, (hl _ _ _).2]
    exact h0
  unfold takeM
  split
  · exact h0
  split
  · exact hn _ _
  split
  · unfold bareM
    split
    · exact h0
    · exact hl0 _ _
  · unfold pairM
    split
    · unfold atM
      split
      · exact h0
      · split
        · exact h0
        · exact hl0 _ _
    split
    · unfold keepM
      split
      · exact h0
      · exact hl0 _ _
    split
    · exact hw _ _ _ _ _
    split
    · exact hw _ _ _ _ _
    · exact h0
  · exact h0
theorem Shp.based {H0 H : Hp} {p dx a b c l : Addr} {us : List V} {s : Sh} {o : HO} (h : Shp C H0 H p dx a b c us s) (nl : H l = none) : Shp C (upd H0 l o) (upd H l o) p dx a b c us s where
  sm := fun z y e => by
    by_cases hz : z = l
    · rw [hz, upd_same] at e ⊢
      exact e
    · rw [upd_ne hz] at e ⊢
      exact h.sm _ _ e
  fp := by rw [upd_ne (ne_of_none h.hp nl)]; exact h.fp
  fa := by rw [upd_ne (ne_of_none h.ha nl)]; exact h.fa
  fb := by rw [upd_ne (ne_of_none h.hb nl)]; exact h.fb
  fc := by rw [upd_ne (ne_of_none h.hc nl)]; exact h.fc
  hp := same_upd' nl _ _ h.hp
  ha := same_upd' nl _ _ h.ha
  hb := same_upd' nl _ _ h.hb
  hc := same_upd' nl _ _ h.hc
  ac := h.ac
  hu := h.hu.mono fun t xs e => same_upd' nl _ _ e
  lw := h.lw
theorem split_count_le (x y : Str) (hy : tl y ≠ []) (hk : y.cps.all (· < 256) = true) : (Txt.split x y).length ≤ x.length + 1 := by
  have key : ∀ (S l : List Nat) (k : Nat) (acc : List Nat), (spl S k acc l).length ≤ l.length + 1 := by
    intro S l
    induction l with
    | nil => intro k acc; rw [spl_nil]; exact Nat.le_refl _
    | cons c r ih =>
      intro k acc
      cases k with
      | zero =>
        cases e : pre S (c :: r) with
        | true =>
          rw [spl_hit e, List.length_cons, List.length_cons]
          have := ih (S.length - 1) []
          omega
        | false =>
          rw [spl_miss e, List.length_cons]
          have := ih 0 (acc ++ [c])
          omega
      | succ k =>
        have := ih k acc
        rw [List.length_cons]
        show (spl S k acc r).length ≤ _
        omega
  have e := split_spl x y hy (kind_ok hk)
  have l := congrArg List.length e
  rw [List.length_map] at l
  rw [l, len_tl]
  exact key _ _ _ _
/-- typed of a text that is read: the rows' sheet, its words with the names put in -/
def spTyped : Sp := fun vs H Q _ => ∃ (x : Str) (s : Sh) (ws : List Int), vs = [.str x] ∧ x.length ≤ 80000 ∧ runM 0 (Txt.split x "\n") sh0 = some s ∧ (∀ u ∈ s.uses, 0 ≤ u.2.1) ∧ putM s.names s.uses s.words = some ws ∧
  ∀ (H' : Hp) (t a b : Addr), Same H H' → H t = none → H a = none → H b = none → H' t = some (.tup [.ref a, .ref b]) → H' a = some (.lst (ws.map V.int)) → H' b = some (.dK (nmK s.names)) → Q (.ref t) H'
theorem scTyped : FnScope ["text", "sheet", "at", "row"] ["text"] (defScope sTyped) := ⟨rfl, rfl, rfl, by decide +kernel, rfl, by decide +kernel, by decide +kernel⟩
theorem ok_typed {f fI fK fP : Addr} {fd fdI fdK fdP : FuncData} (F : Fun K "typed" "typed" sTyped f fd) (T : Tx K mg aN aX C) (M : Mk K C fI) (I : FnOk P w K mg base CX0 2 fI fdI ["self"] (spInit C)) (bI : Binds K fdI ["self"] [])
    (A1 : CalM P w K mg base C 5 "take" ["self", "at", "row"] (spM C aTake) fK fdK) (A2 : CalM P w K mg base C 2 "put_names_in" ["self"] (spPut C) fP fdP) : FnOk P w K mg base CX0 6 f fd ["text"] spTyped := by
  refine F.ok scTyped (fun vs H Q E h => by obtain ⟨x, s, ws, rfl, _⟩ := h; rfl) (fun cdv A outer s H vs Q E hr h => ?_)
  obtain ⟨x, sf, wf, rfl, hx, hrun, hpos, hput, q⟩ := h
  have hr1 : Room 2 _ := hr.mono (by decide)
  have hr2 : Room (2 + 1) _ := hr.mono (by decide)
  refine ⟨_, pss_cons (ps_set (i := 1) scTyped.nd rfl (.inl rfl) (pe_make0 M I hr2 rfl T.gC bI .nil pass0))
    (pss_cons (ps_for PassesOwn.never rfl (pi_enum (by rfl) T.enu (pa_cons (pe_split (pv 0) pe_str) pa_nil)) (pg_tup rfl (pgs_cons (pg_name (i := 2) scTyped.nd rfl (.inl rfl)) (pgs_cons (pg_name (i := 3) scTyped.nd rfl (.inl rfl)) pgs_nil)))
      (pss_one (ps_if (pt_not (pt_val (pe_meth (pv 1) T.cl A1.m A1.G hr A1.b .nil pass0 (pa_cons (pv 2) (pa_cons (pv 3) pa_nil))))) (pss_one ps_never) pss_nil)))
    (pss_cons (ps_expr (pe_meth0 (pv 1) T.cl A2.m A2.G hr1 A2.b .nil pass0))
    (pss_one (ps_ret (pe_tup (pa_cons (pe_fld (pv 1) rfl) (pa_cons (pe_fld (pv 1) rfl) pa_nil))))))), ?_⟩
  intro p dx0 np ndx nex
  have s0 : Same H (upd (upd H dx0 (.own p)) p (.ins C dx0 [])) := fun b o e => by
    rw [upd_ne (ne_of_none e np), upd_ne (ne_of_none e ndx)]
    exact e
  refine ⟨H, p, dx0, rfl, s0, np, upd_same, fun H1 R1 => ⟨rfl, _, rfl, ⟨_, rfl⟩, _, _, rfl, rfl, rfl, (by
    have : 80002 ≤ sizeLine := by decide
    omega), fun l nl => ?_⟩⟩
  obtain ⟨dx, a, b, c, us, S⟩ := R1
  have Sb := S.based (l := l) (o := .lst ((Txt.split x "\n").map V.str)) nl
  have nl0 : H l = none := S.sm.free nl
  have hcount := split_count_le x "\n" (by decide +kernel) (by decide +kernel)
  have hlen : ∀ r ∈ Txt.split x "\n", r.length ≤ 90000 := fun r hm => Nat.le_trans (split_le (by decide +kernel) (by decide +kernel) hm) (by omega)
  generalize Txt.split x "\n" = rows at *
  refine ⟨l, _, rfl, .inl (.inl upd_same), ?_⟩
  refine for_enum (K := K) (a := l) (xs := rows.map V.str) (fun i σ H' => ∃ (s : Sh) (y2 y3 : Option V), σ = [some (.str x), some (.ref p), y2, y3] ∧ SheetAt C (upd H l (.lst (rows.map V.str))) H' p s ∧ runM i (rows.drop i) s = some sf ∧ s.names.length ≤ i ∧ s.uses.length ≤ i)
    ⟨sh0, none, none, rfl, ⟨dx, a, b, c, us, Sb⟩, hrun, Nat.zero_le _, Nat.zero_le _⟩ (fun i σ H' h => by
      obtain ⟨s, y2, y3, _, ⟨_, _, _, _, _, S'⟩, _⟩ := h
      exact .inl (.inl (S'.sm _ _ upd_same))) ?_ ?_
  · rintro i v T' σ H' hi ⟨z, y2, y3, rfl, ⟨dx', a', b', c', us', S'⟩, hrun', hn, hus⟩ nT
    obtain ⟨r, hr', rfl⟩ : ∃ r, rows[i]? = some r ∧ V.str r = v := by
      rw [List.getElem?_map] at hi
      cases e : rows[i]? with
      | none => rw [e] at hi; cases hi
      | some r => rw [e] at hi; exact ⟨r, rfl, Option.some.inj hi⟩
    have hil : i < rows.length := (List.getElem?_eq_some_iff.mp hr').1
    have hdrop : rows.drop i = r :: rows.drop (i + 1) := by
      rw [List.drop_eq_getElem_cons hil]
      have : rows[i] = r := Option.some.inj ((List.getElem?_eq_getElem hil).symm.trans hr')
      rw [this]
    rw [hdrop] at hrun'
    unfold runM at hrun'
    have S1 := S'.more (o := .tup [.int (i : Nat), .str r]) nT
    refine ⟨T', _, rfl, SqT.of upd_same, rfl, _, _, rfl, _, _, rfl, rfl, ?_⟩
    refine ⟨_, rfl, p, dx', _, rfl, S1.hp, no_m (by decide +kernel), _, rfl, _, rfl, upd H l (.lst (rows.map V.str)), p, z, _, _, rfl, ⟨_, _, rfl, hlen r (List.mem_of_getElem? hr'), by omega, by omega, rfl⟩, ⟨dx', a', b', c', us', S1⟩, fun H2 R2 => ⟨_, rfl, ?_⟩⟩
    have hl2 := takeM_lens (i : Int) r z
    cases e : (takeM (i : Int) r z).1 with
    | false => rw [e] at hrun'; cases hrun'
    | true =>
      rw [e] at hrun'
      have hrun2 : runM ((i : Int) + 1) (rows.drop (i + 1)) (takeM (i : Int) r z).2 = some sf := hrun'
      exact ⟨_, _, _, rfl, R2, hrun2, by omega, by omega⟩
  · rintro σ H' ⟨z, y2, y3, rfl, ⟨dx', a', b', c', us', S'⟩, hrun', hn, hus⟩
    rw [List.length_map, List.drop_length] at hrun'
    cases hrun'
    refine ⟨_, rfl, p, dx', _, rfl, S'.hp, no_m (by decide +kernel), upd H l (.lst (rows.map V.str)), p, sf, wf, rfl, ⟨dx', a', b', c', us', S'⟩, hpos, hput, fun H2 R2 => ?_⟩
    obtain ⟨dx2, a2, b2, c2, us2, S2⟩ := R2
    refine ⟨_, rfl, p, C, dx2, _, _, rfl, S2.hp, T.cl, T.nW, shF_w _ _ _, _, rfl, p, C, dx2, _, _, rfl, S2.hp, T.cl, T.nN, shF_n _ _ _, (by show 2 ≤ sizeLine; decide), fun t nt => ?_⟩
    have fr : ∀ {y : Addr}, upd H l (.lst (rows.map V.str)) y = none → H y = none := fun {y} e => (same_upd' nl0).free e
    have sm2 : Same H H2 := (same_upd' nl0).trans S2.sm
    refine q _ t a2 b2 (sm2.trans (same_upd' nt)) (sm2.free nt) (fr S2.fa) (fr S2.fb) upd_same ?_ ?_
    · rw [upd_ne (ne_of_none S2.ha nt)]
      exact S2.ha
    · rw [upd_ne (ne_of_none S2.hb nt)]
      exact S2.hb
end
end Bh

/-! The law. -/
namespace Bh
open PySem PySem.Spec PyProof.Rows L2
open TL
theorem can_ints : ∀ ns : List Int, PyData.canLayAll0 (ns.map PyData.int) = true
  | [] => rfl
  | n :: r => by
    show (PyData.canLay0 (.int n) && PyData.canLayAll0 (r.map PyData.int)) = true
    rw [can_ints r]
    rfl
theorem dep_ints : ∀ ns : List Int, PyData.depthAll (ns.map PyData.int) ≤ 1
  | [] => by decide
  | n :: r => by
    have ih := dep_ints r
    show max (PyData.depth (.int n)) (PyData.depthAll (r.map PyData.int)) ≤ 1
    exact Nat.max_le.mpr ⟨Nat.zero_le _, ih⟩
theorem dp_ints {K : PySem.W.Frag} {H : Hp} : ∀ ns : List Int, DpAll K H (ns.map V.int) (ns.map PyData.int)
  | [] => .nil
  | n :: r => .cons (.int n) (dp_ints r)
theorem shaped_ints (ns : List Int) : SeqAt.shaped (.list (ns.map PyData.int)) = true := by
  show (PyData.canLayAll0 (ns.map PyData.int) && decide (PyData.depthAll (ns.map PyData.int) + 1 ≤ 64)) = true
  rw [can_ints, decide_eq_true (by have := dep_ints ns; omega)]
  rfl
theorem lf_tl : tl ("\n" : Str) = [10] := by decide +kernel
theorem lf_k : ("\n" : Str).cps.all (· < 256) = true := by decide +kernel
theorem numL_nolf (n : Nat) : 10 ∉ numL n := numL_free (.inl (by decide))
section
variable {P : Program} {w : World} {K : PySem.W.Frag} {mg : Str → Option Value} {base : Heap} {aN aX C : Addr}
def spLaw (K : PySem.W.Frag) : Sp := fun vs H Q _ => ∃ (a : Addr) (ns : List Int), vs = [.ref a] ∧ SqL K H a (ns.map V.int) ∧ ns.length ≤ 63 ∧ ∀ H', Q (.bl true) H'
theorem cut_ints (ns : List Int) (lo hi : Option Int) : ∃ ms : List Int, cutV (ns.map V.int) lo hi = ms.map V.int ∧ ms.length ≤ ns.length := by
  unfold cutV
  rw [← List.map_drop, ← List.map_take]
  refine ⟨_, rfl, ?_⟩
  rw [List.length_take, List.length_drop]
  omega
end
end Bh

/-! The law's own defs: its digits, its row. -/
namespace Bh
open PySem PySem.Spec PyProof.Rows L2
open TL
abbrev sDig : Stmt := topS 20
section
variable {P : Program} {w : World} {K : PySem.W.Frag} {mg : Str → Option Value} {base : Heap} {aN aX C : Addr}
def DigOk (ds : List Int) : Prop := ∀ d ∈ ds, 0 ≤ d ∧ d ≤ 1008
def spDig : Sp := fun vs H Q _ => ∃ (c : Int) (m : Nat), vs = [.int c, .int (m : Int)] ∧ m ≤ 1000 ∧ ∀ (H' : Hp) (p : Addr) (ds : List Int), ds.length = m → DigOk ds → Same H H' → H p = none → H' p = some (.lst (ds.map V.int)) → Q (.ref p) H'
theorem scDig : FnScope ["_law_cell_here", "_law_many", "_law_row", "_law_rest", "_law_number", "_law_k"] ["_law_cell_here", "_law_many"] (defScope sDig) := ⟨rfl, rfl, rfl, by decide +kernel, rfl, by decide +kernel, by decide +kernel⟩
theorem digOk_snoc {ds : List Int} {d : Int} (h : DigOk ds) (h0 : 0 ≤ d) (h1 : d ≤ 1008) : DigOk (ds ++ [d]) := fun x hx => by
  rcases List.mem_append.mp hx with q | q
  · exact h x q
  · rw [List.mem_singleton.mp q]
    exact ⟨h0, h1⟩
theorem ok_dig {f : Addr} {fd : FuncData} (F : Fun K "_law_digits" "_law_digits" sDig f fd) (gr : mg "range" = none) : FnOk P w K mg base CX0 2 f fd ["_law_cell_here", "_law_many"] spDig := by
  refine F.ok scDig (fun vs H Q E h => by obtain ⟨c, m, rfl, _⟩ := h; rfl) (fun cdv A outer s H vs Q E hr h => ?_)
  obtain ⟨c, m, rfl, hm, q⟩ := h
  have ap : ∀ {X : Cx} , True := fun {_} => trivial
  refine ⟨_, pss_cons (ps_set (i := 2) scDig.nd rfl (.inl rfl) (pe_lst pa_nil))
    (pss_cons (ps_set (i := 3) scDig.nd rfl (.inl rfl) pe_int)
    (pss_cons (ps_if (pt_cmpR op_ge (pv 0) (pe_op op_pow pe_int pe_int) (nomark _)) (pss_one (ps_set (i := 3) scDig.nd rfl (.inl rfl) (pv 0))) pss_nil)
    (pss_cons (ps_set (i := 4) scDig.nd rfl (.inl rfl) (pe_op op_mod (pv 0) pe_int))
    (pss_cons (ps_for PassesOwn.never rfl (pi_range1 (by rfl) gr (pa_cons (pv 1) pa_nil)) (pg_name (i := 5) scDig.nd rfl (.inl rfl))
      (pss_cons (ps_set (i := 4) scDig.nd rfl (.inl rfl) (pe_op op_mod (pe_op op_add (pe_op op_add (pe_op op_mul (pv 4) pe_int) (pe_op op_mul pe_int (pv 5))) pe_int) pe_int))
      (pss_cons (ps_set (i := 4) scDig.nd rfl (.inl rfl) (pe_op op_mod (pe_op op_mul (pv 4) (pe_op op_add (pe_op op_fdiv (pv 4) pe_int) pe_int)) pe_int))
      (pss_one (ps_if (pt_cmpR op_gt (pv 3) pe_int (nomark _))
        (pss_cons (ps_expr (pe_bm PySem.F.plainAttrs_list PySem.F.slot_list_append PySem.F.type_list_append mt_append (pv 2) (pa_cons (pe_op op_mod (pv 3) pe_int) pa_nil)))
          (pss_one (ps_set (i := 3) scDig.nd rfl (.inl rfl) (pe_op op_fdiv (pv 3) pe_int))))
        (pss_one (ps_expr (pe_bm PySem.F.plainAttrs_list PySem.F.slot_list_append PySem.F.type_list_append mt_append (pv 2) (pa_cons (pe_op op_mod (pe_op op_fdiv (pv 4) pe_int) pe_int) pa_nil)))))))))
    (pss_one (ps_ret (pv 2))))))), ?_⟩
  refine ⟨Nat.zero_le _, fun p np => ?_⟩
  refine ⟨_, rfl, _, _, rfl, rfl, ⟨by decide, by decide, by decide⟩, _, _, rfl, rfl, _, rfl, ite2 (fun _ => ⟨_, rfl, ?_⟩) (fun _ => ?_)⟩
  all_goals
    refine ⟨_, rfl, _, _, rfl, rfl, (by show (0 : Int) < 2147483647; decide), ?_⟩
    refine ⟨_, rfl, (m : Int), rfl, by omega, by omega, ?_⟩
    refine for_range (lo := 0) (n := ((m : Int)).toNat) (fun i σ H' => ∃ (rest num : Int) (y : Option V) (ds : List Int), σ = [some (.int c), some (.int (m : Int)), some (.ref p), some (.int rest), some (.int num), y] ∧ 0 ≤ num ∧ num < 2147483647 ∧ ds.length = i ∧ DigOk ds ∧ Same H H' ∧ H' p = some (.lst (ds.map V.int)))
      ⟨_, _, none, [], rfl, Int.emod_nonneg _ (by decide), Int.emod_lt_of_pos _ (by decide), rfl, (fun _ h => by cases h), same_upd' np, upd_same⟩ ?_ ?_
    · rintro i σ H' hi ⟨rest, num, y, ds, rfl, n0, n1, hl, hd, sm, hp⟩
      have him : i < 1000 := by omega
      refine ⟨_, rfl, _, _, rfl, rfl, .inl ⟨by omega, by omega⟩, _, rfl, _, _, rfl, rfl, .inl ⟨by decide, by decide⟩, _, _, rfl, rfl, _, _, rfl, rfl, _, _, rfl, rfl, (by show (0 : Int) < 2147483647; decide), ?_⟩
      have a0 := Int.emod_nonneg (num * 48271 + 30103 * (0 + (i : Int)) + 11) (show (2147483647 : Int) ≠ 0 by decide)
      have a1 := Int.emod_lt_of_pos (num * 48271 + 30103 * (0 + (i : Int)) + 11) (show (0 : Int) < 2147483647 by decide)
      refine ⟨_, rfl, _, rfl, _, _, rfl, rfl, ⟨by decide, by decide⟩, _, _, rfl, rfl, _, _, rfl, rfl, .inl ⟨by omega, by omega⟩, _, _, rfl, rfl, (by show (0 : Int) < 2147483629; decide), ?_⟩
      have b0 := Int.emod_nonneg (((num * 48271 + 30103 * (0 + (i : Int)) + 11) % 2147483647) * (((num * 48271 + 30103 * (0 + (i : Int)) + 11) % 2147483647) / 1009 + 69621)) (show (2147483629 : Int) ≠ 0 by decide)
      have b1 := Int.emod_lt_of_pos (((num * 48271 + 30103 * (0 + (i : Int)) + 11) % 2147483647) * (((num * 48271 + 30103 * (0 + (i : Int)) + 11) % 2147483647) / 1009 + 69621)) (show (0 : Int) < 2147483629 by decide)
      have hlen : (ds.map V.int).length < sizeLine := by
        rw [List.length_map]
        exact small1000 (by omega)
      have upd_ok : ∀ (d : Int), Same H (upd H' p (.lst (ds.map V.int ++ [.int d]))) ∧ upd H' p (.lst (ds.map V.int ++ [.int d])) p = some (.lst ((ds ++ [d]).map V.int)) := fun d => by
        refine ⟨same_of sm np, ?_⟩
        rw [upd_same, List.map_append]
        rfl
      refine ⟨_, rfl, _, _, rfl, rfl, _, rfl, ite2 (fun _ => ?_) (fun _ => ?_)⟩
      · refine ⟨_, rfl, .inl ⟨rfl, _, SqL.of hp⟩, _, rfl, _, _, rfl, rfl, (by show (0 : Int) < 1009; decide), p, _, _, rfl, rfl, hp, hlen, ?_⟩
        refine ⟨_, rfl, _, _, rfl, rfl, ⟨by decide, by decide⟩, ?_⟩
        have c0 := Int.emod_nonneg rest (show (1009 : Int) ≠ 0 by decide)
        have c1 := Int.emod_lt_of_pos rest (show (0 : Int) < 1009 by decide)
        exact ⟨_, _, _, ds ++ [rest % 1009], rfl, b0, by omega, by rw [List.length_append, hl]; rfl, digOk_snoc hd c0 (by omega), (upd_ok _).1, (upd_ok _).2⟩
      · refine ⟨_, rfl, .inl ⟨rfl, _, SqL.of hp⟩, _, rfl, _, _, rfl, rfl, ⟨by decide, by decide⟩, _, _, rfl, rfl, (by show (0 : Int) < 1009; decide), p, _, _, rfl, rfl, hp, hlen, ?_⟩
        have c0 := Int.emod_nonneg (((((num * 48271 + 30103 * (0 + (i : Int)) + 11) % 2147483647) * (((num * 48271 + 30103 * (0 + (i : Int)) + 11) % 2147483647) / 1009 + 69621)) % 2147483629) / 7) (show (1009 : Int) ≠ 0 by decide)
        have c1 := Int.emod_lt_of_pos (((((num * 48271 + 30103 * (0 + (i : Int)) + 11) % 2147483647) * (((num * 48271 + 30103 * (0 + (i : Int)) + 11) % 2147483647) / 1009 + 69621)) % 2147483629) / 7) (show (0 : Int) < 1009 by decide)
        exact ⟨_, _, _, ds ++ [((((num * 48271 + 30103 * (0 + (i : Int)) + 11) % 2147483647) * (((num * 48271 + 30103 * (0 + (i : Int)) + 11) % 2147483647) / 1009 + 69621)) % 2147483629) / 7 % 1009], rfl, b0, by omega, by rw [List.length_append, hl]; rfl, digOk_snoc hd c0 (by omega), (upd_ok _).1, (upd_ok _).2⟩
    · rintro σ H' ⟨rest, num, y, ds, rfl, n0, n1, hl, hd, sm, hp⟩
      exact ⟨_, rfl, q H' p ds (by omega) hd sm np hp⟩
end
end Bh

/-! Texts with names: rows as they are put together, and what they are read to. -/
namespace Bh
open PySem PySem.Spec PyProof.Rows L2
open TL
inductive Wd where
  | pl (n : Int)
  | nu (op n : Int)
  | na (op : Int) (x : Str)
def rawW : Wd → Int
  | .pl n => n
  | .nu op n => 1024 * op + n
  | .na op _ => 1024 * op
def valW (ns : List (Str × Int)) : Wd → Int
  | .pl n => n
  | .nu op n => 1024 * op + n
  | .na op x => 1024 * op + (look ns x).getD 0
def posL : Nat → List Wd → List (Int × Str)
  | _, [] => []
  | i, .na _ x :: r => ((i : Int), x) :: posL (i + 1) r
  | i, .pl _ :: r => posL (i + 1) r
  | i, .nu _ _ :: r => posL (i + 1) r
def putP (ns : List (Str × Int)) : List (Int × Str) → List Int → Option (List Int)
  | [], ws => some ws
  | u :: r, ws => match look ns u.2, ws[u.1.toNat]? with
    | some n, some v => putP ns r (ws.set u.1.toNat (v + n))
    | _, _ => none
theorem putM_putP (ns : List (Str × Int)) : ∀ (us : List (Int × Int × Str)) (ws : List Int), putM ns us ws = putP ns (us.map (·.2)) ws
  | [], _ => rfl
  | u :: r, ws => by
    rw [List.map_cons]
    unfold putM putP
    cases look ns u.2.2 with
    | none => rfl
    | some n =>
      cases ws[u.2.1.toNat]? with
      | none => rfl
      | some v => exact putM_putP ns r _
theorem posL_app : ∀ (a b : List Wd) (i : Nat), posL i (a ++ b) = posL i a ++ posL (i + a.length) b
  | [], b, i => rfl
  | w :: a, b, i => by
    have ih := posL_app a b (i + 1)
    have e : i + (w :: a).length = i + 1 + a.length := by
      rw [List.length_cons]
      omega
    rw [e]
    cases w with
    | pl n => exact ih
    | nu op n => exact ih
    | na op x =>
      show ((i : Int), x) :: posL (i + 1) (a ++ b) = (((i : Int), x) :: posL (i + 1) a) ++ _
      rw [ih]
      rfl
theorem set_mid {α : Type} (l : List α) (x y : α) (r : List α) : (l ++ x :: r).set l.length y = l ++ y :: r := by
  induction l with
  | nil => rfl
  | cons a l ih =>
    show a :: (l ++ x :: r).set l.length y = a :: (l ++ y :: r)
    rw [ih]
theorem get_mid {α : Type} (l : List α) (x : α) (r : List α) : (l ++ x :: r)[l.length]? = some x := by
  rw [List.getElem?_append_right (Nat.le_refl _), Nat.sub_self]
  rfl
theorem putP_all (ns : List (Str × Int)) : ∀ (post pre : List Wd), (∀ op x, Wd.na op x ∈ post → ∃ n, look ns x = some n) →
    putP ns (posL pre.length post) (pre.map (valW ns) ++ post.map rawW) = some ((pre ++ post).map (valW ns))
  | [], pre, _ => by
    show some _ = some _
    rw [List.map_nil, List.append_nil, List.append_nil]
  | w :: r, pre, h => by
    have ih := putP_all ns r (pre ++ [w]) (fun op x hm => h op x (List.mem_cons_of_mem _ hm))
    rw [List.length_append, List.length_singleton, List.append_assoc, List.map_append, List.append_assoc] at ih
    cases w with
    | pl n => exact ih
    | nu op n => exact ih
    | na op x =>
      obtain ⟨n, hn⟩ := h op x List.mem_cons_self
      have hl : pre.length = (pre.map (valW ns)).length := (List.length_map _).symm
      show putP ns (((pre.length : Int), x) :: posL (pre.length + 1) r) (pre.map (valW ns) ++ (1024 * op) :: r.map rawW) = _
      unfold putP
      have e2 : ((pre.length : Int)).toNat = pre.length := rfl
      have g : (pre.map (valW ns) ++ (1024 * op) :: r.map rawW)[pre.length]? = some (1024 * op) := by
        rw [hl]
        exact get_mid _ _ _
      have st : (pre.map (valW ns) ++ (1024 * op) :: r.map rawW).set pre.length (1024 * op + n) = pre.map (valW ns) ++ ([Wd.na op x].map (valW ns) ++ r.map rawW) := by
        have q := set_mid (pre.map (valW ns)) (1024 * op) (1024 * op + n) (r.map rawW)
        rw [← hl] at q
        rw [q]
        show _ = pre.map (valW ns) ++ ((1024 * op + (look ns x).getD 0) :: r.map rawW)
        rw [hn]
        rfl
      simp only [hn, e2, g]
      rw [st]
      exact ih
/-! ### what one row does -/
theorem col_tl : tl (":" : Str) = [58] := by decide +kernel
theorem nm_low {x : Str} (h : isNm x = true) : (∀ c ∈ tl x, lowB c = true) ∧ tl x ≠ [] ∧ (tl x).length ≤ 8 := by
  unfold isNm at h
  simp only [Bool.and_eq_true, decide_eq_true_eq] at h
  refine ⟨fun c hm => List.all_eq_true.mp h.1.2 c hm, fun e => ?_, h.2⟩
  rw [e] at h
  exact absurd h.1.1 (by decide)
theorem low_bounds {c : Nat} (h : lowB c = true) : 97 ≤ c ∧ c ≤ 122 := by
  unfold lowB at h
  simpa using h
theorem nm_free {x : Str} (h : isNm x = true) {c : Nat} (hc : c < 97 ∨ 122 < c) : c ∉ tl x := fun hm => by
  have := low_bounds ((nm_low h).1 c hm)
  omega
theorem cut_last (l : List Nat) (c : Nat) : cutS (sS (l ++ [c])) none (some (-1)) = sS l := by
  apply ext_tl
  show (((l ++ [c]).drop (HT.sIx (sS (l ++ [c])).length 0 none)).take (HT.sIx (sS (l ++ [c])).length (sS (l ++ [c])).length (some (-1)) - HT.sIx (sS (l ++ [c])).length 0 none)) = l
  rw [len_sS, List.length_append, List.length_singleton]
  have e0 : HT.sIx (l.length + 1) 0 none = 0 := HT.sIx_none ..
  have e1 : HT.sIx (l.length + 1) (l.length + 1) (some (-1)) = l.length := by
    unfold HT.sIx
    simp
    try omega
  rw [e0, e1, List.drop_zero, Nat.sub_zero, List.take_append_of_le_length (Nat.le_refl _), List.take_length]
theorem take_name {i : Int} {x : Str} {s : Sh} (hx : isNm x = true) (hn : hasN s.names x = false) : takeM i (sS (tl x ++ [58])) s = (true, { s with names := s.names ++ [(x, (s.words.length : Int))] }) := by
  have e0 : ("" : Str) = sS [] := by decide +kernel
  unfold takeM
  rw [e0, if_neg (sS_ne (by simp)), if_pos ((ends_colon _).mpr (by rw [tl_sS, List.getLast?_concat])), cut_last, sS_tl]
  unfold nameM
  rw [if_neg]
  rintro (h | h)
  · rw [hx] at h
    cases h
  · rw [hn] at h
    cases h
theorem take_none {i : Int} {s : Sh} : takeM i (sS []) s = (true, s) := by
  have e0 : ("" : Str) = sS [] := by decide +kernel
  unfold takeM
  rw [e0, if_pos rfl]
theorem lay_many {w : Int} {m : Nat} {s : Sh} (hl : s.words.length + m ≤ 512) : layM w (m : Int) s = (true, { s with words := s.words ++ List.replicate m w }) := by
  unfold layM
  rw [if_neg (by omega)]
  rfl
/-- a row of two parts, the second a number -/
theorem take_two {i : Int} {p : List Nat} {n : Nat} {s : Sh} (hp : 32 ∉ p) (hne : p ≠ []) : takeM i (sS (p ++ 32 :: numL n)) s = pairM i (sS p) (sS (numL n)) s := by
  have e0 : ("" : Str) = sS [] := by decide +kernel
  unfold takeM
  rw [e0, if_neg (sS_ne (by simp)), if_neg (fun h => by
    have q := (ends_colon _).mp h
    rw [tl_sS] at q
    have e : p ++ 32 :: numL n = (p ++ [32]) ++ numL n := by simp
    rw [e] at q
    exact numL_last _ _ q), split_two hp (numL_nosp _)]
theorem take_two_nm {i : Int} {p : List Nat} {x : Str} {s : Sh} (hp : 32 ∉ p) (hx : isNm x = true) : takeM i (sS (p ++ 32 :: tl x)) s = pairM i (sS p) x s := by
  have e0 : ("" : Str) = sS [] := by decide +kernel
  have h32 : 32 ∉ tl x := nm_free hx (.inl (by decide))
  unfold takeM
  rw [e0, if_neg (sS_ne (by simp)), if_neg (fun h => by
    have q := (ends_colon _).mp h
    rw [tl_sS] at q
    have e : p ++ 32 :: tl x = (p ++ [32]) ++ tl x := by simp
    rw [e, List.getLast?_append] at q
    cases ez : (tl x).getLast? with
    | none => exact (nm_low hx).2.1 (List.getLast?_eq_none_iff.mp ez)
    | some c =>
      rw [ez] at q
      have q' : some c = some 58 := q
      have hm := List.mem_of_getLast? ez
      rw [Option.some.inj q'] at hm
      exact nm_free hx (.inl (by decide)) hm), split_two hp h32]
  show pairM i (sS p) (sS (tl x)) s = _
  rw [sS_tl]
def atL : List Nat := [97, 116]
def keepL : List Nat := [107, 101, 101, 112]
theorem take_at {i : Int} {m : Nat} {s : Sh} (hl : s.words.length + m ≤ 512) : takeM i (sS (atL ++ 32 :: numL (s.words.length + m))) s = (true, { s with words := s.words ++ List.replicate m 65535 }) := by
  rw [take_two (by decide) (by decide)]
  unfold pairM
  have e : sS atL = ("at" : Str) := by decide +kernel
  rw [if_pos e, numOf_num (by omega)]
  show (if ((s.words.length + m : Nat) : Int) < (s.words.length : Int) then (false, s) else layM 65535 (((s.words.length + m : Nat) : Int) - s.words.length) s) = _
  rw [if_neg (by omega)]
  have e2 : (((s.words.length + m : Nat) : Int) - s.words.length) = (m : Int) := by omega
  rw [e2]
  exact lay_many hl
theorem take_keep {i : Int} {m : Nat} {s : Sh} (hl : s.words.length + m ≤ 512) : takeM i (sS (keepL ++ 32 :: numL m)) s = (true, { s with words := s.words ++ List.replicate m 0 }) := by
  rw [take_two (by decide) (by decide)]
  unfold pairM
  have e1 : ¬ sS keepL = ("at" : Str) := by decide +kernel
  have e : sS keepL = ("keep" : Str) := by decide +kernel
  rw [if_neg e1, if_pos e, numOf_num (by omega)]
  show layM 0 (m : Int) s = _
  exact lay_many hl
/-- the seven ops of the drawn rows -/
def opsL : List (Str × Nat) := [("lit", 1), ("get", 2), ("go", 12), ("call", 15), ("let", 20), ("word", 0), ("ifz", 13)]
def opB (p : Str × Nat) : Bool := decide (32 ∉ tl p.1) && decide (tl p.1 ≠ []) && decide (p.1 ≠ ("at" : Str)) && decide (p.1 ≠ ("keep" : Str)) && decide (10 ∉ tl p.1) && decide ((tl p.1).length ≤ 4) &&
  (if p.1 = ("word" : Str) then decide (p.2 = 0) else decide (p.1 ∈ opX) && decide (posN p.1 = p.2))
theorem opsB : ∀ p ∈ opsL, opB p = true := by decide +kernel
theorem pair_op {i : Int} {p : Str × Nat} (hp : p ∈ opsL) {q : Str} {s : Sh} : pairM i p.1 q s = if p.1 = ("word" : Str) then worthM i 0 q 65535 s else worthM i ((p.2 : Int) * 1024) q 1023 s := by
  have b := opsB p hp
  unfold opB at b
  simp only [Bool.and_eq_true, decide_eq_true_eq] at b
  obtain ⟨⟨⟨⟨⟨⟨b1, b2⟩, b3⟩, b4⟩, b5⟩, b6⟩, b7⟩ := b
  unfold pairM
  rw [if_neg b3, if_neg b4]
  by_cases h : p.1 = ("word" : Str)
  · rw [if_pos h, if_pos h]
  · rw [if_neg h] at b7
    simp only [Bool.and_eq_true, decide_eq_true_eq] at b7
    rw [if_neg h, if_neg h, if_pos b7.1, b7.2]
theorem op_zero {p : Str × Nat} (hp : p ∈ opsL) (h : p.1 = ("word" : Str)) : p.2 = 0 := by
  have b := opsB p hp
  unfold opB at b
  rw [Bool.and_eq_true, if_pos h] at b
  exact of_decide_eq_true b.2
theorem op_parts {p : Str × Nat} (hp : p ∈ opsL) : 32 ∉ tl p.1 ∧ tl p.1 ≠ [] ∧ 10 ∉ tl p.1 ∧ (tl p.1).length ≤ 4 := by
  have b := opsB p hp
  unfold opB at b
  simp only [Bool.and_eq_true, decide_eq_true_eq] at b
  obtain ⟨⟨⟨⟨⟨⟨b1, b2⟩, b3⟩, b4⟩, b5⟩, b6⟩, b7⟩ := b
  exact ⟨b1, b2, b5, b6⟩
theorem take_num {i : Int} {p : Str × Nat} (hp : p ∈ opsL) {n : Nat} (hn : n ≤ 1008) {s : Sh} (hl : s.words.length < 512) : takeM i (sS (tl p.1 ++ 32 :: numL n)) s = (true, { s with words := s.words ++ [1024 * (p.2 : Int) + (n : Int)] }) := by
  rw [take_two (op_parts hp).1 (op_parts hp).2.1, sS_tl, pair_op hp]
  unfold worthM
  rw [not_nm_num, if_neg Bool.false_ne_true, if_neg Bool.false_ne_true, numOf_num (by omega)]
  by_cases h : p.1 = ("word" : Str)
  · rw [if_pos h]
    show (if (n : Int) > 65535 then (false, s) else layM (0 + (n : Int)) 1 s) = _
    rw [if_neg (by omega), lay_one hl, op_zero hp h]
    have e : (0 + (n : Int)) = 1024 * ((0 : Nat) : Int) + (n : Int) := by omega
    rw [e]
  · rw [if_neg h]
    show (if (n : Int) > 1023 then (false, s) else layM ((p.2 : Int) * 1024 + (n : Int)) 1 s) = _
    rw [if_neg (by omega), lay_one hl, Int.mul_comm]
theorem take_nam {i : Int} {p : Str × Nat} (hp : p ∈ opsL) {x : Str} (hx : isNm x = true) {s : Sh} (hl : s.words.length < 512) :
    takeM i (sS (tl p.1 ++ 32 :: tl x)) s = (true, { s with words := s.words ++ [1024 * (p.2 : Int)], uses := s.uses ++ [(i, (s.words.length : Int), x)] }) := by
  rw [take_two_nm (op_parts hp).1 hx, sS_tl, pair_op hp]
  unfold worthM
  rw [if_pos hx, if_pos hx]
  by_cases h : p.1 = ("word" : Str)
  · rw [if_pos h, lay_one (s := { s with uses := s.uses ++ [(i, (s.words.length : Int), x)] }) hl, op_zero hp h]
    rfl
  · rw [if_neg h, lay_one (s := { s with uses := s.uses ++ [(i, (s.words.length : Int), x)] }) hl, Int.mul_comm]
end Bh

/-! The law's names. -/
namespace Bh
open PySem PySem.Spec PyProof.Rows L2
open TL
abbrev sNames : Stmt := topS 21
abbrev sPart : Stmt := topS 22
abbrev sRows : Stmt := topS 23
abbrev sLaw : Stmt := topS 24
theorem ix_listK {X : Cx} {K : PySem.W.Frag} (h : X.K = K := by rfl) : IxR X (rIxL K) := by
  subst h
  exact ix_list
theorem atD {ds : List Int} {n : Nat} (hl : ds.length = n) (hd : DigOk ds) {j : Int} (h0 : 0 ≤ j) (h1 : j < n) : ∃ d, atI (ds.map V.int) j = some (.int d) ∧ 0 ≤ d ∧ d ≤ 1008 := by
  have hlt : j.toNat < ds.length := by omega
  have e : j = ((j.toNat : Nat) : Int) := (Int.toNat_of_nonneg h0).symm
  have q : atI (ds.map V.int) ((j.toNat : Nat) : Int) = some (.int ds[j.toNat]) := atI_nat (by
    rw [List.getElem?_map, List.getElem?_eq_getElem hlt]
    rfl)
  rw [← e] at q
  exact ⟨ds[j.toNat], q, hd _ (List.getElem_mem hlt)⟩
def NmOk (N : List Str) : Prop := N.length = 6 ∧ N.Nodup ∧ ∀ x ∈ N, isNm x = true
theorem abc_at : ∀ e : Nat, e < 26 → ("abcdefghijklmnopqrstuvwxyz" : Str).cps[e]? = some (97 + e) := by decide +kernel
theorem uvw_at : ∀ e : Nat, e < 6 → ("uvwxyz" : Str).cps[e]? = some (117 + e) := by decide +kernel
theorem abc_len : ("abcdefghijklmnopqrstuvwxyz" : Str).length = 26 := by decide +kernel
theorem uvw_len : ("uvwxyz" : Str).length = 6 := by decide +kernel
theorem low_add {e : Nat} (h : e < 26) : lowB (97 + e) = true := by
  unfold lowB
  have h1 : decide (97 ≤ 97 + e) = true := decide_eq_true (by omega)
  have h2 : decide (97 + e ≤ 122) = true := decide_eq_true (by omega)
  rw [h1, h2]
  rfl
theorem joinL_low : ∀ ps : List (List Nat), (∀ p ∈ ps, ∀ c ∈ p, lowB c = true) → ∀ c ∈ joinL [] ps, lowB c = true
  | [], _, c, hc => by cases hc
  | [p], h, c, hc => h p List.mem_cons_self c hc
  | p :: q :: r, h, c, hc => by
    have hc' : c ∈ p ++ ([] ++ joinL [] (q :: r)) := by
      simpa [joinL] using hc
    rcases List.mem_append.mp hc' with m | m
    · exact h p List.mem_cons_self c m
    · exact joinL_low (q :: r) (fun y hy => h y (List.mem_cons_of_mem _ hy)) c m
theorem joined_low {cs : List Nat} (h : ∀ c ∈ cs, lowB c = true) : ∀ c ∈ tl (Txt.join "" (cs.map fun c => (⟨#[c]⟩ : Str))), lowB c = true := by
  rw [join_eq, tl_join]
  have e : tl ("" : Str) = [] := by decide +kernel
  rw [e]
  refine joinL_low _ fun p hp c hc => ?_
  rw [List.map_map] at hp
  obtain ⟨d, hd, rfl⟩ := List.mem_map.mp hp
  have hc' : c ∈ [d] := hc
  rw [List.mem_singleton.mp hc']
  exact h d hd
theorem cut_low {x : Str} (h : ∀ c ∈ tl x, lowB c = true) : (∀ c ∈ tl (cutS x none (some 7)), lowB c = true) ∧ (tl (cutS x none (some 7))).length ≤ 7 := by
  have e : tl (cutS x none (some 7)) = ((tl x).drop (HT.sIx x.length 0 none)).take (HT.sIx x.length x.length (some 7) - HT.sIx x.length 0 none) := rfl
  rw [e]
  refine ⟨fun c hc => h c (List.mem_of_mem_drop (List.mem_of_mem_take hc)), ?_⟩
  have e7 : HT.sIx x.length x.length (some 7) = min 7 x.length := HT.sIx_nat x.length x.length 7
  rw [e7, List.length_take]
  omega
/-- the name that is made in the k-th turn -/
def GoodAt (k : Nat) (x : Str) : Prop := isNm x = true ∧ (tl x).getLast? = some (117 + k)
theorem good_mk {y : Str} {k : Nat} (hk : k < 6) (h : ∀ c ∈ tl y, lowB c = true) : GoodAt k (cutS y none (some 7) ++ (⟨#[117 + k]⟩ : Str)) := by
  obtain ⟨h1, h2⟩ := cut_low h
  have e : tl (cutS y none (some 7) ++ (⟨#[117 + k]⟩ : Str)) = tl (cutS y none (some 7)) ++ [117 + k] := by
    rw [tl_append]
  refine ⟨?_, ?_⟩
  · unfold isNm
    rw [e]
    have a1 : (tl (cutS y none (some 7)) ++ [117 + k]).isEmpty = false := by
      cases tl (cutS y none (some 7)) <;> rfl
    have a2 : (tl (cutS y none (some 7)) ++ [117 + k]).all lowB = true := by
      rw [List.all_eq_true]
      intro c hc
      rcases List.mem_append.mp hc with m | m
      · exact h1 c m
      · rw [List.mem_singleton.mp m]
        have := low_add (e := 20 + k) (by omega)
        rw [show 97 + (20 + k) = 117 + k by omega] at this
        exact this
    have a3 : decide ((tl (cutS y none (some 7)) ++ [117 + k]).length ≤ 8) = true := decide_eq_true (by
      rw [List.length_append, List.length_singleton]
      omega)
    rw [a1, a2, a3]
    rfl
  · rw [e, List.getLast?_concat]
theorem names_ok {fs : List Str} (hl : fs.length = 6) (hg : ∀ (k : Nat) (x : Str), fs[k]? = some x → GoodAt k x) : NmOk (fs.take 4 ++ (["lit", "word"] : List Str)) := by
  match fs, hl with
  | [a, b, c, d, e, f], _ =>
    have ga := hg 0 a rfl
    have gb := hg 1 b rfl
    have gc := hg 2 c rfl
    have gd := hg 3 d rfl
    have el : (tl ("lit" : Str)).getLast? = some 116 := by decide +kernel
    have ew : (tl ("word" : Str)).getLast? = some 100 := by decide +kernel
    have ne : ∀ {x y : Str} {i j : Nat}, (tl x).getLast? = some i → (tl y).getLast? = some j → i ≠ j → x ≠ y := fun {x y i j} hx hy h e => by
      rw [e, hy] at hx
      exact h (Option.some.inj hx).symm
    refine ⟨rfl, ?_, ?_⟩
    · show [a, b, c, d, ("lit" : Str), "word"].Nodup
      simp only [List.nodup_cons, List.mem_cons, List.not_mem_nil, or_false, not_or, not_false_eq_true, List.nodup_nil, and_true]
      exact ⟨⟨ne ga.2 gb.2 (by decide), ne ga.2 gc.2 (by decide), ne ga.2 gd.2 (by decide), ne ga.2 el (by decide), ne ga.2 ew (by decide)⟩,
        ⟨ne gb.2 gc.2 (by decide), ne gb.2 gd.2 (by decide), ne gb.2 el (by decide), ne gb.2 ew (by decide)⟩,
        ⟨ne gc.2 gd.2 (by decide), ne gc.2 el (by decide), ne gc.2 ew (by decide)⟩, ⟨ne gd.2 el (by decide), ne gd.2 ew (by decide)⟩, ne el ew (by decide)⟩
    · intro x hx
      have hx' : x ∈ [a, b, c, d, ("lit" : Str), "word"] := hx
      simp only [List.mem_cons, List.not_mem_nil, or_false] at hx'
      rcases hx' with h | h | h | h | h | h
      · rw [h]; exact ga.1
      · rw [h]; exact gb.1
      · rw [h]; exact gc.1
      · rw [h]; exact gd.1
      · rw [h]; decide +kernel
      · rw [h]; decide +kernel
section
variable {P : Program} {w : World} {K : PySem.W.Frag} {mg : Str → Option Value} {base : Heap} {aN aX C : Addr}
def spNames (K : PySem.W.Frag) : Sp := fun vs H Q _ => ∃ (a : Addr) (ds : List Int), vs = [.ref a] ∧ SqL K H a (ds.map V.int) ∧ ds.length = 60 ∧ DigOk ds ∧ ∀ (H' : Hp) (p : Addr) (N : List Str), Same H H' → H p = none → H' p = some (.lst (N.map V.str)) → NmOk N → Q (.ref p) H'
theorem scNames : FnScope ["_law_row", "_law_found", "_law_k", "_law_name", "_law_j"] ["_law_row"] (defScope sNames) := ⟨rfl, rfl, rfl, by decide +kernel, rfl, by decide +kernel, by decide +kernel⟩
theorem ok_names {f : Addr} {fd : FuncData} (F : Fun K "_law_names" "_law_names" sNames f fd) (gr : mg "range" = none) : FnOk P w K mg base CX0 2 f fd ["_law_row"] (spNames K) := by
  refine F.ok scNames (fun vs H Q E h => by obtain ⟨a, ds, rfl, _⟩ := h; rfl) (fun cdv A outer s H vs Q E hr h => ?_)
  obtain ⟨a, ds, rfl, hS, hl, hd, q⟩ := h
  refine ⟨_, pss_cons (ps_set (i := 1) scNames.nd rfl (.inl rfl) (pe_lst pa_nil))
    (pss_cons (ps_for PassesOwn.never rfl (pi_range1 (by rfl) gr (pa_cons pe_int pa_nil)) (pg_name (i := 2) scNames.nd rfl (.inr rfl))
      (pss_cons (ps_set (i := 3) scNames.nd rfl (.inl rfl) (pe_join pe_str (pe_lc (own := [("_law_j", 4)]) (g := gName 4) (tt := tYes) (by rfl) scNames.nd
          (pi_range1 (by rfl) gr (pa_cons (pe_op op_mod (pe_ix ix_list (pv 0) (pe_op op_mul pe_int (pv 2)) (fun _ _ => rfl)) pe_int) pa_nil))
          (blkOk_by (own := [("_law_j", 4)]) (N := ["_law_row", "_law_found", "_law_k", "_law_name", "_law_j"]) (sc := defScope sNames) (by decide +kernel))
          (fun _ _ _ _ _ => pg_name (i := 4) scNames.nd rfl (Or.inl rfl)) (fun _ _ _ _ _ => pts_nil)
          (fun _ _ _ _ _ => pe_item_str pe_str (pe_op op_mod (pe_ix (ix_listK (K := K)) (pv 0) (pe_op op_add (pe_op op_mul pe_int (pv 2)) (pv 4)) (fun _ _ => rfl)) pe_int) (fun _ _ => rfl)))))
      (pss_one (ps_expr (pe_bm PySem.F.plainAttrs_list PySem.F.slot_list_append PySem.F.type_list_append mt_append (pv 1) (pa_cons (pe_op op_add_str (pe_slice sl_str (pv 3) po_none (po_some pe_int)) (pe_item_str pe_str (pv 2) (fun _ _ => rfl))) pa_nil))))))
    (pss_one (ps_ret (pe_op op_cat (pe_slice sl_list (pv 1) po_none (po_some pe_int)) (pe_lst (pa_cons pe_str (pa_cons pe_str pa_nil))))))), ?_⟩
  refine ⟨Nat.zero_le _, fun r nr => ?_⟩
  refine ⟨6, rfl, by decide, by decide, ?_⟩
  refine for_range (lo := 0) (n := 6) (fun i σ H' => Same H H' ∧ ∃ (y2 y3 y4 : Option V) (fs : List Str), σ = [some (.ref a), some (.ref r), y2, y3, y4] ∧ fs.length = i ∧ (∀ (k : Nat) (x : Str), fs[k]? = some x → GoodAt k x) ∧ H' r = some (.lst (fs.map V.str)))
    ⟨same_upd' nr, none, none, none, [], rfl, rfl, (fun k x h => by cases h), upd_same⟩ ?_ ?_
  · rintro i σ H1 hi ⟨sm, y2, y3, y4, fs, rfl, hf, hg, hr1⟩
    have hS1 := sm.seq hS
    obtain ⟨d, ed, bd⟩ := atD hl hd (j := 7 * (0 + (i : Int))) (by omega) (by omega)
    refine ⟨⟨_, rfl⟩, ?_⟩
    refine ⟨_, rfl, _, rfl, _, _, rfl, rfl, .inl ⟨by decide, by decide⟩, a, _, _, _, rfl, rfl, hS1, ed, _, _, rfl, rfl, (by show (0 : Int) < 8; decide), _, rfl, by omega, by omega, fun D nD => ?_⟩
    refine lc_range (lo := 0) (n := (d % 8).toNat) (fun j H' => Same H1 H' ∧ ∃ cs : List Nat, cs.length = j ∧ (∀ c ∈ cs, lowB c = true) ∧ H' D = some (.lst ((cs.map fun c => (⟨#[c]⟩ : Str)).map V.str))) ⟨same_upd' nD, [], rfl, (fun _ h => by cases h), upd_same⟩ ?_ ?_
    · rintro j H2 hj ⟨sm2, cs, hcl, hcb, hD⟩
      obtain ⟨d2, ed2, bd2⟩ := atD hl hd (j := 7 * (0 + (i : Int)) + (0 + (j : Int))) (by omega) (by omega)
      refine ⟨rfl, ?_⟩
      have hb : (d2 % 26).toNat < 26 := by omega
      refine ⟨_, rfl, _, rfl, _, _, rfl, rfl, .inl ⟨by decide, by decide⟩, _, rfl, _, _, rfl, rfl, a, _, _, _, rfl, rfl, sm2.seq hS1, ed2, _, _, rfl, rfl, (by show (0 : Int) < 26; decide), _, _, 97 + (d2 % 26).toNat, rfl, rfl, by omega, by omega, ?_, abc_at _ hb, _, hD, ?_, same_of sm2 nD, cs ++ [97 + (d2 % 26).toNat], ?_, ?_, ?_⟩
      · rw [abc_len]
        omega
      · rw [List.length_map, List.length_map, hcl]
        exact small1000 (by omega)
      · rw [List.length_append, hcl]
        rfl
      · intro c hc
        rcases List.mem_append.mp hc with m | m
        · exact hcb c m
        · rw [List.mem_singleton.mp m]
          exact low_add hb
      · rw [upd_same, List.map_append, List.map_append]
        rfl
    · rintro H2 ⟨sm2, cs, hcl, hcb, hD⟩
      have hlow := joined_low hcb
      refine ⟨_, D, _, rfl, rfl, .inl (SqL.of hD), ?_, ?_⟩
      · have h1 := sum_le_mul (fun y : Str => y.length) 1 (cs.map fun c => (⟨#[c]⟩ : Str)) (fun y hy => by
          obtain ⟨c, _, rfl⟩ := List.mem_map.mp hy
          exact Nat.le_refl 1)
        have e0 : (("" : Str)).length = 0 := rfl
        rw [e0, Nat.mul_zero, Nat.add_zero]
        rw [List.length_map] at h1
        exact Nat.le_trans h1 (by omega)
      have hjl : (Txt.join "" (cs.map fun c => (⟨#[c]⟩ : Str))).length ≤ 100 := by
        have h0 := StrLaws.join_length_le ("" : Str) (cs.map fun c => (⟨#[c]⟩ : Str))
        have h1 := sum_le_mul (fun y : Str => y.length) 1 (cs.map fun c => (⟨#[c]⟩ : Str)) (fun y hy => by
          obtain ⟨c, _, rfl⟩ := List.mem_map.mp hy
          exact Nat.le_refl 1)
        have e0 : (("" : Str)).length = 0 := rfl
        rw [e0, Nat.mul_zero, Nat.add_zero] at h0
        rw [List.length_map] at h1
        rw [join_eq]
        omega
      generalize Txt.join "" (cs.map fun c => (⟨#[c]⟩ : Str)) = nm at *
      have hr2 := sm2 _ _ hr1
      have hcut := (cut_low hlow).2
      refine ⟨_, rfl, .inl ⟨rfl, _, SqL.of hr2⟩, _, rfl, 7, rfl, nm, rfl, fits_small (by omega), _, rfl, _, _, 117 + i, rfl, rfl, by omega, by omega, (by rw [uvw_len]; omega), ?_, _, _, rfl, rfl, ?_, r, _, _, rfl, rfl, hr2, ?_, ?_⟩
      · have e : (0 + (i : Int)).toNat = i := by omega
        rw [e]
        exact uvw_at i hi
      · rw [len_tl (cutS _ _ _)]
        have : (⟨#[117 + i]⟩ : Str).length = 1 := rfl
        exact fits_small (by omega)
      · rw [List.length_map, hf]
        exact small1000 (by omega)
      · refine ⟨same_of (sm.trans sm2) nr, _, _, _, fs ++ [cutS nm none (some 7) ++ (⟨#[117 + i]⟩ : Str)], rfl, by rw [List.length_append, hf]; rfl, ?_, ?_⟩
        · intro k x hk
          by_cases hlt : k < fs.length
          · rw [List.getElem?_append_left hlt] at hk
            exact hg k x hk
          · rw [List.getElem?_append_right (by omega)] at hk
            have h0 : k - fs.length = 0 := by
              have := (List.getElem?_eq_some_iff.mp hk).1
              simp at this
              omega
            rw [h0] at hk
            have ek : k = i := by omega
            have ex : cutS nm none (some 7) ++ (⟨#[117 + i]⟩ : Str) = x := Option.some.inj hk
            rw [ek, ← ex]
            exact good_mk hi hlow
        · rw [upd_same, List.map_append]
          rfl
  · rintro σ H1 ⟨sm, y2, y3, y4, fs, rfl, hf, hg, hr1⟩
    refine ⟨_, rfl, 4, rfl, r, _, rfl, SqL.of hr1, fun p1 np1 => ?_⟩
    have ec : cutV (fs.map V.str) none (some 4) = (fs.take 4).map V.str := by
      unfold cutV
      have e4 : HT.sIx (fs.map V.str).length (fs.map V.str).length (some 4) = min 4 (fs.map V.str).length := HT.sIx_nat _ _ 4
      rw [e4, List.length_map, hf]
      show ((fs.map V.str).drop 0).take (min 4 6 - 0) = _
      rw [List.drop_zero, List.map_take]
      rfl
    rw [ec]
    refine ⟨(by show 2 ≤ sizeLine; decide), fun p2 np2 => ?_⟩
    have s1 := same_upd' (o := .lst ((fs.take 4).map V.str)) np1
    have s2 := same_upd' (o := .lst [V.str "lit", V.str "word"]) np2
    refine ⟨p1, p2, _, _, rfl, rfl, s2 _ _ upd_same, upd_same, ?_, fun p3 np3 => ?_⟩
    · rw [List.length_map, List.length_take]
      exact fits_small (by show min 4 fs.length + 2 ≤ _; omega)
    have s3 := same_upd' (o := .lst ((fs.take 4).map V.str ++ [V.str "lit", V.str "word"])) np3
    refine q _ p3 (fs.take 4 ++ (["lit", "word"] : List Str)) (sm.trans (s1.trans (s2.trans s3))) ((sm.trans (s1.trans s2)).free np3) ?_ (names_ok hf hg)
    rw [upd_same, List.map_append]
    rfl
end
end Bh

/-! What holds while the rows are put together. -/
namespace Bh
open PySem PySem.Spec PyProof.Rows L2
open TL
theorem runM_snoc (r : Str) : ∀ (rs : List Str) (i : Int) (s0 : Sh), runM i (rs ++ [r]) s0 = (runM i rs s0).bind fun s => if (takeM (i + (rs.length : Int)) r s).1 = true then some (takeM (i + (rs.length : Int)) r s).2 else none
  | [], i, s0 => by
    show (if (takeM i r s0).1 = true then runM (i + 1) [] (takeM i r s0).2 else none) = (if (takeM (i + ((0 : Nat) : Int)) r s0).1 = true then some (takeM (i + ((0 : Nat) : Int)) r s0).2 else none)
    have e : i + ((0 : Nat) : Int) = i := by omega
    rw [e]
    rfl
  | q :: rs, i, s0 => by
    show (if (takeM i q s0).1 = true then runM (i + 1) (rs ++ [r]) (takeM i q s0).2 else none) = _
    have ih := runM_snoc r rs (i + 1) (takeM i q s0).2
    have e : i + ((q :: rs).length : Int) = i + 1 + (rs.length : Int) := by
      rw [List.length_cons]
      omega
    rw [e]
    show _ = (if (takeM i q s0).1 = true then runM (i + 1) rs (takeM i q s0).2 else none).bind _
    by_cases h : (takeM i q s0).1 = true
    · rw [if_pos h, if_pos h, ih]
    · rw [if_neg h, if_neg h]
      rfl
theorem look_has (x : Str) : ∀ ns : List (Str × Int), (look ns x).isSome = hasN ns x := fun ns => by
  have a := valV_nmK x ns
  rw [valV_look] at a
  rw [← a]
  cases look ns x <;> rfl
theorem look_snoc {x : Str} {n : Int} (y : Str) : ∀ {ns : List (Str × Int)}, hasN ns x = false → look (ns ++ [(x, n)]) y = if y = x then some n else look ns y
  | [], _ => by
    unfold look
    by_cases e : y = x
    · rw [if_pos e, e]
      simp
    · rw [if_neg e]
      have e2 : (x == y) = false := by
        have : ¬ x = y := fun q => e q.symm
        simpa using this
      simp [e2]
  | (z, m) :: r, h => by
    have hz : (z == x) = false ∧ hasN r x = false := by
      unfold hasN at h ⊢
      rw [List.any_cons, Bool.or_eq_false_iff] at h
      exact h
    have ih := look_snoc (x := x) (n := n) y hz.2
    unfold look at ih ⊢
    rw [List.cons_append, List.find?_cons, List.find?_cons]
    by_cases e : z = y
    · have e1 : (z == y) = true := by simpa using e
      have e2 : ¬ y = x := fun q => by
        have : z = x := e.trans q
        have h1 := hz.1
        rw [this] at h1
        simp at h1
      rw [e1, if_neg e2]
    · have e1 : (z == y) = false := by simpa using e
      rw [e1]
      exact ih
theorem hasN_mem {x : Str} {ns : List (Str × Int)} : hasN ns x = true ↔ x ∈ ns.map (·.1) := by
  unfold hasN
  rw [List.any_eq_true, List.mem_map]
  constructor
  · rintro ⟨p, hp, e⟩
    exact ⟨p, hp, eq_of_beq e⟩
  · rintro ⟨p, hp, e⟩
    exact ⟨p, hp, by rw [e]; exact beq_self_eq_true x⟩
theorem hasN_not {x : Str} {ns : List (Str × Int)} (h : x ∉ ns.map (·.1)) : hasN ns x = false := by
  cases e : hasN ns x with
  | false => rfl
  | true => exact absurd (hasN_mem.mp e) h
theorem look_mem {x : Str} {ns : List (Str × Int)} (h : x ∈ ns.map (·.1)) : ∃ n, look ns x = some n := by
  have q := look_has x ns
  rw [hasN_mem.mpr h] at q
  cases e : look ns x with
  | none => rw [e] at q; cases q
  | some n => exact ⟨n, rfl⟩
theorem look_nodup : ∀ {ns : List (Str × Int)}, (ns.map (·.1)).Nodup → ∀ p ∈ ns, look ns p.1 = some p.2
  | [], _, p, hp => by cases hp
  | (z, m) :: r, hn, p, hp => by
    rw [List.map_cons, List.nodup_cons] at hn
    unfold look
    rw [List.find?_cons]
    rcases List.mem_cons.mp hp with e | e
    · rw [e]
      simp
    · have ne : ¬ z = p.1 := fun q => hn.1 (by
        rw [q]
        exact List.mem_map.mpr ⟨p, e, rfl⟩)
      have e1 : (z == p.1) = false := by simpa using ne
      rw [e1]
      exact look_nodup hn.2 p e
theorem look_map (f : Str → Int) : ∀ {N : List Str} {x : Str}, x ∈ N → look (N.map fun y => (y, f y)) x = some (f x)
  | [], x, h => by cases h
  | y :: N, x, h => by
    unfold look
    rw [List.map_cons, List.find?_cons]
    by_cases e : y = x
    · rw [e]
      simp
    · have e1 : (y == x) = false := by simpa using e
      rw [e1]
      rcases List.mem_cons.mp h with q | q
      · exact absurd q.symm e
      · exact look_map f q
/-- the law's dict of names, told so far -/
def toldN (N : List Str) (ns : List (Str × Int)) : List (Str × Int) := N.map fun y => (y, (look ns y).getD 0)
theorem putK_map (f : Str → Int) (x : Str) (n : Int) {N : List Str} (hx : x ∈ N) : putK (nmK (N.map fun y => (y, f y))) (Sum.inr x) (.int n) = nmK (N.map fun y => (y, if y = x then n else f y)) := by
  unfold putK
  have a : ((nmK (N.map fun y => (y, f y))).any fun kv => decide (kv.1 = (Sum.inr x : Key))) = true := by
    rw [List.any_eq_true]
    exact ⟨(Sum.inr x, .int (f x)), List.mem_map.mpr ⟨(x, f x), List.mem_map.mpr ⟨x, hx, rfl⟩, rfl⟩, decide_eq_true rfl⟩
  rw [if_pos a]
  unfold nmK
  rw [List.map_map, List.map_map, List.map_map]
  refine List.map_congr_left fun y _ => ?_
  show (if (Sum.inr y : Key) = Sum.inr x then ((Sum.inr y : Key), V.int n) else ((Sum.inr y : Key), V.int (f y))) = ((Sum.inr y : Key), V.int (if y = x then n else f y))
  by_cases e : y = x
  · rw [if_pos (by rw [e]), if_pos e]
  · rw [if_neg (fun q => e (Sum.inr.inj q)), if_neg e]
theorem toldN_put {N : List Str} {ns : List (Str × Int)} {x : Str} {n : Int} (hx : x ∈ N) (hn : hasN ns x = false) : putK (nmK (toldN N ns)) (Sum.inr x) (.int n) = nmK (toldN N (ns ++ [(x, n)])) := by
  unfold toldN
  rw [putK_map _ x n hx]
  have e : (N.map fun y => (y, if y = x then n else (look ns y).getD 0)) = N.map fun y => (y, (look (ns ++ [(x, n)]) y).getD 0) := by
    refine List.map_congr_left fun y _ => ?_
    rw [look_snoc y hn]
    by_cases e : y = x
    · rw [if_pos e, if_pos e]
      rfl
    · rw [if_neg e, if_neg e]
  rw [e]
structure JJ (N : List Str) (rows : List (Str × List Wd)) (left : List Str) (s : Sh) : Prop where
  run : runM 0 (rows.map (·.1)) sh0 = some s
  wd : s.words = (rows.flatMap (·.2)).map rawW
  us : s.uses.map (·.2) = posL 0 (rows.flatMap (·.2))
  nm : s.names.map (·.1) ++ left = N
  kn : ∀ op x, Wd.na op x ∈ rows.flatMap (·.2) → x ∈ N
  tx : ∀ r ∈ rows, 10 ∉ tl r.1 ∧ (tl r.1).length ≤ 20
  lw : s.words.length ≤ 7 * rows.length
theorem JJ.start (N : List Str) : JJ N [] N sh0 := ⟨rfl, rfl, rfl, rfl, (fun _ _ h => by cases h), (fun _ h => by cases h), Nat.zero_le _⟩
theorem JJ.name {N : List Str} {rows : List (Str × List Wd)} {x : Str} {left : List Str} {s : Sh} (j : JJ N rows (x :: left) s) (hN : N.Nodup) (hx : isNm x = true) :
    hasN s.names x = false ∧ x ∈ N ∧ JJ N (rows ++ [(sS (tl x ++ [58]), [])]) left { s with names := s.names ++ [(x, (s.words.length : Int))] } := by
  have hnd := hN
  rw [← j.nm, List.nodup_append] at hnd
  have hn : hasN s.names x = false := hasN_not fun h => hnd.2.2 x h x List.mem_cons_self rfl
  have hmem : x ∈ N := by
    rw [← j.nm]
    exact List.mem_append_right _ List.mem_cons_self
  refine ⟨hn, hmem, ?_⟩
  exact {
    run := by
      rw [List.map_append, List.map_cons, List.map_nil, runM_snoc, j.run]
      show (if (takeM _ (sS (tl x ++ [58])) s).1 = true then some (takeM _ (sS (tl x ++ [58])) s).2 else none) = _
      rw [take_name hx hn]
      rfl
    wd := by
      rw [List.flatMap_append, List.flatMap_cons, List.flatMap_nil, List.append_nil, List.append_nil]
      exact j.wd
    us := by
      rw [List.flatMap_append, List.flatMap_cons, List.flatMap_nil, List.append_nil, List.append_nil]
      exact j.us
    nm := by
      show (s.names ++ [(x, (s.words.length : Int))]).map (·.1) ++ left = N
      rw [List.map_append, List.append_assoc]
      exact j.nm
    kn := fun op y h => by
      rw [List.flatMap_append, List.flatMap_cons, List.flatMap_nil, List.append_nil, List.append_nil] at h
      exact j.kn op y h
    tx := fun r hr => by
      rcases List.mem_append.mp hr with m | m
      · exact j.tx r m
      · rw [List.mem_singleton.mp m]
        refine ⟨fun q => ?_, ?_⟩
        · rw [tl_sS] at q
          rcases List.mem_append.mp q with z | z
          · exact nm_free hx (.inl (by decide)) z
          · exact absurd z (by decide)
        · rw [tl_sS, List.length_append]
          have := (nm_low hx).2.2
          show _ + 1 ≤ 20
          omega
    lw := by
      rw [List.length_append]
      have := j.lw
      show s.words.length ≤ 7 * (rows.length + 1)
      omega }
theorem JJ.words {N : List Str} {rows : List (Str × List Wd)} {left : List Str} {s : Sh} (j : JJ N rows left s) {t : Str} {ws : List Wd} {us : List (Int × Int × Str)}
    (ht : takeM (0 + (rows.length : Int)) t s = (true, { s with words := s.words ++ ws.map rawW, uses := s.uses ++ us })) (hu : us.map (·.2) = posL s.words.length ws) (hk : ∀ op x, Wd.na op x ∈ ws → x ∈ N) (h10 : 10 ∉ tl t) (h20 : (tl t).length ≤ 20) (h7 : ws.length ≤ 7) :
    JJ N (rows ++ [(t, ws)]) left { s with words := s.words ++ ws.map rawW, uses := s.uses ++ us } := by
  have ef : (rows ++ [(t, ws)]).flatMap (·.2) = rows.flatMap (·.2) ++ ws := by
    rw [List.flatMap_append, List.flatMap_cons, List.flatMap_nil, List.append_nil]
  exact {
    run := by
      rw [List.map_append, List.map_cons, List.map_nil, runM_snoc, j.run, List.length_map]
      show (if (takeM (0 + (rows.length : Int)) t s).1 = true then some (takeM (0 + (rows.length : Int)) t s).2 else none) = _
      rw [ht]
      rfl
    wd := by
      rw [ef, List.map_append, ← j.wd]
    us := by
      show (s.uses ++ us).map (·.2) = _
      rw [ef, posL_app, List.map_append, j.us, hu, Nat.zero_add]
      have := congrArg List.length j.wd
      rw [List.length_map] at this
      rw [this]
    nm := j.nm
    kn := fun op y h => by
      rw [ef] at h
      rcases List.mem_append.mp h with m | m
      · exact j.kn op y m
      · exact hk op y m
    tx := fun r hr => by
      rcases List.mem_append.mp hr with m | m
      · exact j.tx r m
      · rw [List.mem_singleton.mp m]
        exact ⟨h10, h20⟩
    lw := by
      have e1 : (rows ++ [(t, ws)]).length = rows.length + 1 := by simp
      have := j.lw
      rw [e1]
      show (s.words ++ ws.map rawW).length ≤ 7 * (rows.length + 1)
      rw [List.length_append, List.length_map]
      omega }
/-- at the end: what is read, and the dict -/
theorem posL_nonneg : ∀ (ws : List Wd) (i : Nat), ∀ u ∈ posL i ws, 0 ≤ u.1
  | [], _, u, h => by cases h
  | .pl _ :: r, i, u, h => posL_nonneg r (i + 1) u h
  | .nu _ _ :: r, i, u, h => posL_nonneg r (i + 1) u h
  | .na _ x :: r, i, u, h => by
    rcases List.mem_cons.mp h with e | e
    · rw [e]
      exact Int.natCast_nonneg _
    · exact posL_nonneg r (i + 1) u e
theorem JJ.pos {N : List Str} {rows : List (Str × List Wd)} {left : List Str} {s : Sh} (j : JJ N rows left s) : ∀ u ∈ s.uses, 0 ≤ u.2.1 := fun u hu => by
  have m : u.2 ∈ s.uses.map (·.2) := List.mem_map_of_mem hu
  rw [j.us] at m
  exact posL_nonneg _ _ _ m
theorem JJ.put {N : List Str} {rows : List (Str × List Wd)} {s : Sh} (j : JJ N rows [] s) : putM s.names s.uses s.words = some ((rows.flatMap (·.2)).map (valW s.names)) := by
  rw [putM_putP, j.us, j.wd]
  have q := putP_all s.names (rows.flatMap (·.2)) [] (fun op x h => by
    have m := j.kn op x h
    rw [← j.nm, List.append_nil] at m
    exact look_mem m)
  exact q
theorem JJ.dict {N : List Str} {rows : List (Str × List Wd)} {s : Sh} (j : JJ N rows [] s) (hN : N.Nodup) : (nmK s.names).length = (nmK (toldN N s.names)).length ∧ ∀ p ∈ nmK s.names, valV (nmK (toldN N s.names)) p.1 = some p.2 ∧ flatB p.2 = true := by
  have e := j.nm
  rw [List.append_nil] at e
  refine ⟨?_, fun p hp => ?_⟩
  · rw [nmK_len, nmK_len]
    unfold toldN
    rw [List.length_map, ← e, List.length_map]
  · obtain ⟨u, hu, rfl⟩ := List.mem_map.mp hp
    refine ⟨?_, rfl⟩
    show valV (nmK (toldN N s.names)) (Sum.inr u.1) = some (V.int u.2)
    have hm : u.1 ∈ N := by
      rw [← e]
      exact List.mem_map_of_mem hu
    have l := look_nodup (ns := s.names) (by rw [e]; exact hN) u hu
    rw [valV_look]
    unfold toldN
    rw [look_map (fun y => (look s.names y).getD 0) hm, l]
    rfl
theorem JJ.told {N : List Str} {rows : List (Str × List Wd)} {left : List Str} {s : Sh} {x : Str} (hx : x ∈ N) : valV (nmK (toldN N s.names)) (Sum.inr x) = some (.int ((look s.names x).getD 0)) := by
  rw [valV_look]
  unfold toldN
  rw [look_map (fun y => (look s.names y).getD 0) hx]
  rfl
theorem JJ.read {N : List Str} {rows : List (Str × List Wd)} {left : List Str} {s : Sh} (j : JJ N rows left s) : runM 0 (Txt.split (Str.join "\n" (rows.map (·.1))) "\n") sh0 = some s := by
  by_cases h : rows = []
  · have hr := j.run
    subst h
    have e : Txt.split (Str.join "\n" (([] : List (Str × List Wd)).map (·.1))) "\n" = [("" : Str)] := by decide +kernel
    rw [e]
    have hr' : some sh0 = some s := hr
    rw [← hr']
    rfl
  · have q := split_join (y := ("\n" : Str)) (s := 10) (S := []) lf_tl lf_k (parts := rows.map (·.1)) (by simpa using h) (fun p hp => by
      obtain ⟨r, hm, rfl⟩ := List.mem_map.mp hp
      exact (j.tx r hm).1)
    rw [join_eq] at q
    rw [q]
    exact j.run
theorem JJ.size {N : List Str} {rows : List (Str × List Wd)} {left : List Str} {s : Sh} (j : JJ N rows left s) (hr : rows.length ≤ 100) : (Str.join "\n" (rows.map (·.1))).length ≤ 5000 := by
  have h0 := StrLaws.join_length_le ("\n" : Str) (rows.map (·.1))
  have h1 := sum_le_mul (fun r : Str × List Wd => r.1.length) 20 rows (fun r hm => by
    have := (j.tx r hm).2
    rw [← len_tl] at this
    exact this)
  rw [List.map_map, List.length_map] at h0
  have e1 : ((·.length) ∘ (fun r : Str × List Wd => r.1) : Str × List Wd → Nat) = fun r => r.1.length := rfl
  rw [e1] at h0
  have e2 : (("\n" : Str)).length = 1 := rfl
  rw [e2] at h0
  omega
end Bh

/-! The law's part of a row. -/
namespace Bh
open PySem PySem.Spec PyProof.Rows L2
open TL
section
variable {X : Cx}
/-- d != e, two dicts of unlike sizes -/
def rNeDL : R2 := fun x y H Q => ∃ a b ks ls, x = .ref a ∧ y = .ref b ∧ H a = some (.dK ks) ∧ H b = some (.dK ls) ∧ ks.length ≠ ls.length ∧ Q (.bl true) H
theorem op_neDL (hu : X.A.units < cLine) : OpR X (compareOp .NotEq) rNeDL := by
  intro pins s σ H x y v u Q I rx ry h
  obtain ⟨a, b, ks, ls, rfl, rfl, ea, eb, hlen, q⟩ := h
  cases rx
  cases ry
  obtain ⟨_, ya, va, ra, da⟩ := (show ObjOk X.prog X.w H s.heap a (.dK ks) from I.hok a _ ea)
  obtain ⟨_, yb, vb, rb, db⟩ := (show ObjOk X.prog X.w H s.heap b (.dK ls) from I.hok b _ eb)
  have hl : va.length ≠ vb.length := by
    rw [← ra.length, ← rb.length]
    exact hlen
  have hb : (va.length == vb.length) = false := by simpa using hl
  exact PySem.W.keq_ne (knd := mixKind X.prog X.w) (r := true) ya yb da db hu (fun e => absurd e hl) (fin_bl I q (by rw [hb]; rfl))
end
/-- what stands behind the op: a number, or a name -/
def PartIs (ks : List Str) (v : V) (l : List Nat) : Prop := (∃ x ∈ ks, v = .str x ∧ l = tl x) ∨ ∃ n : Nat, n ≤ 1008 ∧ v = .int (n : Int) ∧ l = numL n
section
variable {P : Program} {w : World} {K : PySem.W.Frag} {mg : Str → Option Value} {base : Heap} {aN aX C : Addr}
def spPart (K : PySem.W.Frag) : Sp := fun vs H Q _ => ∃ (a b d : Addr) (i : Int) (ds : List Int) (L : List (Str × Int)), vs = [.ref a, .int i, .ref b, .ref d] ∧ SqL K H a (ds.map V.int) ∧ ds.length = 120 ∧ DigOk ds ∧ 0 ≤ i ∧ i < 60 ∧ H d = some (.dK (nmK L)) ∧ L ≠ [] ∧ L.length < 64 ∧
  ∀ (H' : Hp) (t : Addr) (v : V) (l : List Nat), Same H H' → H t = none → H' t = some (.tup [.str (sS l), v]) → PartIs (L.map (·.1)) v l → Q (.ref t) H'
theorem scPart : FnScope ["_law_row", "_law_at", "_law_names_here", "_law_named", "_law_name"] ["_law_row", "_law_at", "_law_names_here", "_law_named"] (defScope sPart) := ⟨rfl, rfl, rfl, by decide +kernel, rfl, by decide +kernel, by decide +kernel⟩
theorem ok_part {f : Addr} {fd : FuncData} (F : Fun K "_law_part" "_law_part" sPart f fd) (gs : mg "sorted" = none) (gl : mg "len" = none) (gt : mg "str" = none) : FnOk P w K mg base CX0 2 f fd ["_law_row", "_law_at", "_law_names_here", "_law_named"] (spPart K) := by
  refine F.ok scPart (fun vs H Q E h => by obtain ⟨a, b, d, i, ds, L, rfl, _⟩ := h; rfl) (fun cdv A outer s H vs Q E hr h => ?_)
  obtain ⟨a, b, d, i, ds, L, rfl, hS, hl, hd, i0, i1, hL, hne, hlt, q⟩ := h
  have hu0 := hr.units0
  refine ⟨_, pss_cons (ps_if (PW.pt (pw_and (pt_cmpR op_eq (pe_op op_mod (pe_ix ix_list (pv 0) (pv 1) (fun _ _ => rfl)) pe_int) pe_int (nomark _)) (pw_and1 (pt_cmpR (op_neDL hu0) (pv 3) pe_dnewK (nomark _)))))
      (pss_cons (ps_set (i := 4) scPart.nd rfl (.inl rfl) (pe_ix ix_list (pe_callB (call_sortedD rfl) (by rfl) gs (by decide +kernel) (pa_cons (pv 3) pa_nil)) (pe_op op_mod (pe_ix ix_list (pv 0) (pe_op op_add (pv 1) pe_int) (fun _ _ => rfl)) (pe_callB call_lenD (by rfl) gl PySem.boot_len (pa_cons (pv 3) pa_nil))) (fun _ _ => rfl)))
        (pss_one (ps_ret (pe_tup (pa_cons (pv 4) (pa_cons (pv 4) pa_nil)))))) pss_nil)
    (pss_one (ps_ret (pe_tup (pa_cons (pe_callTy call_str_int (by rfl) gt (by decide +kernel) (pa_cons (pe_ix ix_list (pv 0) (pe_op op_add (pv 1) pe_int) (fun _ _ => rfl)) pa_nil)) (pa_cons (pe_ix ix_list (pv 0) (pe_op op_add (pv 1) pe_int) (fun _ _ => rfl)) pa_nil))))), ?_⟩
  obtain ⟨d0, e0, b0⟩ := atD hl hd (j := i) i0 (by omega)
  obtain ⟨d1, e1, b1⟩ := atD hl hd (j := i + 1) (by omega) (by omega)
  obtain ⟨n, rfl⟩ : ∃ n : Nat, d1 = (n : Int) := ⟨_, (Int.toNat_of_nonneg b1.1).symm⟩
  have fin : ∀ {H1 : Hp}, Same H H1 → True := fun _ => trivial
  have hz := num_small (n := n) (by omega)
  have et : ((toString (n : Int) : String) : Str) = sS (numL n) := by
    apply ext_tl
    rw [tl_num]
    rfl
  refine ⟨_, rfl, _, rfl, a, _, _, _, rfl, rfl, hS, e0, _, _, rfl, rfl, (by show (0 : Int) < 3; decide), rfl, _, rfl, ite2 (fun _ => ?_) (fun _ => ?_)⟩
  · refine ⟨_, rfl, fun d2 nd2 => ?_⟩
    have s1 := same_upd' (o := .dK []) nd2
    refine ⟨d, d2, _, _, rfl, rfl, s1 _ _ hL, upd_same, ?_, _, rfl, ?_⟩
    · rw [nmK_len]
      intro z
      exact hne (List.length_eq_zero_iff.mp z)
    refine ⟨_, rfl, d, _, L.map (·.1), rfl, .inl (s1 _ _ hL), by unfold nmK; rw [List.map_map, List.map_map]; rfl, by rw [List.length_map]; exact hlt, fun ys p perm _ np => ?_⟩
    have s2 := s1.trans (same_upd' (o := .lst (ys.map V.str)) np)
    have hpos : 0 < (nmK L).length := by
      rw [nmK_len]
      exact List.length_pos_iff.mpr hne
    refine ⟨_, rfl, _, rfl, _, _, rfl, rfl, a, _, _, _, rfl, rfl, s2.seq hS, e1, _, rfl, d, _, rfl, s2 _ _ hL, _, _, rfl, rfl, (by omega), ?_⟩
    have hyl : ys.length = (nmK L).length := by
      rw [perm.length_eq, List.length_map, nmK_len]
    have m0 := Int.emod_nonneg (n : Int) (show ((nmK L).length : Int) ≠ 0 by omega)
    have m1 := Int.emod_lt_of_pos (n : Int) (show (0 : Int) < ((nmK L).length : Int) by omega)
    have hj : ((n : Int) % ((nmK L).length : Int)).toNat < ys.length := by omega
    have ej : (n : Int) % ((nmK L).length : Int) = ((((n : Int) % ((nmK L).length : Int)).toNat : Nat) : Int) := (Int.toNat_of_nonneg m0).symm
    have hat : atI (ys.map V.str) ((n : Int) % ((nmK L).length : Int)) = some (.str ys[((n : Int) % ((nmK L).length : Int)).toNat]) := by
      have q1 : atI (ys.map V.str) ((((n : Int) % ((nmK L).length : Int)).toNat : Nat) : Int) = some (.str ys[((n : Int) % ((nmK L).length : Int)).toNat]) := atI_nat (by
        rw [List.getElem?_map, List.getElem?_eq_getElem hj]
        rfl)
      rw [← ej] at q1
      exact q1
    have hm : ys[((n : Int) % ((nmK L).length : Int)).toNat] ∈ L.map (·.1) := perm.mem_iff.mp (List.getElem_mem hj)
    generalize ys[((n : Int) % ((nmK L).length : Int)).toNat] = x at *
    refine ⟨p, _, _, _, rfl, rfl, .inl (.inl upd_same), hat, _, rfl, _, rfl, (by show 2 ≤ sizeLine; decide), fun t nt => ?_⟩
    exact q _ t (.str x) (tl x) (s2.trans (same_upd' nt)) (s2.free nt) (by rw [upd_same, sS_tl]) (.inl ⟨x, hm, rfl, rfl⟩)
  · refine ⟨_, rfl, _, rfl, _, _, rfl, rfl, a, _, _, _, rfl, rfl, hS, e1, _, rfl, hz, _, rfl, _, rfl, _, _, rfl, rfl, a, _, _, _, rfl, rfl, hS, e1, (by show 2 ≤ sizeLine; decide), fun t nt => ?_⟩
    exact q _ t (.int (n : Int)) (numL n) (same_upd' nt) nt (by rw [upd_same, et]) (.inr ⟨n, by omega, rfl, rfl⟩)
end
end Bh

/-! The law's rows. -/
namespace Bh
open PySem PySem.Spec PyProof.Rows L2
open TL
def WdAt (H : Hp) (v : V) : Wd → Prop
  | .pl n => v = .int n
  | .nu op n => ∃ t, v = .ref t ∧ H t = some (.tup [.int op, .int n])
  | .na op x => ∃ t, v = .ref t ∧ H t = some (.tup [.int op, .str x])
def RowAt (H : Hp) (v : V) (r : Str × List Wd) : Prop := ∃ t l us, v = .ref t ∧ H t = some (.tup [.str r.1, .ref l]) ∧ H l = some (.lst us) ∧ us.length ≤ 100 ∧ Paired (WdAt H) us r.2
theorem WdAt.mono {H H' : Hp} (sm : Same H H') {v : V} {w : Wd} (h : WdAt H v w) : WdAt H' v w := by
  cases w with
  | pl n => exact h
  | nu op n => exact let ⟨t, e, q⟩ := h; ⟨t, e, sm _ _ q⟩
  | na op x => exact let ⟨t, e, q⟩ := h; ⟨t, e, sm _ _ q⟩
theorem paired_mono {α β : Type} {F G : α → β → Prop} (k : ∀ a b, F a b → G a b) : ∀ {xs : List α} {ys : List β}, Paired F xs ys → Paired G xs ys
  | _, _, .nil => .nil
  | _, _, .cons h r => .cons (k _ _ h) (paired_mono k r)
theorem paired_snoc {α β : Type} {F : α → β → Prop} {a : α} {b : β} (h : F a b) : ∀ {xs : List α} {ys : List β}, Paired F xs ys → Paired F (xs ++ [a]) (ys ++ [b])
  | _, _, .nil => .cons h .nil
  | _, _, .cons g r => .cons g (paired_snoc h r)
theorem RowAt.mono {H H' : Hp} (sm : Same H H') {v : V} {r : Str × List Wd} (h : RowAt H v r) : RowAt H' v r := by
  obtain ⟨t, l, us, e, ht, hl, hn, hp⟩ := h
  exact ⟨t, l, us, e, sm _ _ ht, sm _ _ hl, hn, paired_mono (fun _ _ q => q.mono sm) hp⟩
/-- the three things that are changed: the rows, the dict, what is left of the names; all else stands in G -/
structure RH (H0 G H : Hp) (rr td lf : Addr) (tn : List (Str × Int)) (left : List Str) (us : List V) (rows : List (Str × List Wd)) : Prop where
  b : Same H0 G
  g : Same G H
  g1 : G rr = none
  g2 : G td = none
  g3 : G lf = none
  h1 : H rr = some (.lst us)
  h2 : H td = some (.dK (nmK tn))
  h3 : H lf = some (.lst (left.map V.str))
  ne : rr ≠ lf
  ra : Paired (RowAt G) us rows
theorem same_both {G H : Hp} {x : Addr} {o : HO} (sm : Same G H) : Same (upd G x o) (upd H x o) := fun z y e => by
  by_cases hz : z = x
  · rw [hz, upd_same] at e ⊢
    exact e
  · rw [upd_ne hz] at e ⊢
    exact sm _ _ e
section
variable {H0 G H : Hp} {rr td lf : Addr} {tn : List (Str × Int)} {left : List Str} {us : List V} {rows : List (Str × List Wd)}
theorem RH.alloc (h : RH H0 G H rr td lf tn left us rows) {x : Addr} (o : HO) (hx : H x = none) : RH H0 (upd G x o) (upd H x o) rr td lf tn left us rows where
  b := h.b.trans (same_upd' (h.g.free hx))
  g := same_both h.g
  g1 := by rw [upd_ne (ne_of_none h.h1 hx)]; exact h.g1
  g2 := by rw [upd_ne (ne_of_none h.h2 hx)]; exact h.g2
  g3 := by rw [upd_ne (ne_of_none h.h3 hx)]; exact h.g3
  h1 := same_upd' hx _ _ h.h1
  h2 := same_upd' hx _ _ h.h2
  h3 := same_upd' hx _ _ h.h3
  ne := h.ne
  ra := paired_mono (fun _ _ q => q.mono (same_upd' (h.g.free hx))) h.ra
theorem RH.rt (h : RH H0 G H rr td lf tn left us rows) : rr ≠ td := ne_of h.h1 h.h2 (by intro q; cases q)
theorem RH.tl (h : RH H0 G H rr td lf tn left us rows) : td ≠ lf := ne_of h.h2 h.h3 (by intro q; cases q)
theorem RH.setL (h : RH H0 G H rr td lf tn left us rows) (left' : List Str) : RH H0 G (upd H lf (.lst (left'.map V.str))) rr td lf tn left' us rows where
  b := h.b
  g := same_of h.g h.g3
  g1 := h.g1
  g2 := h.g2
  g3 := h.g3
  h1 := by rw [upd_ne h.ne]; exact h.h1
  h2 := by rw [upd_ne h.tl]; exact h.h2
  h3 := upd_same
  ne := h.ne
  ra := h.ra
theorem RH.setT (h : RH H0 G H rr td lf tn left us rows) (tn' : List (Str × Int)) : RH H0 G (upd H td (.dK (nmK tn'))) rr td lf tn' left us rows where
  b := h.b
  g := same_of h.g h.g2
  g1 := h.g1
  g2 := h.g2
  g3 := h.g3
  h1 := by rw [upd_ne h.rt]; exact h.h1
  h2 := upd_same
  h3 := by rw [upd_ne h.tl.symm]; exact h.h3
  ne := h.ne
  ra := h.ra
theorem RH.add (h : RH H0 G H rr td lf tn left us rows) {v : V} {r : Str × List Wd} (hr : RowAt G v r) : RH H0 G (upd H rr (.lst (us ++ [v]))) rr td lf tn left (us ++ [v]) (rows ++ [r]) where
  b := h.b
  g := same_of h.g h.g1
  g1 := h.g1
  g2 := h.g2
  g3 := h.g3
  h1 := upd_same
  h2 := by rw [upd_ne h.rt.symm]; exact h.h2
  h3 := by rw [upd_ne h.ne.symm]; exact h.h3
  ne := h.ne
  ra := paired_snoc hr h.ra
theorem RH.len (h : RH H0 G H rr td lf tn left us rows) : us.length = rows.length := Paired.length h.ra
theorem RH.base (h : RH H0 G H rr td lf tn left us rows) : Same H0 H := h.b.trans h.g
end
/-- strs as data -/
theorem strOk_low {x : Str} (h : isNm x = true) : PyData.canLay0 (.str x) = true := by
  show PyData.strOk x = true
  unfold PyData.strOk
  rw [all_tl, List.all_eq_true]
  intro c hc
  have := low_bounds ((nm_low h).1 c hc)
  exact decide_eq_true (by omega)
theorem shaped_strs {xs : List Str} (h : ∀ x ∈ xs, isNm x = true) : SeqAt.shaped (.list (xs.map PyData.str)) = true := by
  have c : PyData.canLayAll0 (xs.map PyData.str) = true := by
    induction xs with
    | nil => rfl
    | cons x r ih =>
      show (PyData.canLay0 (.str x) && PyData.canLayAll0 (r.map PyData.str)) = true
      rw [strOk_low (h x List.mem_cons_self), ih fun y hy => h y (List.mem_cons_of_mem _ hy)]
      rfl
  have d : PyData.depthAll (xs.map PyData.str) ≤ 1 := by
    clear c h
    induction xs with
    | nil => decide
    | cons x r ih => exact Nat.max_le.mpr ⟨Nat.zero_le _, ih⟩
  show (PyData.canLayAll0 (xs.map PyData.str) && decide (PyData.depthAll (xs.map PyData.str) + 1 ≤ 64)) = true
  rw [c, decide_eq_true (by omega)]
  rfl
theorem dp_strs {K : PySem.W.Frag} {H : Hp} : ∀ xs : List Str, DpAll K H (xs.map V.str) (xs.map PyData.str)
  | [] => .nil
  | x :: r => .cons (.str x) (dp_strs r)
theorem merge_nodup : ∀ (b a : List (Str × Int)), ((a ++ b).map (·.1)).Nodup → mergeK (nmK a) (nmK b) = nmK (a ++ b)
  | [], a, _ => by rw [List.append_nil]; rfl
  | p :: r, a, h => by
    have hp : hasN a p.1 = false := hasN_not fun m => by
      rw [List.map_append, List.nodup_append] at h
      exact h.2.2 p.1 m p.1 (by simp) rfl
    have e : mergeK (nmK a) (nmK (p :: r)) = mergeK (putK (nmK a) (Sum.inr p.1) (.int p.2)) (nmK r) := rfl
    rw [e, putK_nmK hp, merge_nodup r (a ++ [(p.1, p.2)]) (by simpa using h)]
    simp
theorem replicate_raw (w : Int) (m : Nat) : (List.replicate m (Wd.pl w)).map rawW = List.replicate m w := by
  rw [List.map_replicate]
  rfl
theorem posL_pl (w : Int) : ∀ (m i : Nat), posL i (List.replicate m (Wd.pl w)) = []
  | 0, _ => rfl
  | m + 1, i => posL_pl w m (i + 1)
theorem JJ.lay {N : List Str} {rows : List (Str × List Wd)} {left : List Str} {s : Sh} (j : JJ N rows left s) {t : Str} {w : Int} {m : Nat} (ht : takeM (0 + (rows.length : Int)) t s = (true, { s with words := s.words ++ List.replicate m w })) (hm : m ≤ 7) (h10 : 10 ∉ tl t) (h20 : (tl t).length ≤ 20) :
    JJ N (rows ++ [(t, List.replicate m (.pl w))]) left { s with words := s.words ++ List.replicate m w } := by
  have q := j.words (t := t) (ws := List.replicate m (.pl w)) (us := []) (by rw [replicate_raw, List.append_nil]; exact ht) (posL_pl w m _).symm (fun op x h => by
    have := List.eq_of_mem_replicate h
    cases this) h10 h20 (by rw [List.length_replicate]; exact hm)
  rw [replicate_raw, List.append_nil] at q
  exact q
theorem JJ.skip {N : List Str} {rows : List (Str × List Wd)} {left : List Str} {s : Sh} (j : JJ N rows left s) : JJ N (rows ++ [(sS [], [])]) left s := by
  have q := j.words (t := sS []) (ws := []) (us := []) (by rw [take_none]; simp) rfl (fun op x h => by cases h) (by rw [tl_sS]; exact List.not_mem_nil) (by rw [tl_sS]; exact Nat.zero_le _) (Nat.zero_le _)
  simpa using q
theorem JJ.num {N : List Str} {rows : List (Str × List Wd)} {left : List Str} {s : Sh} (j : JJ N rows left s) {p : Str × Nat} (hp : p ∈ opsL) {n : Nat} (hn : n ≤ 1008) (hl : s.words.length < 512) :
    JJ N (rows ++ [(sS (tl p.1 ++ 32 :: numL n), [.nu (p.2 : Int) (n : Int)])]) left { s with words := s.words ++ [1024 * (p.2 : Int) + (n : Int)] } := by
  have h5 := numL5 (n := n) (by omega)
  have o := op_parts hp
  have q := j.words (t := sS (tl p.1 ++ 32 :: numL n)) (ws := [.nu (p.2 : Int) (n : Int)]) (us := []) (by rw [take_num hp hn hl, List.append_nil]; rfl) rfl (fun op x h => by
    have := List.mem_singleton.mp h
    cases this) (fun h => by
      rw [tl_sS] at h
      rcases List.mem_append.mp h with z | z
      · exact o.2.2.1 z
      · rcases List.mem_cons.mp z with z | z
        · exact absurd z (by decide)
        · exact numL_nolf n z) (by
      rw [tl_sS, List.length_append, List.length_cons]
      omega) (by show 1 ≤ 7; decide)
  rw [List.append_nil] at q
  exact q
theorem JJ.nam {N : List Str} {rows : List (Str × List Wd)} {left : List Str} {s : Sh} (j : JJ N rows left s) {p : Str × Nat} (hp : p ∈ opsL) {x : Str} (hx : isNm x = true) (hN : x ∈ N) (hl : s.words.length < 512) :
    JJ N (rows ++ [(sS (tl p.1 ++ 32 :: tl x), [.na (p.2 : Int) x])]) left { s with words := s.words ++ [1024 * (p.2 : Int)], uses := s.uses ++ [(0 + (rows.length : Int), (s.words.length : Int), x)] } := by
  have o := op_parts hp
  have n8 := (nm_low hx).2.2
  exact j.words (t := sS (tl p.1 ++ 32 :: tl x)) (ws := [.na (p.2 : Int) x]) (us := [(0 + (rows.length : Int), (s.words.length : Int), x)]) (take_nam hp hx hl) rfl (fun op y h => by
    have e := List.mem_singleton.mp h
    cases e
    exact hN) (fun h => by
      rw [tl_sS] at h
      rcases List.mem_append.mp h with z | z
      · exact o.2.2.1 z
      · rcases List.mem_cons.mp z with z | z
        · exact absurd z (by decide)
        · exact nm_free hx (.inl (by decide)) z) (by
      rw [tl_sS, List.length_append, List.length_cons]
      omega) (by show 1 ≤ 7; decide)
theorem RH.same {H0 G H H' : Hp} {rr td lf : Addr} {tn : List (Str × Int)} {left : List Str} {us : List V} {rows : List (Str × List Wd)} (h : RH H0 G H rr td lf tn left us rows) (sm : Same H H') : RH H0 G H' rr td lf tn left us rows :=
  ⟨h.b, h.g.trans sm, h.g1, h.g2, h.g3, sm _ _ h.h1, sm _ _ h.h2, sm _ _ h.h3, h.ne, h.ra⟩
theorem plus_col (x : Str) : x ++ (":" : Str) = sS (tl x ++ [58]) := by
  apply ext_tl
  rw [tl_append, col_tl]
  rfl
theorem at_plus (n : Nat) : ("at " : Str) ++ ((toString (n : Int) : String) : Str) = sS (atL ++ 32 :: numL n) := by
  apply ext_tl
  rw [tl_append, tl_num]
  rfl
theorem keep_plus (n : Nat) : ("keep " : Str) ++ ((toString (n : Int) : String) : Str) = sS (keepL ++ 32 :: numL n) := by
  apply ext_tl
  rw [tl_append, tl_num]
  rfl
theorem op_plus (x : Str) (l : List Nat) : x ++ (" " : Str) ++ sS l = sS (tl x ++ 32 :: l) := by
  apply ext_tl
  rw [tl_append, tl_append, sp_tl, tl_sS, tl_sS, List.append_assoc]
  rfl
theorem rep_flat (w : Int) (m : Nat) : (List.replicate m [V.int w]).flatten = List.replicate m (V.int w) := by
  induction m with
  | zero => rfl
  | succ n ih => rw [List.replicate_succ, List.flatten_cons, ih, List.replicate_succ]; rfl
theorem paired_rep {H : Hp} (w : Int) : ∀ m : Nat, Paired (WdAt H) (List.replicate m (V.int w)) (List.replicate m (Wd.pl w))
  | 0 => .nil
  | m + 1 => by
    rw [List.replicate_succ, List.replicate_succ]
    exact .cons rfl (paired_rep w m)
theorem cut_strs {N : List Str} (hl : N.length = 6) {d : Int} (h0 : 0 ≤ d) : cutV (N.map V.str) none (some (1 + d % 6)) = (N.take (1 + d % 6).toNat).map V.str := by
  have e : (1 + d % 6) = (((1 + d % 6).toNat : Nat) : Int) := (Int.toNat_of_nonneg (by omega)).symm
  unfold cutV
  have e7 : HT.sIx (N.map V.str).length (N.map V.str).length (some (1 + d % 6)) = min (1 + d % 6).toNat (N.map V.str).length := by
    rw [e]
    exact HT.sIx_nat _ _ _
  rw [e7, List.length_map, hl]
  show ((N.map V.str).drop 0).take (min (1 + d % 6).toNat 6 - 0) = _
  rw [List.drop_zero, Nat.sub_zero, Nat.min_eq_left (by omega), List.map_take]
section
variable {P : Program} {w : World} {K : PySem.W.Frag} {mg : Str → Option Value} {base : Heap} {aN aX C : Addr}
def spRows (K : PySem.W.Frag) : Sp := fun vs H Q _ => ∃ (a b : Addr) (ds : List Int) (N6 : List Str), vs = [.ref a, .ref b] ∧ H a = some (.lst (ds.map V.int)) ∧ ds.length = 60 ∧ DigOk ds ∧ SqL K H b (N6.map V.str) ∧ NmOk N6 ∧
  ∀ (H' G : Hp) (t rr td lf : Addr) (N left : List Str) (us : List V) (rows : List (Str × List Wd)) (s : Sh), RH H G H' rr td lf (toldN N s.names) left us rows → H t = none → H' t = some (.tup [.ref rr, .ref td]) → JJ N rows [] s → N.Nodup → rows.length ≤ 60 → Q (.ref t) H'
def rowsN : List Str := ["_law_row", "_law_names_here", "_law_name", "_law_told", "_law_left", "_law_rows_here", "_law_at", "_law_k", "_law_way", "_law_many", "_law_text", "_law_part_here", "_law_some", "_law_op"]
theorem scRows : FnScope ["_law_row", "_law_names_here", "_law_name", "_law_told", "_law_left", "_law_rows_here", "_law_at", "_law_k", "_law_way", "_law_many", "_law_text", "_law_part_here", "_law_some", "_law_op"] ["_law_row", "_law_names_here"] (defScope sRows) := ⟨rfl, rfl, rfl, by decide +kernel, rfl, by decide +kernel, by decide +kernel⟩
theorem ok_rows {f fP : Addr} {fd fdP : FuncData} (F : Fun K "_law_rows" "_law_rows" sRows f fd) (PT : CalF P w K mg base 2 "_law_part" ["_law_row", "_law_at", "_law_names_here", "_law_named"] (spPart K) fP fdP)
    (gd : mg "dict" = none) (gl : mg "list" = none) (gr : mg "range" = none) (gt : mg "str" = none) : FnOk P w K mg base CX0 3 f fd ["_law_row", "_law_names_here"] (spRows K) := by
  refine F.ok scRows (fun vs H Q E h => by obtain ⟨a, b, ds, N6, rfl, _⟩ := h; rfl) (fun cdv A outer s H vs Q E hr h => ?_)
  obtain ⟨a, b, ds, N6, rfl, hA, hl, hd, hB, hN6, q⟩ := h
  have hu := hr.units
  have hu1 := hu_of hr
  refine ⟨_, pss_cons (ps_set (i := 3) scRows.nd rfl (.inl rfl) (pe_callTy (call_dictP rfl) (by rfl) gd (by decide +kernel) (pa_cons (pe_lc (own := [("_law_name", 2)]) (g := gName 2) (tt := tYes) (by rfl) scRows.nd
          (pi_list (pe_slice sl_list (pv 1) po_none (po_some (pe_op op_add pe_int (pe_op op_mod (pe_ix ix_list (pv 0) pe_int (fun _ _ => rfl)) pe_int)))))
          (blkOk_by (own := [("_law_name", 2)]) (N := rowsN) (sc := defScope sRows) (by decide +kernel)) (fun _ _ _ _ _ => pg_name (i := 2) scRows.nd rfl (Or.inl rfl)) (fun _ _ _ _ _ => pts_nil)
          (fun _ _ _ _ _ => pe_tup (pa_cons (pv 2) (pa_cons pe_int pa_nil)))) pa_nil)))
    (pss_cons (ps_set (i := 4) scRows.nd rfl (.inl rfl) (pe_callTy (call_listD rfl) (by rfl) gl (by decide +kernel) (pa_cons (pv 3) pa_nil)))
    (pss_cons (ps_set (i := 5) scRows.nd rfl (.inl rfl) (pe_lst pa_nil))
    (pss_cons (ps_set (i := 6) scRows.nd rfl (.inl rfl) pe_int)
    (pss_cons (ps_for PassesOwn.never rfl (pi_range1 (by rfl) gr (pa_cons (pe_op op_mod (pe_ix ix_list (pv 0) pe_int (fun _ _ => rfl)) pe_int) pa_nil)) (pg_name (i := 7) scRows.nd rfl (.inl rfl))
      (pss_cons (ps_set (i := 8) scRows.nd rfl (.inl rfl) (pe_op op_mod (pe_ix ix_list (pv 0) (pe_op op_mod (pe_op op_add (pe_op op_mul pe_int (pv 7)) pe_int) pe_int) (fun _ _ => rfl)) pe_int))
      (pss_one (ps_if (PW.pt (pw_and (pt_cmpR op_lt (pv 8) pe_int (nomark _)) (pw_and1 (pt_cmpR (op_neD hu) (pv 4) (pe_lst pa_nil) (nomark _)))))
        (pss_cons (ps_set (i := 2) scRows.nd rfl (.inl rfl) (pe_bm PySem.F.plainAttrs_list PySem.F.slot_list_pop PySem.F.type_list_pop mt_popAt (pv 4) (pa_cons pe_int pa_nil)))
        (pss_cons (ps_dput hu1 (pv 3) (pv 2) (pv 6) rfl)
        (pss_one (ps_expr (pe_bm PySem.F.plainAttrs_list PySem.F.slot_list_append PySem.F.type_list_append mt_append (pv 5) (pa_cons (pe_tup (pa_cons (pe_op op_add_str (pv 2) pe_str) (pa_cons (pe_lst pa_nil) pa_nil))) pa_nil))))))
        (pss_one (ps_if (pt_cmpR op_eq (pv 8) pe_int (nomark _))
          (pss_cons (ps_set (i := 9) scRows.nd rfl (.inl rfl) (pe_op op_mod (pe_ix ix_list (pv 0) (pe_op op_mod (pe_op op_add (pe_op op_mul pe_int (pv 7)) pe_int) pe_int) (fun _ _ => rfl)) pe_int))
          (pss_cons (ps_expr (pe_bm PySem.F.plainAttrs_list PySem.F.slot_list_append PySem.F.type_list_append mt_append (pv 5) (pa_cons (pe_tup (pa_cons (pe_op op_add_str pe_str (pe_callTy call_str_int (by rfl) gt (by decide +kernel) (pa_cons (pe_op op_add (pv 6) (pv 9)) pa_nil))) (pa_cons (pe_op op_rep (pe_lst (pa_cons pe_int pa_nil)) (pv 9)) pa_nil))) pa_nil)))
          (pss_one (ps_set (i := 6) scRows.nd rfl (.inl rfl) (pe_op op_add (pv 6) (pv 9))))))
          (pss_one (ps_if (pt_cmpR op_eq (pv 8) pe_int (nomark _))
            (pss_cons (ps_set (i := 9) scRows.nd rfl (.inl rfl) (pe_op op_mod (pe_ix ix_list (pv 0) (pe_op op_mod (pe_op op_add (pe_op op_mul pe_int (pv 7)) pe_int) pe_int) (fun _ _ => rfl)) pe_int))
            (pss_cons (ps_expr (pe_bm PySem.F.plainAttrs_list PySem.F.slot_list_append PySem.F.type_list_append mt_append (pv 5) (pa_cons (pe_tup (pa_cons (pe_op op_add_str pe_str (pe_callTy call_str_int (by rfl) gt (by decide +kernel) (pa_cons (pv 9) pa_nil))) (pa_cons (pe_op op_rep (pe_lst (pa_cons pe_int pa_nil)) (pv 9)) pa_nil))) pa_nil)))
            (pss_one (ps_set (i := 6) scRows.nd rfl (.inl rfl) (pe_op op_add (pv 6) (pv 9))))))
            (pss_one (ps_if (pt_cmpR op_eq (pv 8) pe_int (nomark _))
              (pss_one (ps_expr (pe_bm PySem.F.plainAttrs_list PySem.F.slot_list_append PySem.F.type_list_append mt_append (pv 5) (pa_cons (pe_tup (pa_cons pe_str (pa_cons (pe_lst pa_nil) pa_nil))) pa_nil))))
              (pss_cons (ps_asg (pe_call PT.G hr (by rfl) PT.g PT.kp PT.b .nil pass0 (pa_cons (pe_op op_cat (pv 0) (pv 0)) (pa_cons (pe_op op_mod (pe_op op_add (pe_op op_mul pe_int (pv 7)) pe_int) pe_int) (pa_cons (pv 1) (pa_cons (pv 3) pa_nil))))) (pg_tup rfl (pgs_cons (pg_name (i := 10) scRows.nd rfl (.inl rfl)) (pgs_cons (pg_name (i := 11) scRows.nd rfl (.inl rfl)) pgs_nil))))
              (pss_cons (ps_set (i := 12) scRows.nd rfl (.inl rfl) (pe_lst (pa_cons (pe_tup (pa_cons pe_str (pa_cons pe_int pa_nil))) (pa_cons (pe_tup (pa_cons pe_str (pa_cons pe_int pa_nil))) (pa_cons (pe_tup (pa_cons pe_str (pa_cons pe_int pa_nil))) (pa_cons (pe_tup (pa_cons pe_str (pa_cons pe_int pa_nil))) (pa_cons (pe_tup (pa_cons pe_str (pa_cons pe_int pa_nil))) (pa_cons (pe_tup (pa_cons pe_str (pa_cons pe_int pa_nil))) (pa_cons (pe_tup (pa_cons pe_str (pa_cons pe_int pa_nil))) pa_nil)))))))))
              (pss_cons (ps_set (i := 13) scRows.nd rfl (.inl rfl) (pe_ix ix_list (pv 12) (pe_op op_mod (pe_ix ix_list (pv 0) (pe_op op_mod (pv 7) pe_int) (fun _ _ => rfl)) pe_int) (fun _ _ => rfl)))
              (pss_cons (ps_expr (pe_bm PySem.F.plainAttrs_list PySem.F.slot_list_append PySem.F.type_list_append mt_append (pv 5) (pa_cons (pe_tup (pa_cons (pe_op op_add_str (pe_op op_add_str (pe_ix ix_tup (pv 13) pe_int (fun _ _ => rfl)) pe_str) (pv 10)) (pa_cons (pe_lst (pa_cons (pe_tup (pa_cons (pe_ix ix_tup (pv 13) pe_int (fun _ _ => rfl)) (pa_cons (pv 11) pa_nil))) pa_nil)) pa_nil))) pa_nil)))
              (pss_one (ps_set (i := 6) scRows.nd rfl (.inl rfl) (pe_op op_add (pv 6) pe_int)))))))))))))))))
    (pss_cons (ps_for PassesOwn.never rfl (pi_list (pv 4)) (pg_name (i := 2) scRows.nd rfl (.inl rfl))
      (pss_cons (ps_dput hu1 (pv 3) (pv 2) (pv 6) rfl)
      (pss_one (ps_expr (pe_bm PySem.F.plainAttrs_list PySem.F.slot_list_append PySem.F.type_list_append mt_append (pv 5) (pa_cons (pe_tup (pa_cons (pe_op op_add_str (pv 2) pe_str) (pa_cons (pe_lst pa_nil) pa_nil))) pa_nil))))))
    (pss_one (ps_ret (pe_tup (pa_cons (pv 5) (pa_cons (pv 3) pa_nil)))))))))), ?_⟩
  obtain ⟨d0, e0, b0⟩ := atD hl hd (j := 0) (by decide) (by decide)
  obtain ⟨d1, e1, b1⟩ := atD hl hd (j := 1) (by decide) (by decide)
  refine ⟨_, rfl, _, rfl, a, _, _, _, rfl, rfl, SqL.of hA, e0, _, _, rfl, rfl, (by show (0 : Int) < 6; decide), _, _, rfl, rfl, _, rfl, b, _, rfl, hB, fun s0 ns0 => ?_⟩
  have ec := cut_strs (N := N6) hN6.1 b0.1
  dsimp only
  rw [ec]
  obtain ⟨N, hNe⟩ : ∃ N, N = N6.take (1 + d0 % 6).toNat := ⟨_, rfl⟩
  have hNn : N.Nodup := by
    rw [hNe]
    exact hN6.2.1.sublist (List.take_sublist _ _)
  have hNm : ∀ x ∈ N, isNm x = true := fun x hx => by
    rw [hNe] at hx
    exact hN6.2.2 x (List.mem_of_mem_take hx)
  have hNl : 1 ≤ N.length ∧ N.length ≤ 6 := by
    rw [hNe, List.length_take, hN6.1]
    omega
  rw [← hNe]
  refine ⟨s0, rfl, ⟨_, .inl (.inl upd_same)⟩, fun D nD => ?_⟩
  have sm0 : Same H (upd H s0 (.lst (N.map V.str))) := same_upd' ns0
  refine lc_list (K := K) (a := s0) (xs := N.map V.str) (fun i H' => Same (upd H s0 (.lst (N.map V.str))) H' ∧ ∃ ps : List Addr, H' D = some (.lst (ps.map V.ref)) ∧ Paired (fun p x => H' p = some (.tup [.str x, .int 0])) ps (N.take i))
    ⟨same_upd' nD, [], upd_same, by rw [List.take_zero]; exact .nil⟩ (fun i H' _ h => h.1.seq (.inl (.inl upd_same))) ?_ ?_
  · rintro i x H' hi ⟨sm, ps, hD, hp⟩
    obtain ⟨y, hy, rfl⟩ : ∃ y, N[i]? = some y ∧ V.str y = x := by
      rw [List.getElem?_map] at hi
      cases e : N[i]? with
      | none => rw [e] at hi; cases hi
      | some y => rw [e] at hi; exact ⟨y, rfl, Option.some.inj hi⟩
    refine ⟨rfl, ?_⟩
    refine ⟨_, rfl, (by show 2 ≤ sizeLine; decide), fun p np => ?_⟩
    have hD' := same_upd' (o := .tup [V.str y, V.int 0]) np _ _ hD
    refine ⟨_, hD', ?_, ?_⟩
    · rw [List.length_map, Paired.length hp, List.length_take]
      exact Nat.lt_of_le_of_lt (Nat.min_le_right _ _) (small1000 (by omega))
    · refine ⟨same_of (sm.trans (same_upd' np)) nD, ps ++ [p], by rw [upd_same, List.map_append]; rfl, ?_⟩
      rw [List.take_add_one, hy]
      refine paired_snoc ?_ (paired_mono (fun q z e => ?_) hp)
      · rw [upd_ne (ne_of upd_same hD' (by intro q; cases q))]
        exact upd_same
      · have e' := same_upd' (o := .tup [V.str y, V.int 0]) np _ _ e
        rw [upd_ne (ne_of e' hD' (by intro q; cases q))]
        exact e'
  · rintro Hc ⟨sm, ps, hD, hp⟩
    rw [List.length_map, List.take_length] at hp
    have smc : Same H Hc := sm0.trans sm
    refine ⟨D, ps, nmK (N.map fun y => (y, (0 : Int))), rfl, SqL.of hD, ?_, fun td ntd => ?_⟩
    · have conv : ∀ {ps : List Addr} {ys : List Str}, Paired (fun p x => Hc p = some (.tup [.str x, .int 0])) ps ys → Paired (fun p (kv : Key × V) => SqT K Hc p [kV kv.1, kv.2]) ps (nmK (ys.map fun y => (y, (0 : Int)))) := by
        intro ps ys h
        induction h with
        | nil => exact .nil
        | cons h _ ih => exact .cons (SqT.of h) ih
      exact conv hp
    have em : mergeK [] (nmK (N.map fun y => (y, (0 : Int)))) = nmK (toldN N []) := by
      have q1 := merge_nodup (N.map fun y => (y, (0 : Int))) [] (by rw [List.nil_append, List.map_map, show ((fun x : Str × Int => x.1) ∘ fun y : Str => (y, (0 : Int))) = id from rfl, List.map_id]; exact hNn)
      exact q1
    rw [em]
    refine ⟨_, rfl, td, _, rfl, .inl upd_same, fun lf nlf => ?_⟩
    have el : ((nmK (toldN N [])).map fun kv => kV kv.1) = N.map V.str := by
      unfold nmK toldN
      rw [List.map_map, List.map_map]
      rfl
    rw [el]
    refine ⟨Nat.zero_le _, fun rr nrr => ?_⟩
    have ntl : td ≠ lf := ne_of_none upd_same nlf
    have nlf' : Hc lf = none := by
      rw [upd_ne ntl.symm] at nlf
      exact nlf
    have nrl : lf ≠ rr := ne_of_none upd_same nrr
    have nrr1 := nrr
    rw [upd_ne nrl.symm] at nrr1
    have ntr : td ≠ rr := ne_of_none upd_same nrr1
    rw [upd_ne ntr.symm] at nrr1
    have R0 : RH H Hc (upd (upd (upd Hc td (.dK (nmK (toldN N [])))) lf (.lst (N.map V.str))) rr (.lst [])) rr td lf (toldN N []) N [] [] :=
      { b := smc, g := same_of (same_of (same_of (Same.refl _) ntd) nlf') nrr1, g1 := nrr1, g2 := ntd, g3 := nlf', h1 := upd_same,
        h2 := by rw [upd_ne ntr, upd_ne ntl]; exact upd_same
        h3 := by rw [upd_ne nrl]; exact upd_same
        ne := nrl.symm, ra := .nil }
    refine ⟨_, rfl, a, _, _, _, rfl, rfl, SqL.of (R0.base _ _ hA), e1, _, _, rfl, rfl, (by show (0 : Int) < 40; decide), _, rfl, by omega, by omega, ?_⟩
    refine for_range (lo := 0) (n := (d1 % 40).toNat) (fun i σ H' => ∃ (G : Hp) (us : List V) (rows : List (Str × List Wd)) (s : Sh) (left : List Str) (y2 y7 y8 y9 y10 y11 y12 y13 : Option V),
        σ = [some (.ref a), some (.ref b), y2, some (.ref td), some (.ref lf), some (.ref rr), some (.int (s.words.length : Int)), y7, y8, y9, y10, y11, y12, y13] ∧ RH H G H' rr td lf (toldN N s.names) left us rows ∧ JJ N rows left s ∧ rows.length ≤ i)
      ⟨Hc, [], [], sh0, N, _, none, none, none, none, none, none, none, rfl, R0, JJ.start N, Nat.le_refl _⟩ ?_ ?_
    · rintro i σ H1 hi ⟨G, us, rows, s, left, y2, y7, y8, y9, y10, y11, y12, y13, rfl, R, J, hrl⟩
      have hr39 : rows.length < 40 := by omega
      have hlw := J.lw
      have hleft : ∀ x ∈ left, isNm x = true := fun x hx => hNm x (by rw [← J.nm]; exact List.mem_append_right _ hx)
      have hleft6 : left.length ≤ 6 := by
        have := congrArg List.length J.nm
        rw [List.length_append] at this
        omega
      obtain ⟨dW, eW, bW⟩ := atD hl hd (j := (3 * (0 + (i : Int)) + 2) % 60) (by omega) (by omega)
      obtain ⟨dM, eM, bM⟩ := atD hl hd (j := (3 * (0 + (i : Int)) + 4) % 60) (by omega) (by omega)
      refine ⟨_, rfl, _, rfl, _, _, rfl, rfl, .inl ⟨by decide, by decide⟩, _, _, rfl, rfl, _, _, rfl, rfl, (by show (0 : Int) < 60; decide), a, _, _, _, rfl, rfl, SqL.of (R.base _ _ hA), eW, _, _, rfl, rfl, (by show (0 : Int) < 9; decide), ?_⟩
      refine ⟨_, rfl, _, _, rfl, rfl, _, rfl, ifB (fun _ => ?_) (fun _ => ?_)⟩
      · refine ⟨_, rfl, Nat.zero_le _, fun q0 nq0 => ?_⟩
        have R0' := R.alloc (.lst []) nq0
        refine ⟨_, _, .lst (SqL.of R0'.h3) (dp_strs left), .lst (.inl (.inl upd_same)) .nil, shaped_strs hleft, shaped_strs (xs := []) (fun _ h => by cases h), _, rfl, ifN (fun hne => ?_) (fun _ => ?_)⟩
        · obtain ⟨x, left', rfl⟩ : ∃ x l, left = x :: l := by
            cases left with
            | nil => exact absurd hne (by decide)
            | cons x l => exact ⟨x, l, rfl⟩
          obtain ⟨hn, hxN, J3⟩ := J.name hNn (hleft x List.mem_cons_self)
          have n8 := (nm_low (hleft x List.mem_cons_self)).2.2
          refine ⟨_, rfl, .inl ⟨rfl, _, SqL.of R0'.h3⟩, lf, _, 0, 0, .str x, rfl, rfl, R0'.h3, by decide, by decide, (seqIndex_of (by decide) (by rw [List.length_map, List.length_cons]; omega)), rfl, ?_⟩
          have R1 := R0'.setL left'
          refine ⟨_, rfl, _, rfl, _, rfl, td, _, rfl, DPut.k (k := Sum.inr x) R1.h2 (by rw [nmK_len]; unfold toldN; rw [List.length_map]; exact small1000 (by omega)), ?_⟩
          rw [toldN_put hxN hn]
          have R2 := R1.setT (toldN N (s.names ++ [(x, (s.words.length : Int))]))
          refine ⟨_, rfl, .inl ⟨rfl, _, SqL.of R2.h1⟩, _, rfl, _, _, rfl, rfl, ?_, Nat.zero_le _, fun z1 nz1 => ?_⟩
          · rw [len_tl x]
            have : ((":" : Str)).length = 1 := rfl
            exact fits_small (by omega)
          rw [plus_col]
          have R3 := R2.alloc (.lst []) nz1
          refine ⟨(by show 2 ≤ sizeLine; decide), fun z2 nz2 => ?_⟩
          have R4 := R3.alloc (.tup [V.str (sS (tl x ++ [58])), V.ref z1]) nz2
          refine ⟨rr, us, _, rfl, rfl, R4.h1, (by rw [R4.len]; exact small1000 (by omega)), ?_⟩
          have R5 := R4.add (v := .ref z2) (r := (sS (tl x ++ [58]), [])) ⟨z2, z1, [], rfl, upd_same, same_upd' (R3.g.free nz2) _ _ upd_same, Nat.zero_le _, .nil⟩
          exact ⟨_, _, _, { s with names := s.names ++ [(x, (s.words.length : Int))] }, left', _, _, _, _, _, _, _, _, rfl, R5, J3, by rw [List.length_append]; show rows.length + 1 ≤ i + 1; omega⟩
        · have RR := R0'
          -- else: way = 2
          refine ⟨_, rfl, rfl, _, rfl, ite2 (fun _ => ?_) (fun _ => ?_)⟩
          · refine ⟨_, rfl, _, rfl, _, _, rfl, rfl, .inl ⟨by decide, by decide⟩, _, _, rfl, rfl, _, _, rfl, rfl, (by show (0 : Int) < 60; decide), a, _, _, _, rfl, rfl, SqL.of (RR.base _ _ hA), eM, _, _, rfl, rfl, (by show (0 : Int) < 7; decide), ?_⟩
            obtain ⟨m, em⟩ : ∃ m : Nat, dM % 7 = (m : Int) := ⟨_, (Int.toNat_of_nonneg (Int.emod_nonneg _ (by decide))).symm⟩
            have hm : m ≤ 7 := by omega
            dsimp only
            rw [em]
            have ea : ((s.words.length : Int) + (m : Int)) = ((s.words.length + m : Nat) : Int) := by omega
            have h5 := numL5 (n := s.words.length + m) (by omega)
            refine ⟨_, rfl, .inl ⟨rfl, _, SqL.of RR.h1⟩, _, rfl, _, rfl, _, _, rfl, rfl, _, rfl, (by rw [ea]; exact num_small (by omega)), _, _, rfl, rfl, ?_, (by show 1 ≤ sizeLine; decide), fun z1 nz1 => ?_⟩
            · rw [ea, len_tl (((toString ((s.words.length + m : Nat) : Int) : String) : Str)), tl_num]
              have : (("at " : Str)).length = 3 := rfl
              exact fits_small (by omega)
            rw [ea, at_plus]
            have R1 := RR.alloc (.lst [V.int 65535]) nz1
            refine ⟨_, rfl, z1, (m : Int), [V.int 65535], rfl, rfl, upd_same, by omega, by omega, (by show 1 * ((m : Int)).toNat ≤ sizeLine; exact fits_small (by omega)), fun z2 nz2 => ?_⟩
            have e3 : ((m : Int)).toNat = m := rfl
            rw [e3, rep_flat]
            have R2 := R1.alloc (.lst (List.replicate m (V.int 65535))) nz2
            refine ⟨(by show 2 ≤ sizeLine; decide), fun z3 nz3 => ?_⟩
            have R3 := R2.alloc (.tup [V.str (sS (atL ++ 32 :: numL (s.words.length + m))), V.ref z2]) nz3
            refine ⟨rr, us, _, rfl, rfl, R3.h1, (by rw [R3.len]; exact small1000 (by omega)), ?_⟩
            have J3 := J.lay (t := sS (atL ++ 32 :: numL (s.words.length + m))) (w := 65535) (m := m) (take_at (by omega)) hm (fun h => by
              rw [tl_sS] at h
              rcases List.mem_append.mp h with z | z
              · exact absurd z (by decide)
              · rcases List.mem_cons.mp z with z | z
                · exact absurd z (by decide)
                · exact numL_nolf _ z) (by
              rw [tl_sS, List.length_append, List.length_cons]
              show 2 + _ ≤ 20
              omega)
            have R4 := R3.add (v := .ref z3) (r := (sS (atL ++ 32 :: numL (s.words.length + m)), List.replicate m (Wd.pl 65535))) ⟨z3, z2, List.replicate m (V.int 65535), rfl, upd_same, same_upd' (R2.g.free nz3) _ _ upd_same, by rw [List.length_replicate]; omega, paired_rep _ _⟩
            refine ⟨_, rfl, _, rfl, _, _, rfl, rfl, ?_⟩
            have ew : ((s.words.length : Int) + (m : Int)) = (((s.words ++ List.replicate m (65535 : Int)).length : Nat) : Int) := by
              rw [List.length_append, List.length_replicate]
              omega
            dsimp only
            rw [ew]
            exact ⟨_, _, _, { s with words := s.words ++ List.replicate m 65535 }, left, _, _, _, _, _, _, _, _, rfl, R4, J3, by rw [List.length_append]; show rows.length + 1 ≤ i + 1; omega⟩
          -- way = 3
          refine ⟨_, rfl, rfl, _, rfl, ite2 (fun _ => ?_) (fun _ => ?_)⟩
          · refine ⟨_, rfl, _, rfl, _, _, rfl, rfl, .inl ⟨by decide, by decide⟩, _, _, rfl, rfl, _, _, rfl, rfl, (by show (0 : Int) < 60; decide), a, _, _, _, rfl, rfl, SqL.of (RR.base _ _ hA), eM, _, _, rfl, rfl, (by show (0 : Int) < 4; decide), ?_⟩
            obtain ⟨m, em⟩ : ∃ m : Nat, dM % 4 = (m : Int) := ⟨_, (Int.toNat_of_nonneg (Int.emod_nonneg _ (by decide))).symm⟩
            have hm : m ≤ 7 := by omega
            dsimp only
            rw [em]
            have h5 := numL5 (n := m) (by omega)
            refine ⟨_, rfl, .inl ⟨rfl, _, SqL.of RR.h1⟩, _, rfl, _, rfl, num_small (by omega), _, _, rfl, rfl, ?_, (by show 1 ≤ sizeLine; decide), fun z1 nz1 => ?_⟩
            · rw [len_tl (((toString (m : Int) : String) : Str)), tl_num]
              have : (("keep " : Str)).length = 5 := rfl
              exact fits_small (by omega)
            rw [keep_plus]
            have R1 := RR.alloc (.lst [V.int 0]) nz1
            refine ⟨_, rfl, z1, (m : Int), [V.int 0], rfl, rfl, upd_same, by omega, by omega, (by show 1 * ((m : Int)).toNat ≤ sizeLine; exact fits_small (by omega)), fun z2 nz2 => ?_⟩
            have e3 : ((m : Int)).toNat = m := rfl
            rw [e3, rep_flat]
            have R2 := R1.alloc (.lst (List.replicate m (V.int 0))) nz2
            refine ⟨(by show 2 ≤ sizeLine; decide), fun z3 nz3 => ?_⟩
            have R3 := R2.alloc (.tup [V.str (sS (keepL ++ 32 :: numL m)), V.ref z2]) nz3
            refine ⟨rr, us, _, rfl, rfl, R3.h1, (by rw [R3.len]; exact small1000 (by omega)), ?_⟩
            have J3 := J.lay (t := sS (keepL ++ 32 :: numL m)) (w := 0) (m := m) (take_keep (by omega)) hm (fun h => by
              rw [tl_sS] at h
              rcases List.mem_append.mp h with z | z
              · exact absurd z (by decide)
              · rcases List.mem_cons.mp z with z | z
                · exact absurd z (by decide)
                · exact numL_nolf _ z) (by
              rw [tl_sS, List.length_append, List.length_cons]
              show 4 + _ ≤ 20
              omega)
            have R4 := R3.add (v := .ref z3) (r := (sS (keepL ++ 32 :: numL m), List.replicate m (Wd.pl 0))) ⟨z3, z2, List.replicate m (V.int 0), rfl, upd_same, same_upd' (R2.g.free nz3) _ _ upd_same, by rw [List.length_replicate]; omega, paired_rep _ _⟩
            refine ⟨_, rfl, _, rfl, _, _, rfl, rfl, ?_⟩
            have ew : ((s.words.length : Int) + (m : Int)) = (((s.words ++ List.replicate m (0 : Int)).length : Nat) : Int) := by
              rw [List.length_append, List.length_replicate]
              omega
            dsimp only
            rw [ew]
            exact ⟨_, _, _, { s with words := s.words ++ List.replicate m 0 }, left, _, _, _, _, _, _, _, _, rfl, R4, J3, by rw [List.length_append]; show rows.length + 1 ≤ i + 1; omega⟩
          -- way = 4
          refine ⟨_, rfl, rfl, _, rfl, ite2 (fun _ => ?_) (fun _ => ?_)⟩
          · refine ⟨_, rfl, .inl ⟨rfl, _, SqL.of RR.h1⟩, Nat.zero_le _, fun z1 nz1 => ?_⟩
            have R1 := RR.alloc (.lst []) nz1
            refine ⟨(by show 2 ≤ sizeLine; decide), fun z3 nz3 => ?_⟩
            have ee : ("" : Str) = sS [] := by decide +kernel
            rw [ee] at *
            have R3 := R1.alloc (.tup [V.str (sS []), V.ref z1]) nz3
            refine ⟨rr, us, _, rfl, rfl, R3.h1, (by rw [R3.len]; exact small1000 (by omega)), ?_⟩
            have R4 := R3.add (v := .ref z3) (r := (sS [], [])) ⟨z3, z1, [], rfl, upd_same, same_upd' (R1.g.free nz3) _ _ upd_same, Nat.zero_le _, .nil⟩
            exact ⟨_, _, _, s, left, _, _, _, _, _, _, _, _, rfl, R4, J.skip, by rw [List.length_append]; show rows.length + 1 ≤ i + 1; omega⟩
          -- an op
          have hLn : (toldN N s.names).map (·.1) = N := by
            unfold toldN
            rw [List.map_map]
            exact List.map_id _
          have hTl : (toldN N s.names).length = N.length := by
            unfold toldN
            rw [List.length_map]
          refine ⟨_, rfl, _, rfl, a, a, _, _, rfl, rfl, RR.base _ _ hA, RR.base _ _ hA, (by rw [List.length_map, hl]; decide), fun p1 np1 => ?_⟩
          have R1 := RR.alloc (.lst (ds.map V.int ++ ds.map V.int)) np1
          refine ⟨_, rfl, _, _, rfl, rfl, .inl ⟨by decide, by decide⟩, _, _, rfl, rfl, _, _, rfl, rfl, (by show (0 : Int) < 60; decide), _, rfl, _, rfl, ?_⟩
          refine ⟨p1, b, td, _, ds ++ ds, toldN N s.names, rfl, .inl (.inl (by rw [List.map_append]; exact upd_same)), (by rw [List.length_append, hl]), (fun z hz => by
            rcases List.mem_append.mp hz with m | m
            · exact hd z m
            · exact hd z m), (by omega), (by omega), R1.h2, (fun e => by
            have := congrArg List.length e
            rw [hTl] at this
            have h1 := hNl.1
            rw [this] at h1
            exact absurd h1 (by decide)), (by rw [hTl]; omega), fun H2 tp v l smp ntp htp hpart => ?_⟩
          have R2 := R1.same smp
          refine ⟨tp, _, rfl, SqT.of htp, rfl, _, _, rfl, _, _, rfl, rfl, ?_⟩
          refine ⟨(by show 2 ≤ sizeLine; decide), fun t1 n1 => ?_⟩
          have Q1 := R2.alloc (.tup [V.str "lit", V.int 1]) n1
          refine ⟨(by show 2 ≤ sizeLine; decide), fun t2 n2 => ?_⟩
          have Q2 := Q1.alloc (.tup [V.str "get", V.int 2]) n2
          refine ⟨(by show 2 ≤ sizeLine; decide), fun t3 n3 => ?_⟩
          have Q3 := Q2.alloc (.tup [V.str "go", V.int 12]) n3
          refine ⟨(by show 2 ≤ sizeLine; decide), fun t4 n4 => ?_⟩
          have Q4 := Q3.alloc (.tup [V.str "call", V.int 15]) n4
          refine ⟨(by show 2 ≤ sizeLine; decide), fun t5 n5 => ?_⟩
          have Q5 := Q4.alloc (.tup [V.str "let", V.int 20]) n5
          refine ⟨(by show 2 ≤ sizeLine; decide), fun t6 n6 => ?_⟩
          have Q6 := Q5.alloc (.tup [V.str "word", V.int 0]) n6
          refine ⟨(by show 2 ≤ sizeLine; decide), fun t7 n7 => ?_⟩
          have Q7 := Q6.alloc (.tup [V.str "ifz", V.int 13]) n7
          refine ⟨(by show 7 ≤ sizeLine; decide), fun ls nls => ?_⟩
          have Q8 := Q7.alloc (.lst [V.ref t1, V.ref t2, V.ref t3, V.ref t4, V.ref t5, V.ref t6, V.ref t7]) nls
          obtain ⟨dO, eO, bO⟩ := atD hl hd (j := (0 + (i : Int)) % 60) (by omega) (by omega)
          obtain ⟨tt, pp, hpp, eT, htt⟩ : ∃ (tt : Addr) (pp : Str × Nat), pp ∈ opsL ∧ atI [V.ref t1, V.ref t2, V.ref t3, V.ref t4, V.ref t5, V.ref t6, V.ref t7] (dO % 7) = some (.ref tt) ∧ (upd (upd (upd (upd (upd (upd (upd (upd (H2) t1 (.tup [V.str "lit", V.int 1])) t2 (.tup [V.str "get", V.int 2])) t3 (.tup [V.str "go", V.int 12])) t4 (.tup [V.str "call", V.int 15])) t5 (.tup [V.str "let", V.int 20])) t6 (.tup [V.str "word", V.int 0])) t7 (.tup [V.str "ifz", V.int 13])) ls (.lst [V.ref t1, V.ref t2, V.ref t3, V.ref t4, V.ref t5, V.ref t6, V.ref t7])) tt = some (.tup [V.str pp.1, V.int (pp.2 : Int)]) := by
            have h7 : dO % 7 = 0 ∨ dO % 7 = 1 ∨ dO % 7 = 2 ∨ dO % 7 = 3 ∨ dO % 7 = 4 ∨ dO % 7 = 5 ∨ dO % 7 = 6 := by omega
            rcases h7 with h | h | h | h | h | h | h
            · rw [h]
              exact ⟨t1, ("lit", 1), by decide +kernel, atI_nat (j := 0) rfl, same_upd' nls _ _ (same_upd' n7 _ _ (same_upd' n6 _ _ (same_upd' n5 _ _ (same_upd' n4 _ _ (same_upd' n3 _ _ (same_upd' n2 _ _ (upd_same)))))))⟩
            · rw [h]
              exact ⟨t2, ("get", 2), by decide +kernel, atI_nat (j := 1) rfl, same_upd' nls _ _ (same_upd' n7 _ _ (same_upd' n6 _ _ (same_upd' n5 _ _ (same_upd' n4 _ _ (same_upd' n3 _ _ (upd_same))))))⟩
            · rw [h]
              exact ⟨t3, ("go", 12), by decide +kernel, atI_nat (j := 2) rfl, same_upd' nls _ _ (same_upd' n7 _ _ (same_upd' n6 _ _ (same_upd' n5 _ _ (same_upd' n4 _ _ (upd_same)))))⟩
            · rw [h]
              exact ⟨t4, ("call", 15), by decide +kernel, atI_nat (j := 3) rfl, same_upd' nls _ _ (same_upd' n7 _ _ (same_upd' n6 _ _ (same_upd' n5 _ _ (upd_same))))⟩
            · rw [h]
              exact ⟨t5, ("let", 20), by decide +kernel, atI_nat (j := 4) rfl, same_upd' nls _ _ (same_upd' n7 _ _ (same_upd' n6 _ _ (upd_same)))⟩
            · rw [h]
              exact ⟨t6, ("word", 0), by decide +kernel, atI_nat (j := 5) rfl, same_upd' nls _ _ (same_upd' n7 _ _ (upd_same))⟩
            · rw [h]
              exact ⟨t7, ("ifz", 13), by decide +kernel, atI_nat (j := 6) rfl, same_upd' nls _ _ (upd_same)⟩
          have op4 := (op_parts hpp).2.2.2
          refine ⟨_, rfl, _, rfl, _, rfl, _, _, rfl, rfl, (by show (0 : Int) < 60; decide), a, _, _, _, rfl, rfl, SqL.of (Q8.base _ _ hA), eO, _, _, rfl, rfl, (by show (0 : Int) < 7; decide), ls, _, _, _, rfl, rfl, .inl (.inl upd_same), eT, ?_⟩
          refine ⟨_, rfl, .inl ⟨rfl, _, SqL.of Q8.h1⟩, ?_⟩
          have l20 : l.length ≤ 10 := by
            rcases hpart with ⟨x, hx, _, e⟩ | ⟨n, hn, _, e⟩
            · rw [e]
              rw [hLn] at hx
              have := (nm_low (hNm x hx)).2.2
              omega
            · rw [e]
              have := numL5 (n := n) (by omega)
              omega
          refine ⟨_, rfl, tt, _, 0, .str pp.1, rfl, rfl, SqT.of htt, atI_nat (j := 0) rfl, _, _, rfl, rfl, ?_, _, rfl, _, _, rfl, rfl, ?_, ?_⟩
          · rw [len_tl pp.1]
            have : ((" " : Str)).length = 1 := rfl
            exact fits_small (by omega)
          · rw [Str.length_append, len_tl pp.1, len_sS]
            have : ((" " : Str)).length = 1 := rfl
            exact fits_small (by omega)
          rw [op_plus]
          refine ⟨_, rfl, tt, _, 1, .int (pp.2 : Int), rfl, rfl, SqT.of htt, atI_nat (j := 1) rfl, _, rfl, (by show 2 ≤ sizeLine; decide), fun u1 nu1 => ?_⟩
          have W1 := Q8.alloc (.tup [V.int (pp.2 : Int), v]) nu1
          refine ⟨(by show 1 ≤ sizeLine; decide), fun u2 nu2 => ?_⟩
          have W2 := W1.alloc (.lst [V.ref u1]) nu2
          refine ⟨(by show 2 ≤ sizeLine; decide), fun u3 nu3 => ?_⟩
          have W3 := W2.alloc (.tup [V.str (sS (tl pp.1 ++ 32 :: l)), V.ref u2]) nu3
          refine ⟨rr, us, _, rfl, rfl, W3.h1, (by rw [W3.len]; exact small1000 (by omega)), ?_⟩
          have g1 := same_upd' (o := .tup [V.str (sS (tl pp.1 ++ 32 :: l)), V.ref u2]) (W2.g.free nu3) _ _ (same_upd' (o := .lst [V.ref u1]) (W1.g.free nu2) _ _ (upd_same (a := u1) (o := .tup [V.int (pp.2 : Int), v])))
          have g2 := same_upd' (o := .tup [V.str (sS (tl pp.1 ++ 32 :: l)), V.ref u2]) (W2.g.free nu3) _ _ (upd_same (a := u2) (o := .lst [V.ref u1]))
          rcases hpart with ⟨x, hx, rfl, rfl⟩ | ⟨n, hn, rfl, rfl⟩
          · rw [hLn] at hx
            have R9 := W3.add (v := .ref u3) (r := (sS (tl pp.1 ++ 32 :: tl x), [Wd.na (pp.2 : Int) x])) ⟨u3, u2, [V.ref u1], rfl, upd_same, g2, (by show 1 ≤ 100; decide), .cons ⟨u1, rfl, g1⟩ .nil⟩
            have J9 := J.nam hpp (hNm x hx) hx (by omega)
            refine ⟨_, rfl, _, _, rfl, rfl, ?_⟩
            have ew : ((s.words.length : Int) + 1) = (((s.words ++ [1024 * (pp.2 : Int)]).length : Nat) : Int) := by
              rw [List.length_append, List.length_singleton]
              omega
            dsimp only
            rw [ew]
            exact ⟨_, _, _, { s with words := s.words ++ [1024 * (pp.2 : Int)], uses := s.uses ++ [(0 + (rows.length : Int), (s.words.length : Int), x)] }, left, _, _, _, _, _, _, _, _, rfl, R9, J9, by rw [List.length_append]; show rows.length + 1 ≤ i + 1; omega⟩
          · have R9 := W3.add (v := .ref u3) (r := (sS (tl pp.1 ++ 32 :: numL n), [Wd.nu (pp.2 : Int) (n : Int)])) ⟨u3, u2, [V.ref u1], rfl, upd_same, g2, (by show 1 ≤ 100; decide), .cons ⟨u1, rfl, g1⟩ .nil⟩
            have J9 := J.num hpp hn (by omega)
            refine ⟨_, rfl, _, _, rfl, rfl, ?_⟩
            have ew : ((s.words.length : Int) + 1) = (((s.words ++ [1024 * (pp.2 : Int) + (n : Int)]).length : Nat) : Int) := by
              rw [List.length_append, List.length_singleton]
              omega
            dsimp only
            rw [ew]
            exact ⟨_, _, _, { s with words := s.words ++ [1024 * (pp.2 : Int) + (n : Int)] }, left, _, _, _, _, _, _, _, _, rfl, R9, J9, by rw [List.length_append]; show rows.length + 1 ≤ i + 1; omega⟩
      · have RR := R
        -- else: way = 2
        refine ⟨_, rfl, rfl, _, rfl, ite2 (fun _ => ?_) (fun _ => ?_)⟩
        · refine ⟨_, rfl, _, rfl, _, _, rfl, rfl, .inl ⟨by decide, by decide⟩, _, _, rfl, rfl, _, _, rfl, rfl, (by show (0 : Int) < 60; decide), a, _, _, _, rfl, rfl, SqL.of (RR.base _ _ hA), eM, _, _, rfl, rfl, (by show (0 : Int) < 7; decide), ?_⟩
          obtain ⟨m, em⟩ : ∃ m : Nat, dM % 7 = (m : Int) := ⟨_, (Int.toNat_of_nonneg (Int.emod_nonneg _ (by decide))).symm⟩
          have hm : m ≤ 7 := by omega
          dsimp only
          rw [em]
          have ea : ((s.words.length : Int) + (m : Int)) = ((s.words.length + m : Nat) : Int) := by omega
          have h5 := numL5 (n := s.words.length + m) (by omega)
          refine ⟨_, rfl, .inl ⟨rfl, _, SqL.of RR.h1⟩, _, rfl, _, rfl, _, _, rfl, rfl, _, rfl, (by rw [ea]; exact num_small (by omega)), _, _, rfl, rfl, ?_, (by show 1 ≤ sizeLine; decide), fun z1 nz1 => ?_⟩
          · rw [ea, len_tl (((toString ((s.words.length + m : Nat) : Int) : String) : Str)), tl_num]
            have : (("at " : Str)).length = 3 := rfl
            exact fits_small (by omega)
          rw [ea, at_plus]
          have R1 := RR.alloc (.lst [V.int 65535]) nz1
          refine ⟨_, rfl, z1, (m : Int), [V.int 65535], rfl, rfl, upd_same, by omega, by omega, (by show 1 * ((m : Int)).toNat ≤ sizeLine; exact fits_small (by omega)), fun z2 nz2 => ?_⟩
          have e3 : ((m : Int)).toNat = m := rfl
          rw [e3, rep_flat]
          have R2 := R1.alloc (.lst (List.replicate m (V.int 65535))) nz2
          refine ⟨(by show 2 ≤ sizeLine; decide), fun z3 nz3 => ?_⟩
          have R3 := R2.alloc (.tup [V.str (sS (atL ++ 32 :: numL (s.words.length + m))), V.ref z2]) nz3
          refine ⟨rr, us, _, rfl, rfl, R3.h1, (by rw [R3.len]; exact small1000 (by omega)), ?_⟩
          have J3 := J.lay (t := sS (atL ++ 32 :: numL (s.words.length + m))) (w := 65535) (m := m) (take_at (by omega)) hm (fun h => by
            rw [tl_sS] at h
            rcases List.mem_append.mp h with z | z
            · exact absurd z (by decide)
            · rcases List.mem_cons.mp z with z | z
              · exact absurd z (by decide)
              · exact numL_nolf _ z) (by
            rw [tl_sS, List.length_append, List.length_cons]
            show 2 + _ ≤ 20
            omega)
          have R4 := R3.add (v := .ref z3) (r := (sS (atL ++ 32 :: numL (s.words.length + m)), List.replicate m (Wd.pl 65535))) ⟨z3, z2, List.replicate m (V.int 65535), rfl, upd_same, same_upd' (R2.g.free nz3) _ _ upd_same, by rw [List.length_replicate]; omega, paired_rep _ _⟩
          refine ⟨_, rfl, _, rfl, _, _, rfl, rfl, ?_⟩
          have ew : ((s.words.length : Int) + (m : Int)) = (((s.words ++ List.replicate m (65535 : Int)).length : Nat) : Int) := by
            rw [List.length_append, List.length_replicate]
            omega
          dsimp only
          rw [ew]
          exact ⟨_, _, _, { s with words := s.words ++ List.replicate m 65535 }, left, _, _, _, _, _, _, _, _, rfl, R4, J3, by rw [List.length_append]; show rows.length + 1 ≤ i + 1; omega⟩
        -- way = 3
        refine ⟨_, rfl, rfl, _, rfl, ite2 (fun _ => ?_) (fun _ => ?_)⟩
        · refine ⟨_, rfl, _, rfl, _, _, rfl, rfl, .inl ⟨by decide, by decide⟩, _, _, rfl, rfl, _, _, rfl, rfl, (by show (0 : Int) < 60; decide), a, _, _, _, rfl, rfl, SqL.of (RR.base _ _ hA), eM, _, _, rfl, rfl, (by show (0 : Int) < 4; decide), ?_⟩
          obtain ⟨m, em⟩ : ∃ m : Nat, dM % 4 = (m : Int) := ⟨_, (Int.toNat_of_nonneg (Int.emod_nonneg _ (by decide))).symm⟩
          have hm : m ≤ 7 := by omega
          dsimp only
          rw [em]
          have h5 := numL5 (n := m) (by omega)
          refine ⟨_, rfl, .inl ⟨rfl, _, SqL.of RR.h1⟩, _, rfl, _, rfl, num_small (by omega), _, _, rfl, rfl, ?_, (by show 1 ≤ sizeLine; decide), fun z1 nz1 => ?_⟩
          · rw [len_tl (((toString (m : Int) : String) : Str)), tl_num]
            have : (("keep " : Str)).length = 5 := rfl
            exact fits_small (by omega)
          rw [keep_plus]
          have R1 := RR.alloc (.lst [V.int 0]) nz1
          refine ⟨_, rfl, z1, (m : Int), [V.int 0], rfl, rfl, upd_same, by omega, by omega, (by show 1 * ((m : Int)).toNat ≤ sizeLine; exact fits_small (by omega)), fun z2 nz2 => ?_⟩
          have e3 : ((m : Int)).toNat = m := rfl
          rw [e3, rep_flat]
          have R2 := R1.alloc (.lst (List.replicate m (V.int 0))) nz2
          refine ⟨(by show 2 ≤ sizeLine; decide), fun z3 nz3 => ?_⟩
          have R3 := R2.alloc (.tup [V.str (sS (keepL ++ 32 :: numL m)), V.ref z2]) nz3
          refine ⟨rr, us, _, rfl, rfl, R3.h1, (by rw [R3.len]; exact small1000 (by omega)), ?_⟩
          have J3 := J.lay (t := sS (keepL ++ 32 :: numL m)) (w := 0) (m := m) (take_keep (by omega)) hm (fun h => by
            rw [tl_sS] at h
            rcases List.mem_append.mp h with z | z
            · exact absurd z (by decide)
            · rcases List.mem_cons.mp z with z | z
              · exact absurd z (by decide)
              · exact numL_nolf _ z) (by
            rw [tl_sS, List.length_append, List.length_cons]
            show 4 + _ ≤ 20
            omega)
          have R4 := R3.add (v := .ref z3) (r := (sS (keepL ++ 32 :: numL m), List.replicate m (Wd.pl 0))) ⟨z3, z2, List.replicate m (V.int 0), rfl, upd_same, same_upd' (R2.g.free nz3) _ _ upd_same, by rw [List.length_replicate]; omega, paired_rep _ _⟩
          refine ⟨_, rfl, _, rfl, _, _, rfl, rfl, ?_⟩
          have ew : ((s.words.length : Int) + (m : Int)) = (((s.words ++ List.replicate m (0 : Int)).length : Nat) : Int) := by
            rw [List.length_append, List.length_replicate]
            omega
          dsimp only
          rw [ew]
          exact ⟨_, _, _, { s with words := s.words ++ List.replicate m 0 }, left, _, _, _, _, _, _, _, _, rfl, R4, J3, by rw [List.length_append]; show rows.length + 1 ≤ i + 1; omega⟩
        -- way = 4
        refine ⟨_, rfl, rfl, _, rfl, ite2 (fun _ => ?_) (fun _ => ?_)⟩
        · refine ⟨_, rfl, .inl ⟨rfl, _, SqL.of RR.h1⟩, Nat.zero_le _, fun z1 nz1 => ?_⟩
          have R1 := RR.alloc (.lst []) nz1
          refine ⟨(by show 2 ≤ sizeLine; decide), fun z3 nz3 => ?_⟩
          have ee : ("" : Str) = sS [] := by decide +kernel
          rw [ee] at *
          have R3 := R1.alloc (.tup [V.str (sS []), V.ref z1]) nz3
          refine ⟨rr, us, _, rfl, rfl, R3.h1, (by rw [R3.len]; exact small1000 (by omega)), ?_⟩
          have R4 := R3.add (v := .ref z3) (r := (sS [], [])) ⟨z3, z1, [], rfl, upd_same, same_upd' (R1.g.free nz3) _ _ upd_same, Nat.zero_le _, .nil⟩
          exact ⟨_, _, _, s, left, _, _, _, _, _, _, _, _, rfl, R4, J.skip, by rw [List.length_append]; show rows.length + 1 ≤ i + 1; omega⟩
        -- an op
        have hLn : (toldN N s.names).map (·.1) = N := by
          unfold toldN
          rw [List.map_map]
          exact List.map_id _
        have hTl : (toldN N s.names).length = N.length := by
          unfold toldN
          rw [List.length_map]
        refine ⟨_, rfl, _, rfl, a, a, _, _, rfl, rfl, RR.base _ _ hA, RR.base _ _ hA, (by rw [List.length_map, hl]; decide), fun p1 np1 => ?_⟩
        have R1 := RR.alloc (.lst (ds.map V.int ++ ds.map V.int)) np1
        refine ⟨_, rfl, _, _, rfl, rfl, .inl ⟨by decide, by decide⟩, _, _, rfl, rfl, _, _, rfl, rfl, (by show (0 : Int) < 60; decide), _, rfl, _, rfl, ?_⟩
        refine ⟨p1, b, td, _, ds ++ ds, toldN N s.names, rfl, .inl (.inl (by rw [List.map_append]; exact upd_same)), (by rw [List.length_append, hl]), (fun z hz => by
          rcases List.mem_append.mp hz with m | m
          · exact hd z m
          · exact hd z m), (by omega), (by omega), R1.h2, (fun e => by
          have := congrArg List.length e
          rw [hTl] at this
          have h1 := hNl.1
          rw [this] at h1
          exact absurd h1 (by decide)), (by rw [hTl]; omega), fun H2 tp v l smp ntp htp hpart => ?_⟩
        have R2 := R1.same smp
        refine ⟨tp, _, rfl, SqT.of htp, rfl, _, _, rfl, _, _, rfl, rfl, ?_⟩
        refine ⟨(by show 2 ≤ sizeLine; decide), fun t1 n1 => ?_⟩
        have Q1 := R2.alloc (.tup [V.str "lit", V.int 1]) n1
        refine ⟨(by show 2 ≤ sizeLine; decide), fun t2 n2 => ?_⟩
        have Q2 := Q1.alloc (.tup [V.str "get", V.int 2]) n2
        refine ⟨(by show 2 ≤ sizeLine; decide), fun t3 n3 => ?_⟩
        have Q3 := Q2.alloc (.tup [V.str "go", V.int 12]) n3
        refine ⟨(by show 2 ≤ sizeLine; decide), fun t4 n4 => ?_⟩
        have Q4 := Q3.alloc (.tup [V.str "call", V.int 15]) n4
        refine ⟨(by show 2 ≤ sizeLine; decide), fun t5 n5 => ?_⟩
        have Q5 := Q4.alloc (.tup [V.str "let", V.int 20]) n5
        refine ⟨(by show 2 ≤ sizeLine; decide), fun t6 n6 => ?_⟩
        have Q6 := Q5.alloc (.tup [V.str "word", V.int 0]) n6
        refine ⟨(by show 2 ≤ sizeLine; decide), fun t7 n7 => ?_⟩
        have Q7 := Q6.alloc (.tup [V.str "ifz", V.int 13]) n7
        refine ⟨(by show 7 ≤ sizeLine; decide), fun ls nls => ?_⟩
        have Q8 := Q7.alloc (.lst [V.ref t1, V.ref t2, V.ref t3, V.ref t4, V.ref t5, V.ref t6, V.ref t7]) nls
        obtain ⟨dO, eO, bO⟩ := atD hl hd (j := (0 + (i : Int)) % 60) (by omega) (by omega)
        obtain ⟨tt, pp, hpp, eT, htt⟩ : ∃ (tt : Addr) (pp : Str × Nat), pp ∈ opsL ∧ atI [V.ref t1, V.ref t2, V.ref t3, V.ref t4, V.ref t5, V.ref t6, V.ref t7] (dO % 7) = some (.ref tt) ∧ (upd (upd (upd (upd (upd (upd (upd (upd (H2) t1 (.tup [V.str "lit", V.int 1])) t2 (.tup [V.str "get", V.int 2])) t3 (.tup [V.str "go", V.int 12])) t4 (.tup [V.str "call", V.int 15])) t5 (.tup [V.str "let", V.int 20])) t6 (.tup [V.str "word", V.int 0])) t7 (.tup [V.str "ifz", V.int 13])) ls (.lst [V.ref t1, V.ref t2, V.ref t3, V.ref t4, V.ref t5, V.ref t6, V.ref t7])) tt = some (.tup [V.str pp.1, V.int (pp.2 : Int)]) := by
          have h7 : dO % 7 = 0 ∨ dO % 7 = 1 ∨ dO % 7 = 2 ∨ dO % 7 = 3 ∨ dO % 7 = 4 ∨ dO % 7 = 5 ∨ dO % 7 = 6 := by omega
          rcases h7 with h | h | h | h | h | h | h
          · rw [h]
            exact ⟨t1, ("lit", 1), by decide +kernel, atI_nat (j := 0) rfl, same_upd' nls _ _ (same_upd' n7 _ _ (same_upd' n6 _ _ (same_upd' n5 _ _ (same_upd' n4 _ _ (same_upd' n3 _ _ (same_upd' n2 _ _ (upd_same)))))))⟩
          · rw [h]
            exact ⟨t2, ("get", 2), by decide +kernel, atI_nat (j := 1) rfl, same_upd' nls _ _ (same_upd' n7 _ _ (same_upd' n6 _ _ (same_upd' n5 _ _ (same_upd' n4 _ _ (same_upd' n3 _ _ (upd_same))))))⟩
          · rw [h]
            exact ⟨t3, ("go", 12), by decide +kernel, atI_nat (j := 2) rfl, same_upd' nls _ _ (same_upd' n7 _ _ (same_upd' n6 _ _ (same_upd' n5 _ _ (same_upd' n4 _ _ (upd_same)))))⟩
          · rw [h]
            exact ⟨t4, ("call", 15), by decide +kernel, atI_nat (j := 3) rfl, same_upd' nls _ _ (same_upd' n7 _ _ (same_upd' n6 _ _ (same_upd' n5 _ _ (upd_same))))⟩
          · rw [h]
            exact ⟨t5, ("let", 20), by decide +kernel, atI_nat (j := 4) rfl, same_upd' nls _ _ (same_upd' n7 _ _ (same_upd' n6 _ _ (upd_same)))⟩
          · rw [h]
            exact ⟨t6, ("word", 0), by decide +kernel, atI_nat (j := 5) rfl, same_upd' nls _ _ (same_upd' n7 _ _ (upd_same))⟩
          · rw [h]
            exact ⟨t7, ("ifz", 13), by decide +kernel, atI_nat (j := 6) rfl, same_upd' nls _ _ (upd_same)⟩
        have op4 := (op_parts hpp).2.2.2
        refine ⟨_, rfl, _, rfl, _, rfl, _, _, rfl, rfl, (by show (0 : Int) < 60; decide), a, _, _, _, rfl, rfl, SqL.of (Q8.base _ _ hA), eO, _, _, rfl, rfl, (by show (0 : Int) < 7; decide), ls, _, _, _, rfl, rfl, .inl (.inl upd_same), eT, ?_⟩
        refine ⟨_, rfl, .inl ⟨rfl, _, SqL.of Q8.h1⟩, ?_⟩
        have l20 : l.length ≤ 10 := by
          rcases hpart with ⟨x, hx, _, e⟩ | ⟨n, hn, _, e⟩
          · rw [e]
            rw [hLn] at hx
            have := (nm_low (hNm x hx)).2.2
            omega
          · rw [e]
            have := numL5 (n := n) (by omega)
            omega
        refine ⟨_, rfl, tt, _, 0, .str pp.1, rfl, rfl, SqT.of htt, atI_nat (j := 0) rfl, _, _, rfl, rfl, ?_, _, rfl, _, _, rfl, rfl, ?_, ?_⟩
        · rw [len_tl pp.1]
          have : ((" " : Str)).length = 1 := rfl
          exact fits_small (by omega)
        · rw [Str.length_append, len_tl pp.1, len_sS]
          have : ((" " : Str)).length = 1 := rfl
          exact fits_small (by omega)
        rw [op_plus]
        refine ⟨_, rfl, tt, _, 1, .int (pp.2 : Int), rfl, rfl, SqT.of htt, atI_nat (j := 1) rfl, _, rfl, (by show 2 ≤ sizeLine; decide), fun u1 nu1 => ?_⟩
        have W1 := Q8.alloc (.tup [V.int (pp.2 : Int), v]) nu1
        refine ⟨(by show 1 ≤ sizeLine; decide), fun u2 nu2 => ?_⟩
        have W2 := W1.alloc (.lst [V.ref u1]) nu2
        refine ⟨(by show 2 ≤ sizeLine; decide), fun u3 nu3 => ?_⟩
        have W3 := W2.alloc (.tup [V.str (sS (tl pp.1 ++ 32 :: l)), V.ref u2]) nu3
        refine ⟨rr, us, _, rfl, rfl, W3.h1, (by rw [W3.len]; exact small1000 (by omega)), ?_⟩
        have g1 := same_upd' (o := .tup [V.str (sS (tl pp.1 ++ 32 :: l)), V.ref u2]) (W2.g.free nu3) _ _ (same_upd' (o := .lst [V.ref u1]) (W1.g.free nu2) _ _ (upd_same (a := u1) (o := .tup [V.int (pp.2 : Int), v])))
        have g2 := same_upd' (o := .tup [V.str (sS (tl pp.1 ++ 32 :: l)), V.ref u2]) (W2.g.free nu3) _ _ (upd_same (a := u2) (o := .lst [V.ref u1]))
        rcases hpart with ⟨x, hx, rfl, rfl⟩ | ⟨n, hn, rfl, rfl⟩
        · rw [hLn] at hx
          have R9 := W3.add (v := .ref u3) (r := (sS (tl pp.1 ++ 32 :: tl x), [Wd.na (pp.2 : Int) x])) ⟨u3, u2, [V.ref u1], rfl, upd_same, g2, (by show 1 ≤ 100; decide), .cons ⟨u1, rfl, g1⟩ .nil⟩
          have J9 := J.nam hpp (hNm x hx) hx (by omega)
          refine ⟨_, rfl, _, _, rfl, rfl, ?_⟩
          have ew : ((s.words.length : Int) + 1) = (((s.words ++ [1024 * (pp.2 : Int)]).length : Nat) : Int) := by
            rw [List.length_append, List.length_singleton]
            omega
          dsimp only
          rw [ew]
          exact ⟨_, _, _, { s with words := s.words ++ [1024 * (pp.2 : Int)], uses := s.uses ++ [(0 + (rows.length : Int), (s.words.length : Int), x)] }, left, _, _, _, _, _, _, _, _, rfl, R9, J9, by rw [List.length_append]; show rows.length + 1 ≤ i + 1; omega⟩
        · have R9 := W3.add (v := .ref u3) (r := (sS (tl pp.1 ++ 32 :: numL n), [Wd.nu (pp.2 : Int) (n : Int)])) ⟨u3, u2, [V.ref u1], rfl, upd_same, g2, (by show 1 ≤ 100; decide), .cons ⟨u1, rfl, g1⟩ .nil⟩
          have J9 := J.num hpp hn (by omega)
          refine ⟨_, rfl, _, _, rfl, rfl, ?_⟩
          have ew : ((s.words.length : Int) + 1) = (((s.words ++ [1024 * (pp.2 : Int) + (n : Int)]).length : Nat) : Int) := by
            rw [List.length_append, List.length_singleton]
            omega
          dsimp only
          rw [ew]
          exact ⟨_, _, _, { s with words := s.words ++ [1024 * (pp.2 : Int) + (n : Int)] }, left, _, _, _, _, _, _, _, _, rfl, R9, J9, by rw [List.length_append]; show rows.length + 1 ≤ i + 1; omega⟩
    · rintro σ H1 ⟨G, us, rows, s, left, y2, y7, y8, y9, y10, y11, y12, y13, rfl, R, J, hrl⟩
      have hleftN : left.length ≤ N.length := by
        have h1 := congrArg List.length J.nm
        rw [List.length_append] at h1
        omega
      refine ⟨_, rfl, lf, rfl, ⟨_, SqL.of R.h3⟩, ?_⟩
      refine for_list (K := K) (a := lf) (xs := left.map V.str) (fun i σ H' => ∃ (G : Hp) (us : List V) (rows : List (Str × List Wd)) (s : Sh) (y2 y7 y8 y9 y10 y11 y12 y13 : Option V),
          σ = [some (.ref a), some (.ref b), y2, some (.ref td), some (.ref lf), some (.ref rr), some (.int (s.words.length : Int)), y7, y8, y9, y10, y11, y12, y13] ∧ RH H G H' rr td lf (toldN N s.names) left us rows ∧ JJ N rows (left.drop i) s ∧ rows.length ≤ 40 + i)
        ⟨G, us, rows, s, _, _, _, _, _, _, _, _, rfl, R, J, by omega⟩ (fun i σ H' _ h => by
          obtain ⟨G, us, rows, s, y2, y7, y8, y9, y10, y11, y12, y13, _, R', _⟩ := h
          exact SqL.of R'.h3) ?_ ?_
      · clear R J
        rintro i v σ H2 hi ⟨G, us, rows, s, y2, y7, y8, y9, y10, y11, y12, y13, rfl, R, J, hrl⟩
        obtain ⟨x, hx, rfl⟩ : ∃ x, left[i]? = some x ∧ V.str x = v := by
          rw [List.getElem?_map] at hi
          cases e : left[i]? with
          | none => rw [e] at hi; cases hi
          | some x => rw [e] at hi; exact ⟨x, rfl, Option.some.inj hi⟩
        have hil : i < left.length := (List.getElem?_eq_some_iff.mp hx).1
        have hdrop : left.drop i = x :: left.drop (i + 1) := by
          rw [List.drop_eq_getElem_cons hil]
          have : left[i] = x := Option.some.inj ((List.getElem?_eq_getElem hil).symm.trans hx)
          rw [this]
        rw [hdrop] at J
        have hxm : isNm x = true := hNm x (by rw [← J.nm]; exact List.mem_append_right _ List.mem_cons_self)
        have hi6 : i < 6 := by
          have h1 := congrArg List.length J.nm
          rw [List.length_append, List.length_cons] at h1
          have h2 : left.length ≤ N.length := hleftN
          omega
        obtain ⟨hn, hxN, J3⟩ := J.name hNn hxm
        have n8 := (nm_low hxm).2.2
        refine ⟨_, rfl, _, rfl, _, rfl, td, _, rfl, DPut.k (k := Sum.inr x) R.h2 (by rw [nmK_len]; unfold toldN; rw [List.length_map]; exact small1000 (by omega)), ?_⟩
        rw [toldN_put hxN hn]
        have R2 := R.setT (toldN N (s.names ++ [(x, (s.words.length : Int))]))
        refine ⟨_, rfl, .inl ⟨rfl, _, SqL.of R2.h1⟩, _, rfl, _, _, rfl, rfl, ?_, Nat.zero_le _, fun z1 nz1 => ?_⟩
        · rw [len_tl x]
          have : ((":" : Str)).length = 1 := rfl
          exact fits_small (by omega)
        rw [plus_col]
        have R3 := R2.alloc (.lst []) nz1
        refine ⟨(by show 2 ≤ sizeLine; decide), fun z2 nz2 => ?_⟩
        have R4 := R3.alloc (.tup [V.str (sS (tl x ++ [58])), V.ref z1]) nz2
        refine ⟨rr, us, _, rfl, rfl, R4.h1, (by rw [R4.len]; exact small1000 (by omega)), ?_⟩
        have R5 := R4.add (v := .ref z2) (r := (sS (tl x ++ [58]), [])) ⟨z2, z1, [], rfl, upd_same, same_upd' (R3.g.free nz2) _ _ upd_same, Nat.zero_le _, .nil⟩
        exact ⟨_, _, _, { s with names := s.names ++ [(x, (s.words.length : Int))] }, _, _, _, _, _, _, _, _, rfl, R5, J3, by rw [List.length_append]; show rows.length + 1 ≤ 40 + (i + 1); omega⟩
      · clear R J
        rintro σ H2 ⟨G, us, rows, s, y2, y7, y8, y9, y10, y11, y12, y13, rfl, R, J, hrl⟩
        rw [List.length_map, List.drop_length] at J
        rw [List.length_map] at hrl
        refine ⟨_, rfl, _, rfl, (by show 2 ≤ sizeLine; decide), fun t nt => ?_⟩
        exact q _ G t rr td lf N left us rows s (R.same (same_upd' nt)) (R.base.free nt) upd_same J hNn (by omega)
end
end Bh

/-! The law of texts with names. -/
namespace Bh
open PySem PySem.Spec PyProof.Rows L2
open TL
theorem valV_inl (n : Int) : ∀ L : List (Str × Int), valV (nmK L) (Sum.inl n) = none
  | [] => rfl
  | (x, m) :: r => by
    have ih := valV_inl n r
    unfold nmK at ih ⊢
    have e1 : ¬ ((Sum.inr x : Key) = Sum.inl n) := fun z => nomatch z
    rw [List.map_cons, valV_neg e1, ih]
def lawN : List Str := ["_law_script", "_law_cells", "_law_cell_here", "_law_row", "_law_rows_here", "_law_told", "_law_image", "_law_text", "_law_words", "_law_word", "_law_turn", "_law_found", "_law_named", "_law_one"]
theorem gtK {X : Cx} {K : PySem.W.Frag} {es : List Expr} {k : Nat} {pos : Pos} {t : TGs} (hK : X.K = K) (hc : X.calm = true) (h : PGs X es t) (hn : (assignEach es X.env).length = 2) (hst : (assignEach es X.env).findIdx? (·.1) = none) : PG X (.Tuple es k pos) (gTup K 2 t) := by
  subst hK
  exact pg_tup hc h hn hst
section
variable {P : Program} {w : World} {K : PySem.W.Frag} {mg : Str → Option Value} {base : Heap} {aN aX C : Addr}
theorem scLaw : FnScope ["_law_script", "_law_cells", "_law_cell_here", "_law_row", "_law_rows_here", "_law_told", "_law_image", "_law_text", "_law_words", "_law_word", "_law_turn", "_law_found", "_law_named", "_law_one"] ["_law_script"] (defScope sLaw) := ⟨rfl, rfl, rfl, by decide +kernel, rfl, by decide +kernel, by decide +kernel⟩
theorem ok_law {f fD fN fR fT : Addr} {fd fdD fdN fdR fdT : FuncData} (F : Fun K "law" "law" sLaw f fd) (D : CalF P w K mg base 2 "_law_digits" ["_law_cell_here", "_law_many"] spDig fD fdD)
    (NN : CalF P w K mg base 2 "_law_names" ["_law_row"] (spNames K) fN fdN) (RR : CalF P w K mg base 3 "_law_rows" ["_law_row", "_law_names_here"] (spRows K) fR fdR)
    (Ty : CalF P w K mg base 6 "typed" ["text"] spTyped fT fdT) (gr : mg "range" = none) (gi : mg "isinstance" = none) (gt : mg "tuple" = none) : FnOk P w K mg base CX0 7 f fd ["_law_script"] (spLaw K) := by
  refine F.ok scLaw (fun vs H Q E h => by obtain ⟨a, ns, rfl, _⟩ := h; rfl) (fun cdv A outer s H vs Q E hr h => ?_)
  obtain ⟨a, ns, rfl, hS, hlen, k⟩ := h
  have hr1 : Room 2 _ := hr.mono (by decide)
  have hr2 : Room 3 _ := hr.mono (by decide)
  have hu := hr.units
  have hu1 := hu_of hr
  have hu0 := hr.units0
  refine ⟨_, pss_cons (ps_set (i := 1) scLaw.nd rfl (.inl rfl) (pe_slice sl_list (pv 0) po_none (po_some pe_int)))
    (pss_cons (ps_if (pt_cmpR (op_eqD hu) (pv 1) (pe_lst pa_nil) (nomark _)) (pss_one (ps_set (i := 1) scLaw.nd rfl (.inl rfl) (pe_lst (pa_cons pe_int (pa_cons pe_int pa_nil))))) pss_nil)
    (pss_cons (ps_for PassesOwn.never rfl (pi_list (pv 1)) (pg_name (i := 2) scLaw.nd rfl (.inl rfl))
      (pss_cons (ps_set (i := 3) scLaw.nd rfl (.inl rfl) (pe_call D.G hr1 (by rfl) D.g D.kp D.b .nil pass0 (pa_cons (pv 2) (pa_cons pe_int pa_nil))))
      (pss_cons (ps_asg (pe_call RR.G hr2 (by rfl) RR.g RR.kp RR.b .nil pass0 (pa_cons (pv 3) (pa_cons (pe_call NN.G hr1 (by rfl) NN.g NN.kp NN.b .nil pass0 (pa_cons (pv 3) pa_nil)) pa_nil))) (pg_tup rfl (pgs_cons (pg_name (i := 4) scLaw.nd rfl (.inl rfl)) (pgs_cons (pg_name (i := 5) scLaw.nd rfl (.inl rfl)) pgs_nil))))
      (pss_cons (ps_set (i := 6) scLaw.nd rfl (.inl rfl) (pe_lst pa_nil))
      (pss_cons (ps_for PassesOwn.never rfl (pi_list (pv 4)) (pg_tup rfl (pgs_cons (pg_name (i := 7) scLaw.nd rfl (.inl rfl)) (pgs_cons (pg_name (i := 8) scLaw.nd rfl (.inl rfl)) pgs_nil)))
        (pss_one (ps_for PassesOwn.never rfl (pi_list (pv 8)) (pg_name (i := 9) scLaw.nd rfl (.inl rfl))
          (pss_cons (ps_if (pt_val (pe_callB call_isi (by rfl) gi (by decide +kernel) (pa_cons (pv 9) (pa_cons (pe_bltn (v := .ty "tuple") (u := .type "tuple") (by rfl) gt (by decide +kernel) rfl) pa_nil))))
            (pss_one (ps_set (i := 9) scLaw.nd rfl (.inl rfl) (pe_op op_add (pe_op op_mul pe_int (pe_ix ix_tup (pv 9) pe_int (fun _ _ => rfl))) (pe_dget2 hu1 (pv 5) (pe_ix ix_tup (pv 9) pe_int (fun _ _ => rfl)) (pe_ix ix_tup (pv 9) pe_int (fun _ _ => rfl)) ⟨rfl, rfl, rfl, rfl⟩)))) pss_nil)
          (pss_one (ps_expr (pe_bm PySem.F.plainAttrs_list PySem.F.slot_list_append PySem.F.type_list_append mt_append (pv 6) (pa_cons (pv 9) pa_nil))))))))
      (pss_cons (ps_set (i := 7) scLaw.nd rfl (.inl rfl) (pe_join pe_str (pe_lc (own := [("_law_one", 13), ("_law_words", 8)]) (g := gTup K 2 (gCons (gName 13) (gCons (gName 8) gNil))) (tt := tYes) (by rfl) scLaw.nd (pi_list (pv 4)) (blkOk_by (own := [("_law_one", 13), ("_law_words", 8)]) (N := lawN) (sc := defScope sLaw) (by decide +kernel))
            (fun _ _ _ _ _ => gtK (by rfl) (by rfl) (pgs_cons (pg_name (i := 13) scLaw.nd rfl (Or.inl rfl)) (pgs_cons (pg_name (i := 8) scLaw.nd rfl (Or.inl rfl)) pgs_nil)) (by rfl) (by rfl)) (fun _ _ _ _ _ => pts_nil) (fun _ _ _ _ _ => pv 13))))
      (pss_one (ps_for PassesOwn.never rfl (pi_range1 (by rfl) gr (pa_cons pe_int pa_nil)) (pg_name (i := 10) scLaw.nd rfl (.inl rfl))
        (pss_cons (ps_asg (pe_call Ty.G hr (by rfl) Ty.g Ty.kp Ty.b .nil pass0 (pa_cons (pv 7) pa_nil)) (pg_tup rfl (pgs_cons (pg_name (i := 11) scLaw.nd rfl (.inl rfl)) (pgs_cons (pg_name (i := 12) scLaw.nd rfl (.inl rfl)) pgs_nil))))
        (pss_cons (ps_if (PW.pt (pw_or (pt_cmpR (op_neD hu) (pv 11) (pv 6) (nomark _)) (pw_or1 (pt_cmpR (op_ne_dictA hu0) (pv 12) (pv 5) (nomark _))))) (pss_one (ps_ret pe_bl)) pss_nil)
        (pss_cons (ps_expr (pe_bm0 PySem.F.plainAttrs_list PySem.F.slot_list_clear PySem.F.type_list_clear mt_clear (pv 11)))
        (pss_one (ps_expr (pe_dclear (pv 12)))))))))))))))
    (pss_one (ps_ret pe_bl)))), ?_⟩
  obtain ⟨ms, ems, hms⟩ := cut_ints ns none (some 4)
  refine ⟨_, rfl, _, rfl, a, _, rfl, hS, fun c nc => ?_⟩
  rw [ems]
  have hc0 : SqL K (upd H c (.lst (ms.map V.int))) c (ms.map V.int) := .inl (.inl upd_same)
  refine ⟨_, rfl, Nat.zero_le _, fun e0 ne0 => ?_⟩
  have hc1 : SqL K (upd (upd H c (.lst (ms.map V.int))) e0 (.lst [])) c (ms.map V.int) := (same_upd' ne0).seq hc0
  refine ⟨_, _, .lst hc1 (dp_ints ms), .lst (.inl (.inl upd_same)) .nil, shaped_ints ms, shaped_ints [], _, rfl, ifB (fun _ => ⟨(by show 2 ≤ sizeLine; decide), fun ca nca => ?_⟩) (fun _ => ?_)⟩
  · obtain ⟨ms', hca⟩ : ∃ ms' : List Int, SqL K (upd (upd (upd H c (.lst (ms.map V.int))) e0 (.lst [])) ca (.lst [.int 4, .int 19])) ca (ms'.map V.int) := ⟨[4, 19], .inl (.inl upd_same)⟩
    refine ⟨_, rfl, ca, rfl, ⟨_, hca⟩, ?_⟩
    refine for_list (K := K) (a := ca) (xs := ms'.map V.int) (fun i σ H' => SqL K H' ca (ms'.map V.int) ∧ ∃ y2 y3 y4 y5 y6 y7 y8 y9 y10 y11 y12 y13 : Option V, σ = [some (.ref a), some (.ref ca), y2, y3, y4, y5, y6, y7, y8, y9, y10, y11, y12, y13]) ⟨hca, none, none, none, none, none, none, none, none, none, none, none, none, rfl⟩ (fun _ _ _ _ h => h.1) ?_ ?_
    · rintro i v σ H1 hi ⟨hca, y2, y3, y4, y5, y6, y7, y8, y9, y10, y11, y12, y13, rfl⟩
      obtain ⟨cell, _, rfl⟩ : ∃ n, ms'[i]? = some n ∧ V.int n = v := by
        rw [List.getElem?_map] at hi
        cases e : ms'[i]? with
        | none => rw [e] at hi; cases hi
        | some n => rw [e] at hi; exact ⟨n, rfl, Option.some.inj hi⟩
      refine ⟨_, rfl, cell, 60, rfl, by decide, fun H2 pd ds hl hd sm2 npd hpd => ?_⟩
      refine ⟨_, rfl, _, rfl, pd, ds, rfl, SqL.of hpd, hl, hd, fun H3 pn N6 sm3 npn hpn hN6 => ?_⟩
      refine ⟨pd, pn, ds, N6, rfl, sm3 _ _ hpd, hl, hd, .inl (.inl hpn), hN6, fun H4 G t rr td lf N left us rows s R nt ht J hN hr60 => ?_⟩
      refine ⟨t, _, rfl, SqT.of ht, rfl, _, _, rfl, _, _, rfl, rfl, ?_⟩
      have hca4 : SqL K H4 ca (ms'.map V.int) := (sm2.trans (sm3.trans R.base)).seq hca
      obtain ⟨fl, hfl⟩ : ∃ fl : List Int, fl = (rows.flatMap (·.2)).map (valW s.names) := ⟨_, rfl⟩
      have hfl512 : fl.length ≤ 512 := by
        rw [hfl, List.length_map]
        have e := congrArg List.length J.wd
        rw [List.length_map] at e
        have := J.lw
        omega
      -- the image
      refine ⟨Nat.zero_le _, fun im nim => ?_⟩
      refine ⟨_, rfl, rr, rfl, ⟨_, SqL.of (same_upd' nim _ _ R.h1)⟩, ?_⟩
      refine for_list (K := K) (a := rr) (xs := us) (fun i σ H' => ∃ (acc : List Int) (z7 z8 z9 : Option V), σ = [some (.ref a), some (.ref ca), some (.int cell), some (.ref pd), some (.ref rr), some (.ref td), some (.ref im), z7, z8, z9, y10, y11, y12, y13] ∧ Same H4 H' ∧ H' im = some (.lst (acc.map V.int)) ∧ acc ++ ((rows.drop i).flatMap (·.2)).map (valW s.names) = fl)
        ⟨[], _, _, _, rfl, same_upd' nim, upd_same, by rw [List.drop_zero, hfl]; rfl⟩ (fun i σ H' _ h => by
          obtain ⟨acc, z7, z8, z9, _, sm, _⟩ := h
          exact SqL.of (sm _ _ R.h1)) ?_ ?_
      · rintro i v σ H5 hi ⟨acc, z7, z8, z9, rfl, sm, him, hacc⟩
        have hlen : us.length = rows.length := R.len
        have hil : i < rows.length := by
          rw [← hlen]
          exact (List.getElem?_eq_some_iff.mp hi).1
        obtain ⟨r, hr1'⟩ : ∃ r, rows[i]? = some r := ⟨_, List.getElem?_eq_getElem hil⟩
        have hdrop : rows.drop i = r :: rows.drop (i + 1) := by
          rw [List.drop_eq_getElem_cons hil]
          have : rows[i] = r := Option.some.inj ((List.getElem?_eq_getElem hil).symm.trans hr1')
          rw [this]
        rw [hdrop, List.flatMap_cons] at hacc
        obtain ⟨v', hv', t1, l1, us1, ev, ht1, hl1, hu100, hw⟩ := paired_get R.ra hr1'
        have hrm : r ∈ rows := List.mem_of_getElem? hr1'
        have : v = .ref t1 := by
          rw [← ev]
          exact Option.some.inj (hi.symm.trans hv')
        subst this
        refine ⟨t1, _, rfl, SqT.of (sm _ _ (R.g _ _ ht1)), rfl, _, _, rfl, _, _, rfl, rfl, ?_⟩
        refine ⟨_, rfl, l1, rfl, ⟨_, SqL.of (sm _ _ (R.g _ _ hl1))⟩, ?_⟩
        refine for_list (K := K) (a := l1) (xs := us1) (fun j σ H' => ∃ (acc : List Int) (z9 : Option V), σ = [some (.ref a), some (.ref ca), some (.int cell), some (.ref pd), some (.ref rr), some (.ref td), some (.ref im), some (.str r.1), some (.ref l1), z9, y10, y11, y12, y13] ∧ Same H4 H' ∧ H' im = some (.lst (acc.map V.int)) ∧ acc ++ (r.2.drop j ++ (rows.drop (i + 1)).flatMap (·.2)).map (valW s.names) = fl)
          ⟨acc, _, rfl, sm, him, by rw [List.drop_zero]; exact hacc⟩ (fun j σ H' _ h => by
            obtain ⟨acc, z9, _, sm, _⟩ := h
            exact SqL.of (sm _ _ (R.g _ _ hl1))) ?_ ?_
        · clear hacc him
          rintro j v σ H6 hj ⟨acc, z9, rfl, sm, him, hacc⟩
          have hwl : us1.length = r.2.length := Paired.length hw
          have hjl : j < r.2.length := by
            rw [← hwl]
            exact (List.getElem?_eq_some_iff.mp hj).1
          obtain ⟨wd, hwd⟩ : ∃ wd, r.2[j]? = some wd := ⟨_, List.getElem?_eq_getElem hjl⟩
          have hdrop2 : r.2.drop j = wd :: r.2.drop (j + 1) := by
            rw [List.drop_eq_getElem_cons hjl]
            have : r.2[j] = wd := Option.some.inj ((List.getElem?_eq_getElem hjl).symm.trans hwd)
            rw [this]
          rw [hdrop2] at hacc
          have hacc' : acc ++ (valW s.names wd :: (r.2.drop (j + 1) ++ (rows.drop (i + 1)).flatMap (·.2)).map (valW s.names)) = fl := hacc
          have hal : acc.length < 512 := by
            have e := congrArg List.length hacc'
            rw [List.length_append, List.length_cons] at e
            omega
          have hacc2 : (acc ++ [valW s.names wd]) ++ (r.2.drop (j + 1) ++ (rows.drop (i + 1)).flatMap (·.2)).map (valW s.names) = fl := by
            rw [List.append_assoc]
            exact hacc'
          obtain ⟨v2, hv2, hat⟩ := paired_get hw hwd
          have ev2 : v2 = v := Option.some.inj (hv2.symm.trans hj)
          subst ev2
          have himl : (acc.map V.int).length < sizeLine := by
            rw [List.length_map]
            exact small1000 (by omega)
          have fin : ∀ (z : Option V), (∃ (acc' : List Int) (z9 : Option V), [some (V.ref a), some (V.ref ca), some (V.int cell), some (V.ref pd), some (V.ref rr), some (V.ref td), some (V.ref im), some (V.str r.1), some (V.ref l1), z, y10, y11, y12, y13] = [some (V.ref a), some (V.ref ca), some (V.int cell), some (V.ref pd), some (V.ref rr), some (V.ref td), some (V.ref im), some (V.str r.1), some (V.ref l1), z9, y10, y11, y12, y13] ∧ Same H4 (upd H6 im (.lst (acc.map V.int ++ [.int (valW s.names wd)]))) ∧ upd H6 im (.lst (acc.map V.int ++ [.int (valW s.names wd)])) im = some (.lst (acc'.map V.int)) ∧ acc' ++ (r.2.drop (j + 1) ++ (rows.drop (i + 1)).flatMap (·.2)).map (valW s.names) = fl) := fun z =>
            ⟨acc ++ [valW s.names wd], z, rfl, same_of sm nim, by rw [upd_same, List.map_append]; rfl, hacc2⟩
          cases wd with
          | pl n =>
            have e : v2 = .int n := hat
            subst e
            refine ⟨_, rfl, .int n, .ty "tuple", _, _, false, rfl, .ty "tuple", .base (.int n), kit_ty (by decide +kernel), _, rfl, ?_⟩
            exact ⟨_, rfl, .inl ⟨rfl, _, SqL.of him⟩, _, rfl, im, _, _, rfl, rfl, him, himl, fin _⟩
          | nu op n =>
            obtain ⟨t2, e, ht2⟩ := hat
            subst e
            have ht6 := sm _ _ (R.g _ _ ht2)
            refine ⟨_, rfl, .ref t2, .ty "tuple", _, _, true, rfl, .ty "tuple", .base (.tup ht6), kit_ty (by decide +kernel), _, rfl, ?_⟩
            refine ⟨_, rfl, t2, _, 0, .int op, rfl, rfl, SqT.of ht6, atI_nat (j := 0) rfl, _, _, rfl, rfl, .inl ⟨by decide, by decide⟩, _, rfl, td, rfl, .inl ⟨_, .inl (sm _ _ R.h2)⟩, _, rfl, t2, _, 1, .int n, rfl, rfl, SqT.of ht6, atI_nat (j := 1) rfl, _, rfl, t2, _, 1, .int n, rfl, rfl, SqT.of ht6, atI_nat (j := 1) rfl, _, DGet.k (k := Sum.inl n) (sm _ _ R.h2), ?_⟩
            rw [valV_inl]
            refine ⟨_, _, rfl, rfl, ?_⟩
            exact ⟨_, rfl, .inl ⟨rfl, _, SqL.of him⟩, _, rfl, im, _, _, rfl, rfl, him, himl, fin _⟩
          | na op x =>
            obtain ⟨t2, e, ht2⟩ := hat
            subst e
            have ht6 := sm _ _ (R.g _ _ ht2)
            have hxN : x ∈ N := J.kn op x (List.mem_flatMap.mpr ⟨r, hrm, List.mem_of_getElem? hwd⟩)
            refine ⟨_, rfl, .ref t2, .ty "tuple", _, _, true, rfl, .ty "tuple", .base (.tup ht6), kit_ty (by decide +kernel), _, rfl, ?_⟩
            refine ⟨_, rfl, t2, _, 0, .int op, rfl, rfl, SqT.of ht6, atI_nat (j := 0) rfl, _, _, rfl, rfl, .inl ⟨by decide, by decide⟩, _, rfl, td, rfl, .inl ⟨_, .inl (sm _ _ R.h2)⟩, _, rfl, t2, _, 1, .str x, rfl, rfl, SqT.of ht6, atI_nat (j := 1) rfl, _, rfl, t2, _, 1, .str x, rfl, rfl, SqT.of ht6, atI_nat (j := 1) rfl, _, DGet.k (k := Sum.inr x) (sm _ _ R.h2), ?_⟩
            rw [JJ.told (rows := rows) (left := []) hxN]
            refine ⟨_, _, rfl, rfl, ?_⟩
            exact ⟨_, rfl, .inl ⟨rfl, _, SqL.of him⟩, _, rfl, im, _, _, rfl, rfl, him, himl, fin _⟩
        · clear hacc him
          rintro σ H6 ⟨acc, z9, rfl, sm, him, hacc⟩
          have hwl : us1.length = r.2.length := Paired.length hw
          rw [hwl, List.drop_length, List.nil_append] at hacc
          exact ⟨acc, _, _, _, rfl, sm, him, hacc⟩
      · rintro σ H5 ⟨acc, z7, z8, z9, rfl, sm, him, hacc⟩
        have hlen : us.length = rows.length := R.len
        rw [hlen, List.drop_length] at hacc
        have eacc : acc = fl := by simpa using hacc
        subst eacc
        -- the text
        refine ⟨⟨_, rfl⟩, _, rfl, rr, rfl, ⟨_, SqL.of (sm _ _ R.h1)⟩, fun D2 nD2 => ?_⟩
        refine lc_list (K := K) (a := rr) (xs := us) (fun i H' => Same H5 H' ∧ H' D2 = some (.lst ((rows.take i).map fun r => V.str r.1))) ⟨same_upd' nD2, by rw [upd_same]; rfl⟩ (fun i H' _ h => SqL.of (h.1 _ _ (sm _ _ R.h1))) ?_ ?_
        · rintro i v H6 hi ⟨sm6, hD⟩
          have hil : i < rows.length := by
            rw [← hlen]
            exact (List.getElem?_eq_some_iff.mp hi).1
          obtain ⟨r, hr1'⟩ : ∃ r, rows[i]? = some r := ⟨_, List.getElem?_eq_getElem hil⟩
          obtain ⟨v', hv', t1, l1, us1, ev, ht1, hl1, hu100, hw⟩ := paired_get R.ra hr1'
          have : v = .ref t1 := by
            rw [← ev]
            exact Option.some.inj (hi.symm.trans hv')
          subst this
          refine ⟨t1, _, rfl, SqT.of (sm6 _ _ (sm _ _ (R.g _ _ ht1))), rfl, _, _, rfl, _, _, rfl, rfl, rfl, ?_⟩
          refine ⟨_, rfl, _, hD, ?_, same_of sm6 nD2, ?_⟩
          · rw [List.length_map, List.length_take]
            exact Nat.lt_of_le_of_lt (Nat.min_le_right _ _) (small1000 (by omega))
          · rw [upd_same, List.take_add_one, hr1', List.map_append]
            rfl
        · rintro H6 ⟨sm6, hD⟩
          rw [hlen, List.take_length] at hD
          have hsz := J.size (by omega)
          refine ⟨_, D2, rows.map (·.1), rfl, rfl, .inl (.inl (.inl (by rw [List.map_map]; exact hD))), ?_, ?_⟩
          · have h1 := sum_le_mul (fun r : Str × List Wd => r.1.length) 20 rows (fun r hm => by
              have := (J.tx r hm).2
              rw [← len_tl] at this
              exact this)
            rw [List.map_map, List.length_map]
            have ez1 : ((·.length) ∘ (fun r : Str × List Wd => r.1) : Str × List Wd → Nat) = fun r => r.1.length := rfl
            rw [ez1]
            have ez2 : (("\n" : Str)).length = 1 := rfl
            rw [ez2]
            omega
          rw [join_eq]
          have hca6 : SqL K H6 ca (ms'.map V.int) := sm6.seq (sm.seq hca4)
          have him6 := sm6 _ _ him
          have htd6 := sm6 _ _ (sm _ _ R.h2)
          refine ⟨2, rfl, by decide, by decide, ?_⟩
          refine for_range (lo := 0) (n := 2) (fun i σ H' => SqL K H' ca (ms'.map V.int) ∧ H' im = some (.lst (acc.map V.int)) ∧ H' td = some (.dK (nmK (toldN N s.names))) ∧ ∃ z8 z9 z10 z11 z12 : Option V, σ = [some (.ref a), some (.ref ca), some (.int cell), some (.ref pd), some (.ref rr), some (.ref td), some (.ref im), some (.str (Str.join "\n" (rows.map (·.1)))), z8, z9, z10, z11, z12, y13]) ⟨hca6, him6, htd6, _, _, _, _, _, rfl⟩ ?_ ?_
          · rintro i σ H7 _ ⟨hc7, hi7, ht7, w8, w9, w10, w11, w12, rfl⟩
            refine ⟨_, rfl, _, s, acc, rfl, Nat.le_trans hsz (by decide), J.read, J.pos, by rw [hfl]; exact J.put, fun H8 t8 ta tb sm8 nt8 nta ntb ht8 hta htb => ?_⟩
            refine ⟨t8, _, rfl, SqT.of ht8, rfl, _, _, rfl, _, _, rfl, rfl, ?_⟩
            have eqr : PyData.eqv (.list (acc.map PyData.int)) (.list (acc.map PyData.int)) = true := SeqAt.eqv_refl _ (can_ints _)
            refine ⟨_, rfl, _, rfl, _, _, .lst (SqL.of hta) (dp_ints _), .lst (SqL.of (sm8 _ _ hi7)) (dp_ints _), shaped_ints _, shaped_ints _, _, rfl, ?_⟩
            rw [eqr]
            refine ⟨_, rfl, _, rfl, tb, td, _, _, rfl, rfl, htb, sm8 _ _ ht7, (J.dict hN).1, (J.dict hN).2, _, rfl, ?_⟩
            have nab : ta ≠ tb := ne_of hta htb (by intro q; cases q)
            refine ⟨_, rfl, .inl ⟨rfl, _, SqL.of hta⟩, ta, _, rfl, rfl, hta, ?_⟩
            have htb2 : upd H8 ta (.lst []) tb = some (.dK (nmK s.names)) := by
              rw [upd_ne nab.symm]
              exact htb
            refine ⟨_, rfl, .inr (.inr (.inl ⟨rfl, .inl ⟨_, htb2⟩⟩)), tb, _, rfl, rfl, htb2, ?_⟩
            have smz := same_of (o := .dK []) (same_of (o := .lst []) sm8 nta) ntb
            exact ⟨smz.seq hc7, smz _ _ hi7, smz _ _ ht7, _, _, _, _, _, rfl⟩
          · rintro σ H7 ⟨hc7, hi7, ht7, w8, w9, w10, w11, w12, rfl⟩
            exact ⟨hc7, _, _, _, _, _, _, _, _, _, _, _, _, rfl⟩
    · intro σ H' _
      exact k _
  · refine ⟨_, rfl, c, rfl, ⟨_, hc1⟩, ?_⟩
    refine for_list (K := K) (a := c) (xs := ms.map V.int) (fun i σ H' => SqL K H' c (ms.map V.int) ∧ ∃ y2 y3 y4 y5 y6 y7 y8 y9 y10 y11 y12 y13 : Option V, σ = [some (.ref a), some (.ref c), y2, y3, y4, y5, y6, y7, y8, y9, y10, y11, y12, y13]) ⟨hc1, none, none, none, none, none, none, none, none, none, none, none, none, rfl⟩ (fun _ _ _ _ h => h.1) ?_ ?_
    · rintro i v σ H1 hi ⟨hca, y2, y3, y4, y5, y6, y7, y8, y9, y10, y11, y12, y13, rfl⟩
      obtain ⟨cell, _, rfl⟩ : ∃ n, ms[i]? = some n ∧ V.int n = v := by
        rw [List.getElem?_map] at hi
        cases e : ms[i]? with
        | none => rw [e] at hi; cases hi
        | some n => rw [e] at hi; exact ⟨n, rfl, Option.some.inj hi⟩
      refine ⟨_, rfl, cell, 60, rfl, by decide, fun H2 pd ds hl hd sm2 npd hpd => ?_⟩
      refine ⟨_, rfl, _, rfl, pd, ds, rfl, SqL.of hpd, hl, hd, fun H3 pn N6 sm3 npn hpn hN6 => ?_⟩
      refine ⟨pd, pn, ds, N6, rfl, sm3 _ _ hpd, hl, hd, .inl (.inl hpn), hN6, fun H4 G t rr td lf N left us rows s R nt ht J hN hr60 => ?_⟩
      refine ⟨t, _, rfl, SqT.of ht, rfl, _, _, rfl, _, _, rfl, rfl, ?_⟩
      have hca4 : SqL K H4 c (ms.map V.int) := (sm2.trans (sm3.trans R.base)).seq hca
      obtain ⟨fl, hfl⟩ : ∃ fl : List Int, fl = (rows.flatMap (·.2)).map (valW s.names) := ⟨_, rfl⟩
      have hfl512 : fl.length ≤ 512 := by
        rw [hfl, List.length_map]
        have e := congrArg List.length J.wd
        rw [List.length_map] at e
        have := J.lw
        omega
      -- the image
      refine ⟨Nat.zero_le _, fun im nim => ?_⟩
      refine ⟨_, rfl, rr, rfl, ⟨_, SqL.of (same_upd' nim _ _ R.h1)⟩, ?_⟩
      refine for_list (K := K) (a := rr) (xs := us) (fun i σ H' => ∃ (acc : List Int) (z7 z8 z9 : Option V), σ = [some (.ref a), some (.ref c), some (.int cell), some (.ref pd), some (.ref rr), some (.ref td), some (.ref im), z7, z8, z9, y10, y11, y12, y13] ∧ Same H4 H' ∧ H' im = some (.lst (acc.map V.int)) ∧ acc ++ ((rows.drop i).flatMap (·.2)).map (valW s.names) = fl)
        ⟨[], _, _, _, rfl, same_upd' nim, upd_same, by rw [List.drop_zero, hfl]; rfl⟩ (fun i σ H' _ h => by
          obtain ⟨acc, z7, z8, z9, _, sm, _⟩ := h
          exact SqL.of (sm _ _ R.h1)) ?_ ?_
      · rintro i v σ H5 hi ⟨acc, z7, z8, z9, rfl, sm, him, hacc⟩
        have hlen : us.length = rows.length := R.len
        have hil : i < rows.length := by
          rw [← hlen]
          exact (List.getElem?_eq_some_iff.mp hi).1
        obtain ⟨r, hr1'⟩ : ∃ r, rows[i]? = some r := ⟨_, List.getElem?_eq_getElem hil⟩
        have hdrop : rows.drop i = r :: rows.drop (i + 1) := by
          rw [List.drop_eq_getElem_cons hil]
          have : rows[i] = r := Option.some.inj ((List.getElem?_eq_getElem hil).symm.trans hr1')
          rw [this]
        rw [hdrop, List.flatMap_cons] at hacc
        obtain ⟨v', hv', t1, l1, us1, ev, ht1, hl1, hu100, hw⟩ := paired_get R.ra hr1'
        have hrm : r ∈ rows := List.mem_of_getElem? hr1'
        have : v = .ref t1 := by
          rw [← ev]
          exact Option.some.inj (hi.symm.trans hv')
        subst this
        refine ⟨t1, _, rfl, SqT.of (sm _ _ (R.g _ _ ht1)), rfl, _, _, rfl, _, _, rfl, rfl, ?_⟩
        refine ⟨_, rfl, l1, rfl, ⟨_, SqL.of (sm _ _ (R.g _ _ hl1))⟩, ?_⟩
        refine for_list (K := K) (a := l1) (xs := us1) (fun j σ H' => ∃ (acc : List Int) (z9 : Option V), σ = [some (.ref a), some (.ref c), some (.int cell), some (.ref pd), some (.ref rr), some (.ref td), some (.ref im), some (.str r.1), some (.ref l1), z9, y10, y11, y12, y13] ∧ Same H4 H' ∧ H' im = some (.lst (acc.map V.int)) ∧ acc ++ (r.2.drop j ++ (rows.drop (i + 1)).flatMap (·.2)).map (valW s.names) = fl)
          ⟨acc, _, rfl, sm, him, by rw [List.drop_zero]; exact hacc⟩ (fun j σ H' _ h => by
            obtain ⟨acc, z9, _, sm, _⟩ := h
            exact SqL.of (sm _ _ (R.g _ _ hl1))) ?_ ?_
        · clear hacc him
          rintro j v σ H6 hj ⟨acc, z9, rfl, sm, him, hacc⟩
          have hwl : us1.length = r.2.length := Paired.length hw
          have hjl : j < r.2.length := by
            rw [← hwl]
            exact (List.getElem?_eq_some_iff.mp hj).1
          obtain ⟨wd, hwd⟩ : ∃ wd, r.2[j]? = some wd := ⟨_, List.getElem?_eq_getElem hjl⟩
          have hdrop2 : r.2.drop j = wd :: r.2.drop (j + 1) := by
            rw [List.drop_eq_getElem_cons hjl]
            have : r.2[j] = wd := Option.some.inj ((List.getElem?_eq_getElem hjl).symm.trans hwd)
            rw [this]
          rw [hdrop2] at hacc
          have hacc' : acc ++ (valW s.names wd :: (r.2.drop (j + 1) ++ (rows.drop (i + 1)).flatMap (·.2)).map (valW s.names)) = fl := hacc
          have hal : acc.length < 512 := by
            have e := congrArg List.length hacc'
            rw [List.length_append, List.length_cons] at e
            omega
          have hacc2 : (acc ++ [valW s.names wd]) ++ (r.2.drop (j + 1) ++ (rows.drop (i + 1)).flatMap (·.2)).map (valW s.names) = fl := by
            rw [List.append_assoc]
            exact hacc'
          obtain ⟨v2, hv2, hat⟩ := paired_get hw hwd
          have ev2 : v2 = v := Option.some.inj (hv2.symm.trans hj)
          subst ev2
          have himl : (acc.map V.int).length < sizeLine := by
            rw [List.length_map]
            exact small1000 (by omega)
          have fin : ∀ (z : Option V), (∃ (acc' : List Int) (z9 : Option V), [some (V.ref a), some (V.ref c), some (V.int cell), some (V.ref pd), some (V.ref rr), some (V.ref td), some (V.ref im), some (V.str r.1), some (V.ref l1), z, y10, y11, y12, y13] = [some (V.ref a), some (V.ref c), some (V.int cell), some (V.ref pd), some (V.ref rr), some (V.ref td), some (V.ref im), some (V.str r.1), some (V.ref l1), z9, y10, y11, y12, y13] ∧ Same H4 (upd H6 im (.lst (acc.map V.int ++ [.int (valW s.names wd)]))) ∧ upd H6 im (.lst (acc.map V.int ++ [.int (valW s.names wd)])) im = some (.lst (acc'.map V.int)) ∧ acc' ++ (r.2.drop (j + 1) ++ (rows.drop (i + 1)).flatMap (·.2)).map (valW s.names) = fl) := fun z =>
            ⟨acc ++ [valW s.names wd], z, rfl, same_of sm nim, by rw [upd_same, List.map_append]; rfl, hacc2⟩
          cases wd with
          | pl n =>
            have e : v2 = .int n := hat
            subst e
            refine ⟨_, rfl, .int n, .ty "tuple", _, _, false, rfl, .ty "tuple", .base (.int n), kit_ty (by decide +kernel), _, rfl, ?_⟩
            exact ⟨_, rfl, .inl ⟨rfl, _, SqL.of him⟩, _, rfl, im, _, _, rfl, rfl, him, himl, fin _⟩
          | nu op n =>
            obtain ⟨t2, e, ht2⟩ := hat
            subst e
            have ht6 := sm _ _ (R.g _ _ ht2)
            refine ⟨_, rfl, .ref t2, .ty "tuple", _, _, true, rfl, .ty "tuple", .base (.tup ht6), kit_ty (by decide +kernel), _, rfl, ?_⟩
            refine ⟨_, rfl, t2, _, 0, .int op, rfl, rfl, SqT.of ht6, atI_nat (j := 0) rfl, _, _, rfl, rfl, .inl ⟨by decide, by decide⟩, _, rfl, td, rfl, .inl ⟨_, .inl (sm _ _ R.h2)⟩, _, rfl, t2, _, 1, .int n, rfl, rfl, SqT.of ht6, atI_nat (j := 1) rfl, _, rfl, t2, _, 1, .int n, rfl, rfl, SqT.of ht6, atI_nat (j := 1) rfl, _, DGet.k (k := Sum.inl n) (sm _ _ R.h2), ?_⟩
            rw [valV_inl]
            refine ⟨_, _, rfl, rfl, ?_⟩
            exact ⟨_, rfl, .inl ⟨rfl, _, SqL.of him⟩, _, rfl, im, _, _, rfl, rfl, him, himl, fin _⟩
          | na op x =>
            obtain ⟨t2, e, ht2⟩ := hat
            subst e
            have ht6 := sm _ _ (R.g _ _ ht2)
            have hxN : x ∈ N := J.kn op x (List.mem_flatMap.mpr ⟨r, hrm, List.mem_of_getElem? hwd⟩)
            refine ⟨_, rfl, .ref t2, .ty "tuple", _, _, true, rfl, .ty "tuple", .base (.tup ht6), kit_ty (by decide +kernel), _, rfl, ?_⟩
            refine ⟨_, rfl, t2, _, 0, .int op, rfl, rfl, SqT.of ht6, atI_nat (j := 0) rfl, _, _, rfl, rfl, .inl ⟨by decide, by decide⟩, _, rfl, td, rfl, .inl ⟨_, .inl (sm _ _ R.h2)⟩, _, rfl, t2, _, 1, .str x, rfl, rfl, SqT.of ht6, atI_nat (j := 1) rfl, _, rfl, t2, _, 1, .str x, rfl, rfl, SqT.of ht6, atI_nat (j := 1) rfl, _, DGet.k (k := Sum.inr x) (sm _ _ R.h2), ?_⟩
            rw [JJ.told (rows := rows) (left := []) hxN]
            refine ⟨_, _, rfl, rfl, ?_⟩
            exact ⟨_, rfl, .inl ⟨rfl, _, SqL.of him⟩, _, rfl, im, _, _, rfl, rfl, him, himl, fin _⟩
        · clear hacc him
          rintro σ H6 ⟨acc, z9, rfl, sm, him, hacc⟩
          have hwl : us1.length = r.2.length := Paired.length hw
          rw [hwl, List.drop_length, List.nil_append] at hacc
          exact ⟨acc, _, _, _, rfl, sm, him, hacc⟩
      · rintro σ H5 ⟨acc, z7, z8, z9, rfl, sm, him, hacc⟩
        have hlen : us.length = rows.length := R.len
        rw [hlen, List.drop_length] at hacc
        have eacc : acc = fl := by simpa using hacc
        subst eacc
        -- the text
        refine ⟨⟨_, rfl⟩, _, rfl, rr, rfl, ⟨_, SqL.of (sm _ _ R.h1)⟩, fun D2 nD2 => ?_⟩
        refine lc_list (K := K) (a := rr) (xs := us) (fun i H' => Same H5 H' ∧ H' D2 = some (.lst ((rows.take i).map fun r => V.str r.1))) ⟨same_upd' nD2, by rw [upd_same]; rfl⟩ (fun i H' _ h => SqL.of (h.1 _ _ (sm _ _ R.h1))) ?_ ?_
        · rintro i v H6 hi ⟨sm6, hD⟩
          have hil : i < rows.length := by
            rw [← hlen]
            exact (List.getElem?_eq_some_iff.mp hi).1
          obtain ⟨r, hr1'⟩ : ∃ r, rows[i]? = some r := ⟨_, List.getElem?_eq_getElem hil⟩
          obtain ⟨v', hv', t1, l1, us1, ev, ht1, hl1, hu100, hw⟩ := paired_get R.ra hr1'
          have : v = .ref t1 := by
            rw [← ev]
            exact Option.some.inj (hi.symm.trans hv')
          subst this
          refine ⟨t1, _, rfl, SqT.of (sm6 _ _ (sm _ _ (R.g _ _ ht1))), rfl, _, _, rfl, _, _, rfl, rfl, rfl, ?_⟩
          refine ⟨_, rfl, _, hD, ?_, same_of sm6 nD2, ?_⟩
          · rw [List.length_map, List.length_take]
            exact Nat.lt_of_le_of_lt (Nat.min_le_right _ _) (small1000 (by omega))
          · rw [upd_same, List.take_add_one, hr1', List.map_append]
            rfl
        · rintro H6 ⟨sm6, hD⟩
          rw [hlen, List.take_length] at hD
          have hsz := J.size (by omega)
          refine ⟨_, D2, rows.map (·.1), rfl, rfl, .inl (.inl (.inl (by rw [List.map_map]; exact hD))), ?_, ?_⟩
          · have h1 := sum_le_mul (fun r : Str × List Wd => r.1.length) 20 rows (fun r hm => by
              have := (J.tx r hm).2
              rw [← len_tl] at this
              exact this)
            rw [List.map_map, List.length_map]
            have ez1 : ((·.length) ∘ (fun r : Str × List Wd => r.1) : Str × List Wd → Nat) = fun r => r.1.length := rfl
            rw [ez1]
            have ez2 : (("\n" : Str)).length = 1 := rfl
            rw [ez2]
            omega
          rw [join_eq]
          have hca6 : SqL K H6 c (ms.map V.int) := sm6.seq (sm.seq hca4)
          have him6 := sm6 _ _ him
          have htd6 := sm6 _ _ (sm _ _ R.h2)
          refine ⟨2, rfl, by decide, by decide, ?_⟩
          refine for_range (lo := 0) (n := 2) (fun i σ H' => SqL K H' c (ms.map V.int) ∧ H' im = some (.lst (acc.map V.int)) ∧ H' td = some (.dK (nmK (toldN N s.names))) ∧ ∃ z8 z9 z10 z11 z12 : Option V, σ = [some (.ref a), some (.ref c), some (.int cell), some (.ref pd), some (.ref rr), some (.ref td), some (.ref im), some (.str (Str.join "\n" (rows.map (·.1)))), z8, z9, z10, z11, z12, y13]) ⟨hca6, him6, htd6, _, _, _, _, _, rfl⟩ ?_ ?_
          · rintro i σ H7 _ ⟨hc7, hi7, ht7, w8, w9, w10, w11, w12, rfl⟩
            refine ⟨_, rfl, _, s, acc, rfl, Nat.le_trans hsz (by decide), J.read, J.pos, by rw [hfl]; exact J.put, fun H8 t8 ta tb sm8 nt8 nta ntb ht8 hta htb => ?_⟩
            refine ⟨t8, _, rfl, SqT.of ht8, rfl, _, _, rfl, _, _, rfl, rfl, ?_⟩
            have eqr : PyData.eqv (.list (acc.map PyData.int)) (.list (acc.map PyData.int)) = true := SeqAt.eqv_refl _ (can_ints _)
            refine ⟨_, rfl, _, rfl, _, _, .lst (SqL.of hta) (dp_ints _), .lst (SqL.of (sm8 _ _ hi7)) (dp_ints _), shaped_ints _, shaped_ints _, _, rfl, ?_⟩
            rw [eqr]
            refine ⟨_, rfl, _, rfl, tb, td, _, _, rfl, rfl, htb, sm8 _ _ ht7, (J.dict hN).1, (J.dict hN).2, _, rfl, ?_⟩
            have nab : ta ≠ tb := ne_of hta htb (by intro q; cases q)
            refine ⟨_, rfl, .inl ⟨rfl, _, SqL.of hta⟩, ta, _, rfl, rfl, hta, ?_⟩
            have htb2 : upd H8 ta (.lst []) tb = some (.dK (nmK s.names)) := by
              rw [upd_ne nab.symm]
              exact htb
            refine ⟨_, rfl, .inr (.inr (.inl ⟨rfl, .inl ⟨_, htb2⟩⟩)), tb, _, rfl, rfl, htb2, ?_⟩
            have smz := same_of (o := .dK []) (same_of (o := .lst []) sm8 nta) ntb
            exact ⟨smz.seq hc7, smz _ _ hi7, smz _ _ ht7, _, _, _, _, _, rfl⟩
          · rintro σ H7 ⟨hc7, hi7, ht7, w8, w9, w10, w11, w12, rfl⟩
            exact ⟨hc7, _, _, _, _, _, _, _, _, _, _, _, _, rfl⟩
    · intro σ H' _
      exact k _
end
end Bh

/-! What the top has written; the head. -/
namespace Bh
open PySem PySem.Spec PyProof.Rows L2
def relB : List Str → List Value → Bool
  | [], [] => true
  | x :: xs, u :: us => Value.isStrOf x u && relB xs us
  | _, _ => false
theorem relB_vals : ∀ {xs : List Str} {us : List Value}, relB xs us = true → Vals (xs.map V.str) us
  | [], [], _ => .nil
  | x :: xs, u :: us, h => by
    unfold relB at h
    rw [Bool.and_eq_true] at h
    obtain ⟨t, e⟩ := Value.isStrOf_shape h.1
    exact .cons ⟨t, e⟩ (relB_vals h.2)
  | [], _ :: _, h => by cases h
  | _ :: _, [], h => by cases h
theorem tup_of {K : PySem.W.Frag} {a : Addr} {xs : List Str} {its : Array Value} {n : Nat} {sl : Array (Option Value)} (l : K.lookup a = some ⟨.type "tuple", none, .seq its n, sl⟩) (v : relB xs its.toList = true) (hx : xs.length ≤ 1000) : ∀ H, SqT K H a (xs.map V.str) := fun H => by
  have r := relB_vals v
  have hl := r.length
  rw [List.length_map] at hl
  refine .inr ⟨_, its, n, l, rfl, rfl, ?_, r⟩
  rw [← Array.length_toList, ← hl]
  exact Nat.le_of_lt (small1000 hx)
set_option linter.unusedVariables false in
theorem all_mk {l : PySem.W.OpenLaw} {w : World} {K : PySem.W.Frag} {h : Heap} {mg : Str → Option Value} {fa C : Addr} (X : K.In h) (G : h.Ns mainGlobals mg) (hfa : mg "law" = some (.ref fa))
    {f_numberof f_figured f_isname f_typed f_llawdigits f_llawnames f_llawpart f_llawrows f_law f_minit f_mtake f_mtakename f_mtakebare f_mtakepair f_mtakeat f_mtakekeep f_mtakeworth f_mlay f_mputnamesin aN aX : Addr} {od_numberof an_numberof od_figured an_figured od_isname an_isname od_typed an_typed od_llawdigits an_llawdigits od_llawnames an_llawnames od_llawpart an_llawpart od_llawrows an_llawrows od_law an_law od_minit an_minit od_mtake an_mtake od_mtakename an_mtakename od_mtakebare an_mtakebare od_mtakepair an_mtakepair od_mtakeat an_mtakeat od_mtakekeep an_mtakekeep od_mtakeworth an_mtakeworth od_mlay an_mlay od_mputnamesin an_mputnamesin : Option Addr} {sl_numberof sl_figured sl_isname sl_typed sl_llawdigits sl_llawnames sl_llawpart sl_llawrows sl_law sl_minit sl_mtake sl_mtakename sl_mtakebare sl_mtakepair sl_mtakeat sl_mtakekeep sl_mtakeworth sl_mlay sl_mputnamesin sl_aN sl_aX : Array (Option Value)} {oc_figured kV_figured dc_figured pm_figured cd_figured ct_figured oc_numberof kV_numberof dc_numberof pm_numberof cd_numberof ct_numberof oc_isname kV_isname dc_isname pm_isname cd_isname ct_isname oc_typed kV_typed dc_typed pm_typed cd_typed ct_typed oc_llawdigits kV_llawdigits dc_llawdigits pm_llawdigits cd_llawdigits ct_llawdigits oc_llawnames kV_llawnames dc_llawnames pm_llawnames cd_llawnames ct_llawnames oc_llawpart kV_llawpart dc_llawpart pm_llawpart cd_llawpart ct_llawpart oc_llawrows kV_llawrows dc_llawrows pm_llawrows cd_llawrows ct_llawrows oc_law kV_law dc_law pm_law cd_law ct_law oc_minit kV_minit dc_minit pm_minit cd_minit ct_minit oc_mtake kV_mtake dc_mtake pm_mtake cd_mtake ct_mtake oc_mtakename kV_mtakename dc_mtakename pm_mtakename cd_mtakename ct_mtakename oc_mtakebare kV_mtakebare dc_mtakebare pm_mtakebare cd_mtakebare ct_mtakebare oc_mtakepair kV_mtakepair dc_mtakepair pm_mtakepair cd_mtakepair ct_mtakepair oc_mtakeat kV_mtakeat dc_mtakeat pm_mtakeat cd_mtakeat ct_mtakeat oc_mtakekeep kV_mtakekeep dc_mtakekeep pm_mtakekeep cd_mtakekeep ct_mtakekeep oc_mtakeworth kV_mtakeworth dc_mtakeworth pm_mtakeworth cd_mtakeworth ct_mtakeworth oc_mlay kV_mlay dc_mlay pm_mlay cd_mlay ct_mlay oc_mputnamesin kV_mputnamesin dc_mputnamesin pm_mputnamesin cd_mputnamesin ct_mputnamesin : Value} {t_X_SPAN t_FIGURES_MOST t_LETTERS_MOST t_FLASH_END t_WORD_MOST t_ERASED : Tok} {its_aN its_aX : Array Value} {n_aN n_aX : Nat}
    (a_figured : PySem.W.nsIn K mainGlobals "figured" = some (some (.ref f_figured)))
    (l_figured : K.lookup f_figured = some ⟨oc_figured, od_figured, .func (PySem.W.fnOf "figured" "figured" (defArgs sFig) (defBody sFig) (defScope sFig) .none kV_figured dc_figured pm_figured an_figured cd_figured ct_figured), sl_figured⟩)
    (c_figured : PySem.W.codeIn K cd_figured "figured" = true)
    (k_figured : PySem.W.keepIn K (.ref f_figured) = true)
    (a_numberof : PySem.W.nsIn K mainGlobals "number_of" = some (some (.ref f_numberof)))
    (l_numberof : K.lookup f_numberof = some ⟨oc_numberof, od_numberof, .func (PySem.W.fnOf "number_of" "number_of" (defArgs sNum) (defBody sNum) (defScope sNum) .none kV_numberof dc_numberof pm_numberof an_numberof cd_numberof ct_numberof), sl_numberof⟩)
    (c_numberof : PySem.W.codeIn K cd_numberof "number_of" = true)
    (k_numberof : PySem.W.keepIn K (.ref f_numberof) = true)
    (a_isname : PySem.W.nsIn K mainGlobals "is_name" = some (some (.ref f_isname)))
    (l_isname : K.lookup f_isname = some ⟨oc_isname, od_isname, .func (PySem.W.fnOf "is_name" "is_name" (defArgs sNm) (defBody sNm) (defScope sNm) .none kV_isname dc_isname pm_isname an_isname cd_isname ct_isname), sl_isname⟩)
    (c_isname : PySem.W.codeIn K cd_isname "is_name" = true)
    (k_isname : PySem.W.keepIn K (.ref f_isname) = true)
    (a_typed : PySem.W.nsIn K mainGlobals "typed" = some (some (.ref f_typed)))
    (l_typed : K.lookup f_typed = some ⟨oc_typed, od_typed, .func (PySem.W.fnOf "typed" "typed" (defArgs sTyped) (defBody sTyped) (defScope sTyped) .none kV_typed dc_typed pm_typed an_typed cd_typed ct_typed), sl_typed⟩)
    (c_typed : PySem.W.codeIn K cd_typed "typed" = true)
    (k_typed : PySem.W.keepIn K (.ref f_typed) = true)
    (a_llawdigits : PySem.W.nsIn K mainGlobals "_law_digits" = some (some (.ref f_llawdigits)))
    (l_llawdigits : K.lookup f_llawdigits = some ⟨oc_llawdigits, od_llawdigits, .func (PySem.W.fnOf "_law_digits" "_law_digits" (defArgs sDig) (defBody sDig) (defScope sDig) .none kV_llawdigits dc_llawdigits pm_llawdigits an_llawdigits cd_llawdigits ct_llawdigits), sl_llawdigits⟩)
    (c_llawdigits : PySem.W.codeIn K cd_llawdigits "_law_digits" = true)
    (k_llawdigits : PySem.W.keepIn K (.ref f_llawdigits) = true)
    (a_llawnames : PySem.W.nsIn K mainGlobals "_law_names" = some (some (.ref f_llawnames)))
    (l_llawnames : K.lookup f_llawnames = some ⟨oc_llawnames, od_llawnames, .func (PySem.W.fnOf "_law_names" "_law_names" (defArgs sNames) (defBody sNames) (defScope sNames) .none kV_llawnames dc_llawnames pm_llawnames an_llawnames cd_llawnames ct_llawnames), sl_llawnames⟩)
    (c_llawnames : PySem.W.codeIn K cd_llawnames "_law_names" = true)
    (k_llawnames : PySem.W.keepIn K (.ref f_llawnames) = true)
    (a_llawpart : PySem.W.nsIn K mainGlobals "_law_part" = some (some (.ref f_llawpart)))
    (l_llawpart : K.lookup f_llawpart = some ⟨oc_llawpart, od_llawpart, .func (PySem.W.fnOf "_law_part" "_law_part" (defArgs sPart) (defBody sPart) (defScope sPart) .none kV_llawpart dc_llawpart pm_llawpart an_llawpart cd_llawpart ct_llawpart), sl_llawpart⟩)
    (c_llawpart : PySem.W.codeIn K cd_llawpart "_law_part" = true)
    (k_llawpart : PySem.W.keepIn K (.ref f_llawpart) = true)
    (a_llawrows : PySem.W.nsIn K mainGlobals "_law_rows" = some (some (.ref f_llawrows)))
    (l_llawrows : K.lookup f_llawrows = some ⟨oc_llawrows, od_llawrows, .func (PySem.W.fnOf "_law_rows" "_law_rows" (defArgs sRows) (defBody sRows) (defScope sRows) .none kV_llawrows dc_llawrows pm_llawrows an_llawrows cd_llawrows ct_llawrows), sl_llawrows⟩)
    (c_llawrows : PySem.W.codeIn K cd_llawrows "_law_rows" = true)
    (k_llawrows : PySem.W.keepIn K (.ref f_llawrows) = true)
    (a_law : PySem.W.nsIn K mainGlobals "law" = some (some (.ref f_law)))
    (l_law : K.lookup f_law = some ⟨oc_law, od_law, .func (PySem.W.fnOf "law" "law" (defArgs sLaw) (defBody sLaw) (defScope sLaw) .none kV_law dc_law pm_law an_law cd_law ct_law), sl_law⟩)
    (c_law : PySem.W.codeIn K cd_law "law" = true)
    (k_law : PySem.W.keepIn K (.ref f_law) = true)
    (aC : PySem.W.nsIn K mainGlobals "Sheet" = some (some (.ref C)))
    (a_minit : PySem.W.findIn K (.ref C) "__init__" = some (some (.ref f_minit)))
    (i_minit : PySem.W.isFn K (.ref f_minit) = true)
    (l_minit : K.lookup f_minit = some ⟨oc_minit, od_minit, .func (PySem.W.fnOf "__init__" "Sheet.__init__" (defArgs sInit) (defBody sInit) (defScope sInit) .none kV_minit dc_minit pm_minit an_minit cd_minit ct_minit), sl_minit⟩)
    (c_minit : PySem.W.codeIn K cd_minit "Sheet.__init__" = true)
    (k_minit : PySem.W.keepIn K (.ref f_minit) = true)
    (a_mtake : PySem.W.findIn K (.ref C) "take" = some (some (.ref f_mtake)))
    (i_mtake : PySem.W.isFn K (.ref f_mtake) = true)
    (l_mtake : K.lookup f_mtake = some ⟨oc_mtake, od_mtake, .func (PySem.W.fnOf "take" "Sheet.take" (defArgs sTake) (defBody sTake) (defScope sTake) .none kV_mtake dc_mtake pm_mtake an_mtake cd_mtake ct_mtake), sl_mtake⟩)
    (c_mtake : PySem.W.codeIn K cd_mtake "Sheet.take" = true)
    (k_mtake : PySem.W.keepIn K (.ref f_mtake) = true)
    (a_mtakename : PySem.W.findIn K (.ref C) "take_name" = some (some (.ref f_mtakename)))
    (i_mtakename : PySem.W.isFn K (.ref f_mtakename) = true)
    (l_mtakename : K.lookup f_mtakename = some ⟨oc_mtakename, od_mtakename, .func (PySem.W.fnOf "take_name" "Sheet.take_name" (defArgs sTName) (defBody sTName) (defScope sTName) .none kV_mtakename dc_mtakename pm_mtakename an_mtakename cd_mtakename ct_mtakename), sl_mtakename⟩)
    (c_mtakename : PySem.W.codeIn K cd_mtakename "Sheet.take_name" = true)
    (k_mtakename : PySem.W.keepIn K (.ref f_mtakename) = true)
    (a_mtakebare : PySem.W.findIn K (.ref C) "take_bare" = some (some (.ref f_mtakebare)))
    (i_mtakebare : PySem.W.isFn K (.ref f_mtakebare) = true)
    (l_mtakebare : K.lookup f_mtakebare = some ⟨oc_mtakebare, od_mtakebare, .func (PySem.W.fnOf "take_bare" "Sheet.take_bare" (defArgs sTBare) (defBody sTBare) (defScope sTBare) .none kV_mtakebare dc_mtakebare pm_mtakebare an_mtakebare cd_mtakebare ct_mtakebare), sl_mtakebare⟩)
    (c_mtakebare : PySem.W.codeIn K cd_mtakebare "Sheet.take_bare" = true)
    (k_mtakebare : PySem.W.keepIn K (.ref f_mtakebare) = true)
    (a_mtakepair : PySem.W.findIn K (.ref C) "take_pair" = some (some (.ref f_mtakepair)))
    (i_mtakepair : PySem.W.isFn K (.ref f_mtakepair) = true)
    (l_mtakepair : K.lookup f_mtakepair = some ⟨oc_mtakepair, od_mtakepair, .func (PySem.W.fnOf "take_pair" "Sheet.take_pair" (defArgs sTPair) (defBody sTPair) (defScope sTPair) .none kV_mtakepair dc_mtakepair pm_mtakepair an_mtakepair cd_mtakepair ct_mtakepair), sl_mtakepair⟩)
    (c_mtakepair : PySem.W.codeIn K cd_mtakepair "Sheet.take_pair" = true)
    (k_mtakepair : PySem.W.keepIn K (.ref f_mtakepair) = true)
    (a_mtakeat : PySem.W.findIn K (.ref C) "take_at" = some (some (.ref f_mtakeat)))
    (i_mtakeat : PySem.W.isFn K (.ref f_mtakeat) = true)
    (l_mtakeat : K.lookup f_mtakeat = some ⟨oc_mtakeat, od_mtakeat, .func (PySem.W.fnOf "take_at" "Sheet.take_at" (defArgs sTAt) (defBody sTAt) (defScope sTAt) .none kV_mtakeat dc_mtakeat pm_mtakeat an_mtakeat cd_mtakeat ct_mtakeat), sl_mtakeat⟩)
    (c_mtakeat : PySem.W.codeIn K cd_mtakeat "Sheet.take_at" = true)
    (k_mtakeat : PySem.W.keepIn K (.ref f_mtakeat) = true)
    (a_mtakekeep : PySem.W.findIn K (.ref C) "take_keep" = some (some (.ref f_mtakekeep)))
    (i_mtakekeep : PySem.W.isFn K (.ref f_mtakekeep) = true)
    (l_mtakekeep : K.lookup f_mtakekeep = some ⟨oc_mtakekeep, od_mtakekeep, .func (PySem.W.fnOf "take_keep" "Sheet.take_keep" (defArgs sTKeep) (defBody sTKeep) (defScope sTKeep) .none kV_mtakekeep dc_mtakekeep pm_mtakekeep an_mtakekeep cd_mtakekeep ct_mtakekeep), sl_mtakekeep⟩)
    (c_mtakekeep : PySem.W.codeIn K cd_mtakekeep "Sheet.take_keep" = true)
    (k_mtakekeep : PySem.W.keepIn K (.ref f_mtakekeep) = true)
    (a_mtakeworth : PySem.W.findIn K (.ref C) "take_worth" = some (some (.ref f_mtakeworth)))
    (i_mtakeworth : PySem.W.isFn K (.ref f_mtakeworth) = true)
    (l_mtakeworth : K.lookup f_mtakeworth = some ⟨oc_mtakeworth, od_mtakeworth, .func (PySem.W.fnOf "take_worth" "Sheet.take_worth" (defArgs sTWorth) (defBody sTWorth) (defScope sTWorth) .none kV_mtakeworth dc_mtakeworth pm_mtakeworth an_mtakeworth cd_mtakeworth ct_mtakeworth), sl_mtakeworth⟩)
    (c_mtakeworth : PySem.W.codeIn K cd_mtakeworth "Sheet.take_worth" = true)
    (k_mtakeworth : PySem.W.keepIn K (.ref f_mtakeworth) = true)
    (a_mlay : PySem.W.findIn K (.ref C) "lay" = some (some (.ref f_mlay)))
    (i_mlay : PySem.W.isFn K (.ref f_mlay) = true)
    (l_mlay : K.lookup f_mlay = some ⟨oc_mlay, od_mlay, .func (PySem.W.fnOf "lay" "Sheet.lay" (defArgs sLay) (defBody sLay) (defScope sLay) .none kV_mlay dc_mlay pm_mlay an_mlay cd_mlay ct_mlay), sl_mlay⟩)
    (c_mlay : PySem.W.codeIn K cd_mlay "Sheet.lay" = true)
    (k_mlay : PySem.W.keepIn K (.ref f_mlay) = true)
    (a_mputnamesin : PySem.W.findIn K (.ref C) "put_names_in" = some (some (.ref f_mputnamesin)))
    (i_mputnamesin : PySem.W.isFn K (.ref f_mputnamesin) = true)
    (l_mputnamesin : K.lookup f_mputnamesin = some ⟨oc_mputnamesin, od_mputnamesin, .func (PySem.W.fnOf "put_names_in" "Sheet.put_names_in" (defArgs sPut) (defBody sPut) (defScope sPut) .none kV_mputnamesin dc_mputnamesin pm_mputnamesin an_mputnamesin cd_mputnamesin ct_mputnamesin), sl_mputnamesin⟩)
    (c_mputnamesin : PySem.W.codeIn K cd_mputnamesin "Sheet.put_names_in" = true)
    (k_mputnamesin : PySem.W.keepIn K (.ref f_mputnamesin) = true)
    (pg : PySem.W.plainGet K C Str.empty = true)
    (hd : PySem.W.hasDictIn K C = true)
    (po : PySem.W.plainOver K C = true)
    (sa : PySem.W.findIn K (.ref C) "__setattr__" = some (some (.builtin "object.__setattr__")))
    (mk : PySem.W.makesIn K C = true)
    (kc : PySem.W.keepIn K (.ref C) = true)
    (n_words : PySem.W.findIn K (.ref C) "words" = some none)
    (n_names : PySem.W.findIn K (.ref C) "names" = some none)
    (n_uses : PySem.W.findIn K (.ref C) "uses" = some none)
    (g_X_SPAN : PySem.W.nsIn K mainGlobals "X_SPAN" = some (some (.int 1024 t_X_SPAN)))
    (g_FIGURES_MOST : PySem.W.nsIn K mainGlobals "FIGURES_MOST" = some (some (.int 5 t_FIGURES_MOST)))
    (g_LETTERS_MOST : PySem.W.nsIn K mainGlobals "LETTERS_MOST" = some (some (.int 8 t_LETTERS_MOST)))
    (g_FLASH_END : PySem.W.nsIn K mainGlobals "FLASH_END" = some (some (.int 512 t_FLASH_END)))
    (g_WORD_MOST : PySem.W.nsIn K mainGlobals "WORD_MOST" = some (some (.int 65535 t_WORD_MOST)))
    (g_ERASED : PySem.W.nsIn K mainGlobals "ERASED" = some (some (.int 65535 t_ERASED)))
    (g_aN : PySem.W.nsIn K mainGlobals "OP_NAMES" = some (some (.ref aN)))
    (l_aN : K.lookup aN = some ⟨.type "tuple", none, .seq its_aN n_aN, sl_aN⟩)
    (v_aN : relB opN its_aN.toList = true)
    (g_aX : PySem.W.nsIn K mainGlobals "OPS_WITH_X" = some (some (.ref aX)))
    (l_aX : K.lookup aX = some ⟨.type "tuple", none, .seq its_aX n_aX, sl_aX⟩)
    (v_aX : relB opX its_aX.toList = true)
    (z_len : PySem.W.nsIn K mainGlobals "len" = some none)
    (z_int : PySem.W.nsIn K mainGlobals "int" = some none)
    (z_enumerate : PySem.W.nsIn K mainGlobals "enumerate" = some none)
    (z_range : PySem.W.nsIn K mainGlobals "range" = some none)
    (z_sorted : PySem.W.nsIn K mainGlobals "sorted" = some none)
    (z_str : PySem.W.nsIn K mainGlobals "str" = some none)
    (z_dict : PySem.W.nsIn K mainGlobals "dict" = some none)
    (z_list : PySem.W.nsIn K mainGlobals "list" = some none)
    (z_isinstance : PySem.W.nsIn K mainGlobals "isinstance" = some none)
    (z_tuple : PySem.W.nsIn K mainGlobals "tuple" = some none)
    : ∃ fd : FuncData, (∀ (s : Shared) (v : Value), BindsTo s fd ⟨[v], []⟩ [("_law_script", v)]) ∧ ∀ base : Heap, K.In base → base.Ns mainGlobals mg → FnOk l.prog w K mg base CX0 7 fa fd ["_law_script"] (spLaw K) := by
  have e := hfa.symm.trans (PySem.W.mg_of X G a_law)
  cases e
  have T : Tx K mg aN aX C := {
    xs := ⟨_, PySem.W.mg_of X G g_X_SPAN⟩
    fm := ⟨_, PySem.W.mg_of X G g_FIGURES_MOST⟩
    lm := ⟨_, PySem.W.mg_of X G g_LETTERS_MOST⟩
    fe := ⟨_, PySem.W.mg_of X G g_FLASH_END⟩
    wm := ⟨_, PySem.W.mg_of X G g_WORD_MOST⟩
    er := ⟨_, PySem.W.mg_of X G g_ERASED⟩
    gN := PySem.W.mg_of X G g_aN
    vN := tup_of l_aN v_aN (by decide)
    tN := ⟨_, l_aN, rfl, rfl⟩
    gX := PySem.W.mg_of X G g_aX
    vX := tup_of l_aX v_aX (by decide)
    len := PySem.W.mg_none_of X G z_len
    int := PySem.W.mg_none_of X G z_int
    enu := PySem.W.mg_none_of X G z_enumerate
    cl := ⟨pg, hd, po, sa⟩
    nW := n_words
    nN := n_names
    nU := n_uses
    gC := PySem.W.mg_of X G aC }
  have F_figured := fun_mk (st := sFig) l_figured c_figured k_figured
  have F_numberof := fun_mk (st := sNum) l_numberof c_numberof k_numberof
  have b_figured := F_figured.binds (ps := ["part", "most"]) fun _ _ _ _ _ _ us hl => match us, hl with | [_, _], _ => rfl
  have b_numberof := F_numberof.binds (ps := ["part"]) fun _ _ _ _ _ _ us hl => match us, hl with | [_], _ => rfl
  have F_isname := fun_mk (st := sNm) l_isname c_isname k_isname
  have b_isname := F_isname.binds (ps := ["part"]) fun _ _ _ _ _ _ us hl => match us, hl with | [_], _ => rfl
  have F_typed := fun_mk (st := sTyped) l_typed c_typed k_typed
  have b_typed := F_typed.binds (ps := ["text"]) fun _ _ _ _ _ _ us hl => match us, hl with | [_], _ => rfl
  have F_llawdigits := fun_mk (st := sDig) l_llawdigits c_llawdigits k_llawdigits
  have b_llawdigits := F_llawdigits.binds (ps := ["_law_cell_here", "_law_many"]) fun _ _ _ _ _ _ us hl => match us, hl with | [_, _], _ => rfl
  have F_llawnames := fun_mk (st := sNames) l_llawnames c_llawnames k_llawnames
  have b_llawnames := F_llawnames.binds (ps := ["_law_row"]) fun _ _ _ _ _ _ us hl => match us, hl with | [_], _ => rfl
  have F_llawpart := fun_mk (st := sPart) l_llawpart c_llawpart k_llawpart
  have b_llawpart := F_llawpart.binds (ps := ["_law_row", "_law_at", "_law_names_here", "_law_named"]) fun _ _ _ _ _ _ us hl => match us, hl with | [_, _, _, _], _ => rfl
  have F_llawrows := fun_mk (st := sRows) l_llawrows c_llawrows k_llawrows
  have b_llawrows := F_llawrows.binds (ps := ["_law_row", "_law_names_here"]) fun _ _ _ _ _ _ us hl => match us, hl with | [_, _], _ => rfl
  have F_law := fun_mk (st := sLaw) l_law c_law k_law
  have F_minit := fun_mk (st := sInit) l_minit c_minit k_minit
  have b_minit := F_minit.binds (ps := ["self"]) fun _ _ _ _ _ _ us hl => match us, hl with | [_], _ => rfl
  have F_mtake := fun_mk (st := sTake) l_mtake c_mtake k_mtake
  have b_mtake := F_mtake.binds (ps := ["self", "at", "row"]) fun _ _ _ _ _ _ us hl => match us, hl with | [_, _, _], _ => rfl
  have F_mtakename := fun_mk (st := sTName) l_mtakename c_mtakename k_mtakename
  have b_mtakename := F_mtakename.binds (ps := ["self", "name"]) fun _ _ _ _ _ _ us hl => match us, hl with | [_, _], _ => rfl
  have F_mtakebare := fun_mk (st := sTBare) l_mtakebare c_mtakebare k_mtakebare
  have b_mtakebare := F_mtakebare.binds (ps := ["self", "op"]) fun _ _ _ _ _ _ us hl => match us, hl with | [_, _], _ => rfl
  have F_mtakepair := fun_mk (st := sTPair) l_mtakepair c_mtakepair k_mtakepair
  have b_mtakepair := F_mtakepair.binds (ps := ["self", "at", "head", "part"]) fun _ _ _ _ _ _ us hl => match us, hl with | [_, _, _, _], _ => rfl
  have F_mtakeat := fun_mk (st := sTAt) l_mtakeat c_mtakeat k_mtakeat
  have b_mtakeat := F_mtakeat.binds (ps := ["self", "address"]) fun _ _ _ _ _ _ us hl => match us, hl with | [_, _], _ => rfl
  have F_mtakekeep := fun_mk (st := sTKeep) l_mtakekeep c_mtakekeep k_mtakekeep
  have b_mtakekeep := F_mtakekeep.binds (ps := ["self", "many"]) fun _ _ _ _ _ _ us hl => match us, hl with | [_, _], _ => rfl
  have F_mtakeworth := fun_mk (st := sTWorth) l_mtakeworth c_mtakeworth k_mtakeworth
  have b_mtakeworth := F_mtakeworth.binds (ps := ["self", "at", "base", "part", "most"]) fun _ _ _ _ _ _ us hl => match us, hl with | [_, _, _, _, _], _ => rfl
  have F_mlay := fun_mk (st := sLay) l_mlay c_mlay k_mlay
  have b_mlay := F_mlay.binds (ps := ["self", "word", "many"]) fun _ _ _ _ _ _ us hl => match us, hl with | [_, _, _], _ => rfl
  have F_mputnamesin := fun_mk (st := sPut) l_mputnamesin c_mputnamesin k_mputnamesin
  have b_mputnamesin := F_mputnamesin.binds (ps := ["self"]) fun _ _ _ _ _ _ us hl => match us, hl with | [_], _ => rfl
  refine ⟨PySem.W.fnOf "law" "law" (defArgs sLaw) (defBody sLaw) (defScope sLaw) .none kV_law dc_law pm_law an_law cd_law ct_law, fun s v => .of_eq rfl, fun base _ _ => ?_⟩
  have C_isname : CalF l.prog w K mg base 2 "is_name" ["part"] spNm _ _ := ⟨PySem.W.mg_of X G a_isname, k_isname, b_isname, ok_nm F_isname T⟩
  have C_numberof : CalF l.prog w K mg base 2 "number_of" ["part"] spNum _ _ := ⟨PySem.W.mg_of X G a_numberof, k_numberof, b_numberof, ok_num F_numberof T F_figured b_figured (PySem.W.mg_of X G a_figured)⟩
  have C_mlay : CalM l.prog w K mg base C 2 "lay" ["self", "word", "many"] (spM C aLay) _ _ := ⟨⟨a_mlay, i_mlay, k_mlay⟩, b_mlay, ok_lay F_mlay T⟩
  have C_mtakename : CalM l.prog w K mg base C 3 "take_name" ["self", "name"] (spM C aName) _ _ := ⟨⟨a_mtakename, i_mtakename, k_mtakename⟩, b_mtakename, ok_tname F_mtakename T C_isname⟩
  have C_mtakebare : CalM l.prog w K mg base C 3 "take_bare" ["self", "op"] (spM C aBare) _ _ := ⟨⟨a_mtakebare, i_mtakebare, k_mtakebare⟩, b_mtakebare, ok_tbare F_mtakebare T C_mlay⟩
  have C_mtakeat : CalM l.prog w K mg base C 3 "take_at" ["self", "address"] (spM C aAt) _ _ := ⟨⟨a_mtakeat, i_mtakeat, k_mtakeat⟩, b_mtakeat, ok_tat F_mtakeat T C_mlay⟩
  have C_mtakekeep : CalM l.prog w K mg base C 3 "take_keep" ["self", "many"] (spM C aKeep) _ _ := ⟨⟨a_mtakekeep, i_mtakekeep, k_mtakekeep⟩, b_mtakekeep, ok_tkeep F_mtakekeep T C_mlay⟩
  have C_mtakeworth : CalM l.prog w K mg base C 3 "take_worth" ["self", "at", "base", "part", "most"] (spM C aWorth) _ _ := ⟨⟨a_mtakeworth, i_mtakeworth, k_mtakeworth⟩, b_mtakeworth, ok_tworth F_mtakeworth T C_mlay C_isname C_numberof⟩
  have C_mtakepair : CalM l.prog w K mg base C 4 "take_pair" ["self", "at", "head", "part"] (spM C aPair) _ _ := ⟨⟨a_mtakepair, i_mtakepair, k_mtakepair⟩, b_mtakepair, ok_tpair F_mtakepair T C_mtakeat C_mtakekeep C_mtakeworth C_numberof⟩
  have C_mtake : CalM l.prog w K mg base C 5 "take" ["self", "at", "row"] (spM C aTake) _ _ := ⟨⟨a_mtake, i_mtake, k_mtake⟩, b_mtake, ok_take F_mtake T C_mtakename C_mtakebare C_mtakepair⟩
  have C_mputnamesin : CalM l.prog w K mg base C 2 "put_names_in" ["self"] (spPut C) _ _ := ⟨⟨a_mputnamesin, i_mputnamesin, k_mputnamesin⟩, b_mputnamesin, ok_put F_mputnamesin T⟩
  have C_typed : CalF l.prog w K mg base 6 "typed" ["text"] spTyped _ _ := ⟨PySem.W.mg_of X G a_typed, k_typed, b_typed, ok_typed F_typed T ⟨mk, a_minit, i_minit, kc⟩ (ok_init F_minit T) b_minit C_mtake C_mputnamesin⟩
  have C_llawdigits : CalF l.prog w K mg base 2 "_law_digits" ["_law_cell_here", "_law_many"] spDig _ _ := ⟨PySem.W.mg_of X G a_llawdigits, k_llawdigits, b_llawdigits, ok_dig F_llawdigits (PySem.W.mg_none_of X G z_range)⟩
  have C_llawnames : CalF l.prog w K mg base 2 "_law_names" ["_law_row"] (spNames K) _ _ := ⟨PySem.W.mg_of X G a_llawnames, k_llawnames, b_llawnames, ok_names F_llawnames (PySem.W.mg_none_of X G z_range)⟩
  have C_llawpart : CalF l.prog w K mg base 2 "_law_part" ["_law_row", "_law_at", "_law_names_here", "_law_named"] (spPart K) _ _ := ⟨PySem.W.mg_of X G a_llawpart, k_llawpart, b_llawpart, ok_part F_llawpart (PySem.W.mg_none_of X G z_sorted) (PySem.W.mg_none_of X G z_len) (PySem.W.mg_none_of X G z_str)⟩
  have C_llawrows : CalF l.prog w K mg base 3 "_law_rows" ["_law_row", "_law_names_here"] (spRows K) _ _ := ⟨PySem.W.mg_of X G a_llawrows, k_llawrows, b_llawrows, ok_rows F_llawrows C_llawpart (PySem.W.mg_none_of X G z_dict) (PySem.W.mg_none_of X G z_list) (PySem.W.mg_none_of X G z_range) (PySem.W.mg_none_of X G z_str)⟩
  exact ok_law F_law C_llawdigits C_llawnames C_llawrows C_typed (PySem.W.mg_none_of X G z_range) (PySem.W.mg_none_of X G z_isinstance) (PySem.W.mg_none_of X G z_tuple)
end Bh

open PySem PySem.W PyProof.Rows in
set_option maxRecDepth 100000 in
set_option maxHeartbeats 0 in
theorem PySem.Challenge.cw_boardheld_k03_whole_texts_with_names_holds : PySem.Challenge.rw_boardheld_k03_whole_texts_with_names.Holds := by
  w_on; o_law; k_head; (case hw => w_witness2)
  k_fill
  refine L2.walk_of (l := PySem.Challenge.rw_boardheld_k03_whole_texts_with_names) (n := 63) (k := 7) (x := "_law_script") (CX := fun _ => L2.CX0) (sp := fun w => Bh.spLaw _) rfl (by decide) rfl ⟨rfl, by decide, by decide⟩ (fun w h Y => PySem.W.kIn_of Y) ?F (fun _ _ a ns hl _ hS => ⟨a, ns, rfl, hS, hl, fun _ => rfl⟩) (fun _ _ _ _ _ h => h)
  case F =>
    intro w mg fa h KX G hmg
    refine' Bh.all_mk KX G hmg ?a_figured ?l_figured ?c_figured ?k_figured ?a_numberof ?l_numberof ?c_numberof ?k_numberof ?a_isname ?l_isname ?c_isname ?k_isname ?a_typed ?l_typed ?c_typed ?k_typed ?a_llawdigits ?l_llawdigits ?c_llawdigits ?k_llawdigits ?a_llawnames ?l_llawnames ?c_llawnames ?k_llawnames ?a_llawpart ?l_llawpart ?c_llawpart ?k_llawpart ?a_llawrows ?l_llawrows ?c_llawrows ?k_llawrows ?a_law ?l_law ?c_law ?k_law ?aC ?a_minit ?i_minit ?l_minit ?c_minit ?k_minit ?a_mtake ?i_mtake ?l_mtake ?c_mtake ?k_mtake ?a_mtakename ?i_mtakename ?l_mtakename ?c_mtakename ?k_mtakename ?a_mtakebare ?i_mtakebare ?l_mtakebare ?c_mtakebare ?k_mtakebare ?a_mtakepair ?i_mtakepair ?l_mtakepair ?c_mtakepair ?k_mtakepair ?a_mtakeat ?i_mtakeat ?l_mtakeat ?c_mtakeat ?k_mtakeat ?a_mtakekeep ?i_mtakekeep ?l_mtakekeep ?c_mtakekeep ?k_mtakekeep ?a_mtakeworth ?i_mtakeworth ?l_mtakeworth ?c_mtakeworth ?k_mtakeworth ?a_mlay ?i_mlay ?l_mlay ?c_mlay ?k_mlay ?a_mputnamesin ?i_mputnamesin ?l_mputnamesin ?c_mputnamesin ?k_mputnamesin ?pg ?hd ?po ?sa ?mk ?kc ?n_words ?n_names ?n_uses ?g_X_SPAN ?g_FIGURES_MOST ?g_LETTERS_MOST ?g_FLASH_END ?g_WORD_MOST ?g_ERASED ?g_aN ?l_aN ?v_aN ?g_aX ?l_aX ?v_aX ?z_len ?z_int ?z_enumerate ?z_range ?z_sorted ?z_str ?z_dict ?z_list ?z_isinstance ?z_tuple
    (case a_figured => k_is)
    (case l_figured => k_is)
    (case c_figured => k_is)
    (case k_figured => k_is)
    (case a_numberof => k_is)
    (case l_numberof => k_is)
    (case c_numberof => k_is)
    (case k_numberof => k_is)
    (case a_isname => k_is)
    (case l_isname => k_is)
    (case c_isname => k_is)
    (case k_isname => k_is)
    (case a_typed => k_is)
    (case l_typed => k_is)
    (case c_typed => k_is)
    (case k_typed => k_is)
    (case a_llawdigits => k_is)
    (case l_llawdigits => k_is)
    (case c_llawdigits => k_is)
    (case k_llawdigits => k_is)
    (case a_llawnames => k_is)
    (case l_llawnames => k_is)
    (case c_llawnames => k_is)
    (case k_llawnames => k_is)
    (case a_llawpart => k_is)
    (case l_llawpart => k_is)
    (case c_llawpart => k_is)
    (case k_llawpart => k_is)
    (case a_llawrows => k_is)
    (case l_llawrows => k_is)
    (case c_llawrows => k_is)
    (case k_llawrows => k_is)
    (case a_law => k_is)
    (case l_law => k_is)
    (case c_law => k_is)
    (case k_law => k_is)
    (case aC => k_is)
    (case a_minit => k_is)
    (case i_minit => k_is)
    (case l_minit => k_is)
    (case c_minit => k_is)
    (case k_minit => k_is)
    (case a_mtake => k_is)
    (case i_mtake => k_is)
    (case l_mtake => k_is)
    (case c_mtake => k_is)
    (case k_mtake => k_is)
    (case a_mtakename => k_is)
    (case i_mtakename => k_is)
    (case l_mtakename => k_is)
    (case c_mtakename => k_is)
    (case k_mtakename => k_is)
    (case a_mtakebare => k_is)
    (case i_mtakebare => k_is)
    (case l_mtakebare => k_is)
    (case c_mtakebare => k_is)
    (case k_mtakebare => k_is)
    (case a_mtakepair => k_is)
    (case i_mtakepair => k_is)
    (case l_mtakepair => k_is)
    (case c_mtakepair => k_is)
    (case k_mtakepair => k_is)
    (case a_mtakeat => k_is)
    (case i_mtakeat => k_is)
    (case l_mtakeat => k_is)
    (case c_mtakeat => k_is)
    (case k_mtakeat => k_is)
    (case a_mtakekeep => k_is)
    (case i_mtakekeep => k_is)
    (case l_mtakekeep => k_is)
    (case c_mtakekeep => k_is)
    (case k_mtakekeep => k_is)
    (case a_mtakeworth => k_is)
    (case i_mtakeworth => k_is)
    (case l_mtakeworth => k_is)
    (case c_mtakeworth => k_is)
    (case k_mtakeworth => k_is)
    (case a_mlay => k_is)
    (case i_mlay => k_is)
    (case l_mlay => k_is)
    (case c_mlay => k_is)
    (case k_mlay => k_is)
    (case a_mputnamesin => k_is)
    (case i_mputnamesin => k_is)
    (case l_mputnamesin => k_is)
    (case c_mputnamesin => k_is)
    (case k_mputnamesin => k_is)
    (case pg => k_is)
    (case hd => k_is)
    (case po => k_is)
    (case sa => k_is)
    (case mk => k_is)
    (case kc => k_is)
    (case n_words => k_is)
    (case n_names => k_is)
    (case n_uses => k_is)
    (case g_X_SPAN => k_is)
    (case g_FIGURES_MOST => k_is)
    (case g_LETTERS_MOST => k_is)
    (case g_FLASH_END => k_is)
    (case g_WORD_MOST => k_is)
    (case g_ERASED => k_is)
    (case g_aN => k_is)
    (case l_aN => k_is)
    (case v_aN => decide +kernel)
    (case g_aX => k_is)
    (case l_aX => k_is)
    (case v_aX => decide +kernel)
    (case z_len => k_is)
    (case z_int => k_is)
    (case z_enumerate => k_is)
    (case z_range => k_is)
    (case z_sorted => k_is)
    (case z_str => k_is)
    (case z_dict => k_is)
    (case z_list => k_is)
    (case z_isinstance => k_is)
    (case z_tuple => k_is)

