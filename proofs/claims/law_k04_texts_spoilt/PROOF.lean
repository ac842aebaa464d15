import PyProof.Rows.All
import Wide.All
import OpenK.AllK
import Wide.FinOn
import HandS.ForMost
import HandS.FStr
import HandS.Strs
import HandS.StrMore
import HandS.DeepEq
import HandS.OwnEq
import HandS.DictComp
import HandS.IsInst
import HandS.Finally
import HandS.ForExc
import HandS.ExcIs
import HandS.SetKeys
import KE.DataEq
import PySem.Challenge.RW_boardheld_k04_texts_spoilt
set_option Elab.async false
set_option linter.all false
set_option maxRecDepth 100000
set_option maxHeartbeats 4000000
/-! Texts and rows: what a row of a word is, what a row of a text lays. Plain lists of codes; no program here. -/
namespace Bh
open PySem PySem.Spec PyProof.Rows L2
open TL

/-! ### codes below 128 -/
theorem dig_small : ∀ c : Nat, c < 128 → Unicode.isDigit c = (decide (48 ≤ c) && decide (c ≤ 57)) := by decide +kernel
theorem alp_small : ∀ c : Nat, c < 128 → Unicode.isAlpha c = ((decide (65 ≤ c) && decide (c ≤ 90)) || (decide (97 ≤ c) && decide (c ≤ 122))) := by decide +kernel
theorem low_small : ∀ c : Nat, c < 128 → Unicode.isLower c = (decide (97 ≤ c) && decide (c ≤ 122)) := by decide +kernel
theorem upp_small : ∀ c : Nat, c < 128 → Unicode.isUpper c = (decide (65 ≤ c) && decide (c ≤ 90)) := by decide +kernel
theorem tit_small : ∀ c : Nat, c < 128 → Unicode.isTitle c = false := by decide +kernel

/-- a text by its codes -/
def sS (l : List Nat) : Str := ⟨l.toArray⟩
theorem tl_sS (l : List Nat) : tl (sS l) = l := rfl
theorem sS_tl (x : Str) : sS (tl x) = x := mk_tl x
theorem sS_inj {l m : List Nat} (h : sS l = sS m) : l = m := by
  have e := congrArg tl h
  exact e
theorem eq_sS {x : Str} {l : List Nat} (h : tl x = l) : x = sS l := by
  rw [← h]
  exact (mk_tl x).symm
theorem len_sS (l : List Nat) : (sS l).length = l.length := by
  rw [len_tl, tl_sS]
theorem all_tl (x : Str) (f : Nat → Bool) : x.cps.all f = (tl x).all f := by
  show x.cps.all f = x.cps.toList.all f
  simp
theorem any_tl (x : Str) (f : Nat → Bool) : x.cps.any f = (tl x).any f := by
  show x.cps.any f = x.cps.toList.any f
  simp

def digB (c : Nat) : Bool := decide (48 ≤ c) && decide (c ≤ 57)
def lowB (c : Nat) : Bool := decide (97 ≤ c) && decide (c ≤ 122)

/-- isascii and isdigit, together -/
theorem asc_dig (x : Str) : (Txt.isascii x && Txt.isdigit x) = (!(tl x).isEmpty && (tl x).all digB) := by
  unfold Txt.isascii Txt.isdigit
  rw [all_tl, all_tl, len_tl]
  generalize tl x = l
  cases l with
  | nil => rfl
  | cons a r =>
    have e : ∀ m : List Nat, (m.all (· < 128) && m.all Unicode.isDigit) = m.all digB := by
      intro m
      induction m with
      | nil => rfl
      | cons c t ih =>
        simp only [List.all_cons]
        rw [← ih]
        by_cases hc : c < 128
        · rw [dig_small c hc]
          unfold digB
          simp [hc]
          cases decide (48 ≤ c) <;> cases decide (c ≤ 57) <;> simp
        · have : digB c = false := by
            unfold digB
            simp
            omega
          rw [this]
          simp [hc]
    rw [← e]
    simp
theorem asc_low (x : Str) : (Txt.isascii x && (Txt.isalpha x && Txt.islower x)) = (!(tl x).isEmpty && (tl x).all lowB) := by
  unfold Txt.isascii Txt.isalpha Txt.islower
  rw [all_tl, all_tl, any_tl, any_tl, len_tl]
  generalize tl x = l
  by_cases ha : l.all (· < 128) = true
  · have hc : ∀ c ∈ l, c < 128 := by simpa [List.all_eq_true] using ha
    rw [ha, Bool.true_and]
    have e1 : l.all Unicode.isAlpha = l.all (fun c => (decide (65 ≤ c) && decide (c ≤ 90)) || lowB c) := by
      rw [Bool.eq_iff_iff, List.all_eq_true, List.all_eq_true]
      constructor <;> intro h c hm <;> have := h c hm <;> rw [alp_small c (hc c hm)] at * <;> exact this
    have e2 : l.any Unicode.isLower = l.any lowB := by
      rw [Bool.eq_iff_iff, List.any_eq_true, List.any_eq_true]
      constructor <;> rintro ⟨c, hm, h⟩ <;> refine ⟨c, hm, ?_⟩ <;> rw [low_small c (hc c hm)] at * <;> exact h
    have e3 : (l.any fun c => Unicode.isUpper c || Unicode.isTitle c) = l.any fun c => decide (65 ≤ c) && decide (c ≤ 90) := by
      rw [Bool.eq_iff_iff, List.any_eq_true, List.any_eq_true]
      constructor <;> rintro ⟨c, hm, h⟩ <;> refine ⟨c, hm, ?_⟩ <;> rw [upp_small c (hc c hm), tit_small c (hc c hm), Bool.or_false] at * <;> exact h
    rw [e1, e2, e3]
    cases l with
    | nil => rfl
    | cons a r =>
      rw [Bool.eq_iff_iff]
      simp only [List.isEmpty_cons, Bool.not_false, Bool.true_and, Bool.and_eq_true, List.all_eq_true, List.any_eq_true, Bool.not_eq_true', List.any_eq_false]
      constructor
      · rintro ⟨⟨_, h1⟩, _, h3⟩ c hm
        have q := h1 c hm
        have q3 := h3 c hm
        rw [Bool.or_eq_true] at q
        rcases q with q | q
        · exact absurd (Eq.mp (Bool.and_eq_true _ _) q) q3
        · exact q
      · intro h
        refine ⟨⟨by simp, fun c hm => by rw [h c hm]; simp⟩, ⟨a, List.mem_cons_self, h a List.mem_cons_self⟩, fun c hm => ?_⟩
        have := h c hm
        unfold lowB at this
        simp at this ⊢
        omega
  · have hf : l.all (· < 128) = false := by simpa using ha
    rw [hf, Bool.false_and]
    symm
    rw [Bool.and_eq_false_iff]
    right
    rw [← Bool.not_eq_true]
    intro h
    apply ha
    rw [List.all_eq_true] at h ⊢
    intro c hm
    have := h c hm
    unfold lowB at this
    simp at this ⊢
    omega

/-! ### numbers and names of a row -/
/-- what number a part writes -/
def numOf (p : Str) : Option Int :=
  if (!(tl p).isEmpty && (tl p).all digB && decide ((tl p).length ≤ 5)) = true then
    (if ((tl p).head? = some 48 ∧ tl p ≠ [48]) then none else some ((NumText.digitsVal (tl p) : Nat) : Int))
  else none
def isNm (p : Str) : Bool := !(tl p).isEmpty && (tl p).all lowB && decide ((tl p).length ≤ 8)
theorem allDig {l : List Nat} (h : l.all digB = true) : NumText.AllDigits l := by
  intro c hm
  have q := (List.all_eq_true.mp h) c hm
  unfold digB at q
  simp at q
  exact q
theorem numOf_nonneg {p : Str} {n : Int} (h : numOf p = some n) : 0 ≤ n := by
  unfold numOf at h
  split at h
  · split at h
    · cases h
    · cases h
      exact Int.natCast_nonneg _
  · cases h
theorem dv_lt : ∀ (l : List Nat), NumText.AllDigits l → NumText.digitsVal l < 10 ^ l.length := by
  have key : ∀ (l : List Nat) (a : Nat), NumText.AllDigits l → l.foldl (fun acc c => acc * 10 + (c - 48)) a < (a + 1) * 10 ^ l.length := by
    intro l
    induction l with
    | nil => intro a _; simp
    | cons c r ih =>
      intro a h
      have hc : 48 ≤ c ∧ c ≤ 57 := h c List.mem_cons_self
      have q := ih (a * 10 + (c - 48)) (fun d hd => h d (List.mem_cons_of_mem _ hd))
      rw [List.foldl_cons, List.length_cons, Nat.pow_succ]
      refine Nat.lt_of_lt_of_le q ?_
      have : (a * 10 + (c - 48) + 1) ≤ (a + 1) * 10 := by omega
      calc (a * 10 + (c - 48) + 1) * 10 ^ r.length ≤ ((a + 1) * 10) * 10 ^ r.length := Nat.mul_le_mul_right _ this
        _ = (a + 1) * (10 ^ r.length * 10) := by rw [Nat.mul_assoc, Nat.mul_comm 10]
  intro l h
  have := key l 0 h
  simpa [NumText.digitsVal] using this
theorem numOf_lt {p : Str} {n : Int} (h : numOf p = some n) : n < 100000 := by
  unfold numOf at h
  split at h
  · rename_i hc
    split at h
    · cases h
    · cases h
      simp only [Bool.and_eq_true, decide_eq_true_eq] at hc
      have q := dv_lt (tl p) (allDig hc.1.2)
      have q2 : 10 ^ (tl p).length ≤ 10 ^ 5 := Nat.pow_le_pow_right (by decide) hc.2
      omega
  · cases h

/-! ### the ops -/
def opN : List Str := ["mark", "lit", "get", "put", "add", "sub", "and", "xor", "getb", "putb", "tob", "swap", "go", "ifz", "ifn", "call", "ret", "push", "pop", "sleep", "let", "back", "half"]
def opX : List Str := ["lit", "get", "put", "add", "sub", "and", "xor", "getb", "putb", "go", "ifz", "ifn", "call", "let"]
def nmL (op : Nat) : List Nat := tl (opN.getD op Str.empty)
def posN (z : Str) : Nat := opN.findIdx (fun y => y == z)
def wordL (w : Nat) : List Nat := [119, 111, 114, 100, 32] ++ numL w
/-- the row of a word, its codes -/
def rowL (w : Nat) : List Nat :=
  if 23 ≤ w / 1024 then wordL w else
  if opN.getD (w / 1024) Str.empty ∈ opX then nmL (w / 1024) ++ 32 :: numL (w % 1024) else
  if w % 1024 = 0 then nmL (w / 1024) else wordL w
def rowM (w : Nat) : Str := sS (rowL w)

/-! ### the mirror of the sheet -/
structure Sh where
  words : List Int
  names : List (Str × Int)
  uses : List (Int × Int × Str)
def sh0 : Sh := ⟨[], [], []⟩
def layM (w : Int) (m : Int) (s : Sh) : Bool × Sh :=
  if (s.words.length : Int) + m > 512 then (false, s) else (true, { s with words := s.words ++ List.replicate m.toNat w })
def hasN (ns : List (Str × Int)) (x : Str) : Bool := ns.any fun p => p.1 == x
def nameM (x : Str) (s : Sh) : Bool × Sh :=
  if isNm x = false ∨ hasN s.names x = true then (false, s) else (true, { s with names := s.names ++ [(x, (s.words.length : Int))] })
def bareM (x : Str) (s : Sh) : Bool × Sh := if x ∉ opN ∨ x ∈ opX then (false, s) else layM ((posN x : Int) * 1024) 1 s
def worthM (at_ : Int) (base : Int) (p : Str) (most : Int) (s : Sh) : Bool × Sh :=
  if isNm p = true then layM base 1 { s with uses := s.uses ++ [(at_, (s.words.length : Int), p)] } else
  match numOf p with
  | none => (false, s)
  | some n => if n > most then (false, s) else layM (base + n) 1 s
def atM (o : Option Int) (s : Sh) : Bool × Sh := match o with
  | none => (false, s)
  | some n => if n < (s.words.length : Int) then (false, s) else layM 65535 (n - s.words.length) s
def keepM (o : Option Int) (s : Sh) : Bool × Sh := match o with
  | none => (false, s)
  | some n => layM 0 n s
def pairM (at_ : Int) (h p : Str) (s : Sh) : Bool × Sh :=
  if h = "at" then atM (numOf p) s else
  if h = "keep" then keepM (numOf p) s else
  if h = "word" then worthM at_ 0 p 65535 s else
  if h ∈ opX then worthM at_ ((posN h : Int) * 1024) p 1023 s else (false, s)
def takeM (at_ : Int) (row : Str) (s : Sh) : Bool × Sh :=
  if row = "" then (true, s) else
  if Txt.endswith row ":" = true then nameM (cutS row none (some (-1))) s else
  match Txt.split row " " with
  | [_] => bareM row s
  | [a, b] => pairM at_ a b s
  | _ => (false, s)
/-- the rows of a text, one behind the other -/
def runM : Int → List Str → Sh → Option Sh
  | _, [], s => some s
  | i, r :: rs, s => if (takeM i r s).1 = true then runM (i + 1) rs (takeM i r s).2 else none
end Bh

/-! The row of a word is read to the word. -/
namespace Bh
open PySem PySem.Spec PyProof.Rows L2
open TL
theorem ends_colon (x : Str) : Txt.endswith x ":" = true ↔ (tl x).getLast? = some 58 := by
  have e : (":" : Str) = ⟨#[58]⟩ := by decide +kernel
  rw [e]
  have h1 : (⟨#[58]⟩ : Str).length = 1 := rfl
  unfold Txt.endswith
  rw [List.getLast?_eq_getElem?, ← len_tl, Bool.and_eq_true, decide_eq_true_eq, h1]
  have q := PySem.StrLaws.subAt_one x 58 (x.length - 1)
  rw [h1] at q
  constructor
  · rintro ⟨a, b⟩
    exact q.mp ⟨by omega, b⟩
  · intro h
    have z := q.mpr h
    have : (tl x)[x.length - 1]? = some 58 := h
    have hl := (List.getElem?_eq_some_iff.mp this).1
    rw [← len_tl] at hl
    exact ⟨by omega, z.2⟩
theorem sp_tl : tl (" " : Str) = [32] := by decide +kernel
theorem sp_k : (" " : Str).cps.all (· < 256) = true := by decide +kernel
theorem split_two {p r : List Nat} (hp : 32 ∉ p) (hr : 32 ∉ r) : Txt.split (sS (p ++ 32 :: r)) " " = [sS p, sS r] := by
  apply map_tl_inj
  rw [split_spl _ _ (by rw [sp_tl]; exact List.cons_ne_nil _ _) (kind_ok sp_k), sp_tl]
  show spl [32] 0 [] (p ++ ([32] ++ r)) = _
  rw [spl_part1 hp, spl_last1 hr]
  rfl
theorem split_one {p : List Nat} (hp : 32 ∉ p) : Txt.split (sS p) " " = [sS p] := by
  apply map_tl_inj
  rw [split_spl _ _ (by rw [sp_tl]; exact List.cons_ne_nil _ _) (kind_ok sp_k), sp_tl]
  show spl [32] 0 [] p = _
  rw [spl_last1 hp]
  rfl
theorem sS_ne {l m : List Nat} (h : l ≠ m) : sS l ≠ sS m := fun e => h (sS_inj e)
theorem str_sS (x : Str) : x = sS (tl x) := (sS_tl x).symm
/-- a number's first figure -/
theorem numL_head : ∀ n : Nat, 1 ≤ n → ∃ c r, numL n = c :: r ∧ 49 ≤ c := by
  intro n
  induction n using Nat.strongRecOn with
  | _ n ih =>
    intro h1
    by_cases h : n < 10
    · rw [numL_lt h]
      exact ⟨48 + n, [], rfl, by omega⟩
    · obtain ⟨c, r, e, hc⟩ := ih (n / 10) (by omega) (by omega)
      rw [numL_step (by omega), e]
      exact ⟨c, r ++ [48 + n % 10], rfl, hc⟩
theorem numL_zero : numL 0 = [48] := numL_lt (by decide)
theorem numL_all (n : Nat) : (numL n).all digB = true := by
  rw [List.all_eq_true]
  intro c hm
  have q := numL_digits n c hm
  unfold digB
  simp
  exact q
theorem numOf_num {n : Nat} (h : n < 100000) : numOf (sS (numL n)) = some (n : Int) := by
  unfold numOf
  rw [tl_sS, numL_all]
  have hne : (numL n).isEmpty = false := by
    cases e : numL n with
    | nil => exact absurd e (numL_ne n)
    | cons _ _ => rfl
  have hl : (numL n).length ≤ 5 := numL_len (by decide) (by omega)
  rw [hne, decide_eq_true hl]
  rw [if_pos (by rfl), if_neg, numL_val]
  rintro ⟨h1, h2⟩
  by_cases h0 : n = 0
  · rw [h0] at h2
    exact h2 numL_zero
  · obtain ⟨c, r, e, hc⟩ := numL_head n (by omega)
    rw [e] at h1
    have := Option.some.inj h1
    omega
theorem not_nm_num (n : Nat) : isNm (sS (numL n)) = false := by
  unfold isNm
  rw [tl_sS]
  cases e : numL n with
  | nil => exact absurd e (numL_ne n)
  | cons c r =>
    have q := numL_digits n c (by rw [e]; exact List.mem_cons_self)
    have : lowB c = false := by
      unfold lowB
      have : decide (97 ≤ c) = false := decide_eq_false (by omega)
      rw [this]
      rfl
    rw [List.all_cons, this]
    rfl
theorem numL_nosp (n : Nat) : 32 ∉ numL n := numL_free (.inl (by decide))
theorem numL_last (n : Nat) (p : List Nat) : (p ++ numL n).getLast? ≠ some 58 := by
  intro h
  have hne := numL_ne n
  rw [List.getLast?_append] at h
  cases e : (numL n).getLast? with
  | none => exact hne (List.getLast?_eq_none_iff.mp e)
  | some c =>
    rw [e] at h
    have h' : some c = some 58 := h
    have hm := List.mem_of_getLast? e
    rw [Option.some.inj h'] at hm
    exact numL_free (.inr (by decide)) hm
/-- facts of the ops -/
def opOk (op : Nat) : Bool :=
  decide (posN (opN.getD op Str.empty) = op) && decide (opN.getD op Str.empty ∈ opN) && decide (32 ∉ nmL op) && decide (nmL op ≠ []) && decide ((nmL op).getLast? ≠ some 58) &&
    decide (opN.getD op Str.empty ≠ ("at" : Str)) && decide (opN.getD op Str.empty ≠ ("keep" : Str)) && decide (opN.getD op Str.empty ≠ ("word" : Str)) && decide (opN.getD op Str.empty ≠ ("" : Str))
theorem ops_ok : ∀ op : Nat, op < 23 → opOk op = true := by decide +kernel
theorem lay_one {w : Int} {s : Sh} (hl : s.words.length < 512) : layM w 1 s = (true, { s with words := s.words ++ [w] }) := by
  unfold layM
  rw [if_neg (by omega)]
  rfl
theorem take_row {i : Int} {w : Nat} (hw : w ≤ 65535) {s : Sh} (hl : s.words.length < 512) : takeM i (rowM w) s = (true, { s with words := s.words ++ [(w : Int)] }) := by
  have hword : ∀ s : Sh, s.words.length < 512 → takeM i (sS (wordL w)) s = (true, { s with words := s.words ++ [(w : Int)] }) := fun s hl => by
    have e0 : ("" : Str) = sS [] := by decide +kernel
    unfold takeM
    rw [e0, if_neg (sS_ne (by unfold wordL; simp))]
    rw [if_neg (fun h => numL_last w _ ((ends_colon _).mp h))]
    have e1 : sS (wordL w) = sS ([119, 111, 114, 100] ++ 32 :: numL w) := by
      unfold wordL
      simp
    rw [e1, split_two (by decide) (numL_nosp w)]
    show pairM i (sS [119, 111, 114, 100]) (sS (numL w)) s = _
    unfold pairM
    have n1 : ¬ sS [119, 111, 114, 100] = ("at" : Str) := by decide +kernel
    have n2 : ¬ sS [119, 111, 114, 100] = ("keep" : Str) := by decide +kernel
    have n3 : sS [119, 111, 114, 100] = ("word" : Str) := by decide +kernel
    rw [if_neg n1, if_neg n2, if_pos n3]
    unfold worthM
    rw [not_nm_num, if_neg Bool.false_ne_true, numOf_num (by omega)]
    show (if (w : Int) > 65535 then (false, s) else layM (0 + (w : Int)) 1 s) = _
    rw [if_neg (by omega), lay_one hl, Int.zero_add]
  unfold rowM rowL
  by_cases h23 : 23 ≤ w / 1024
  · rw [if_pos h23]
    exact hword s hl
  rw [if_neg h23]
  have ok := ops_ok (w / 1024) (by omega)
  unfold opOk at ok
  simp only [Bool.and_eq_true, decide_eq_true_eq] at ok
  obtain ⟨⟨⟨⟨⟨⟨⟨⟨o1, o2⟩, o3⟩, o4⟩, o5⟩, o6⟩, o7⟩, o8⟩, o9⟩ := ok
  have enm : sS (nmL (w / 1024)) = opN.getD (w / 1024) Str.empty := sS_tl _
  have e0 : ("" : Str) = sS [] := by decide +kernel
  by_cases hx : opN.getD (w / 1024) Str.empty ∈ opX
  · rw [if_pos hx]
    unfold takeM
    rw [e0, if_neg (sS_ne (by simp)), if_neg (fun h => by
      have q := (ends_colon _).mp h
      rw [tl_sS] at q
      have e : nmL (w / 1024) ++ 32 :: numL (w % 1024) = (nmL (w / 1024) ++ [32]) ++ numL (w % 1024) := by simp
      rw [e] at q
      exact numL_last _ _ q), split_two o3 (numL_nosp _)]
    show pairM i (sS (nmL (w / 1024))) (sS (numL (w % 1024))) s = _
    unfold pairM
    rw [enm, if_neg o6, if_neg o7, if_neg o8, if_pos hx, o1]
    unfold worthM
    rw [not_nm_num, if_neg Bool.false_ne_true, numOf_num (by omega)]
    show (if ((w % 1024 : Nat) : Int) > 1023 then (false, s) else layM ((((w / 1024 : Nat) : Int)) * 1024 + ((w % 1024 : Nat) : Int)) 1 s) = _
    rw [if_neg (by omega), lay_one hl]
    have : (((w / 1024 : Nat) : Int)) * 1024 + ((w % 1024 : Nat) : Int) = (w : Int) := by omega
    rw [this]
  · rw [if_neg hx]
    by_cases h0 : w % 1024 = 0
    · rw [if_pos h0]
      unfold takeM
      rw [e0, if_neg (sS_ne o4), if_neg (fun h => o5 (by have q := (ends_colon _).mp h; rw [tl_sS] at q; exact q)), split_one o3]
      show bareM (sS (nmL (w / 1024))) s = _
      unfold bareM
      rw [enm, if_neg (fun q => q.elim (fun q => q o2) hx), o1, lay_one hl]
      have : (((w / 1024 : Nat) : Int)) * 1024 = (w : Int) := by omega
      rw [this]
    · rw [if_neg h0]
      exact hword s hl
theorem run_rows : ∀ (ws : List Nat) (i : Int) (s : Sh), (∀ w ∈ ws, w ≤ 65535) → s.words.length + ws.length ≤ 512 → runM i (ws.map rowM) s = some { s with words := s.words ++ ws.map fun w => ((w : Nat) : Int) }
  | [], i, s, _, _ => by
    show some s = _
    rw [List.map_nil, List.append_nil]
  | w :: ws, i, s, h, hl => by
    rw [List.length_cons] at hl
    rw [List.map_cons]
    unfold runM
    rw [take_row (h w List.mem_cons_self) (by omega), if_pos rfl]
    have ih := run_rows ws (i + 1) { s with words := s.words ++ [(w : Int)] } (fun y hy => h y (List.mem_cons_of_mem _ hy)) (by
      show (s.words ++ [(w : Int)]).length + ws.length ≤ 512
      rw [List.length_append, List.length_singleton]
      omega)
    show runM (i + 1) (ws.map rowM) { s with words := s.words ++ [(w : Int)] } = _
    rw [ih]
    simp
end Bh

/-! != of two tuples whose items are the same: flat things, lists, dicts. -/
namespace Bh
open PySem PySem.Spec PyProof.Rows L2 PySem.Calls PySem.SeqAt
open AutoSeq1 (wpAny_loadPart')
open MeetsSeq MeetsSeq2 MeetsSeq3
section
variable {prog : Program} {w : World} {A : Around} {R : Result → Shared → Prop}
theorem tup_ne_body (x y : Addr) (us vs : Array Value) (n1 n2 : Nat) (d1 d2 : Option Addr) (sl1 sl2 : Array (Option Value)) (hsz : us.size = vs.size) {s : Shared}
    (hx : s.heap.get? x = some { cls := .type "tuple", dict := d1, data := .seq us n1, slots := sl1 }) (hy : s.heap.get? y = some { cls := .type "tuple", dict := d2, data := .seq vs n2, slots := sl2 })
    (same : ∀ i (h1 : i < us.size) (h2 : i < vs.size), EqP prog w A.in1 s us[i] vs[i] true) (fin : R (.ok (.ret (.bool false))) s) :
    wpAny (model prog w) A.in1 (Builtin.«tuple.__ne__» ⟨[.ref x, .ref y], []⟩) (GQ.FinOf prog w A R) (fun e s' => R (.error e) s') s := by
  have f2 := AutoSeq1.sub_tuple_tuple
  have hz : (us.toList.zip vs.toList).length = us.size := by simp [hsz]
  obtain ⟨hp, g, d, tk, os⟩ := s
  wp_walk using wpAny_loadPart' hx, wpAny_loadPart' hy, wpAny_forIn_list _ (fun rest acc s' => acc.1 = none ∧ s' = ⟨hp, g, d, tk, os⟩ ∧ ∃ k, k ≤ us.size ∧ rest = (us.toList.zip vs.toList).drop k) _
  case turn =>
    rintro ⟨u, v⟩ rest acc s' ⟨ha, rfl, k, hk, hr⟩
    have hlt : k < (us.toList.zip vs.toList).length := by
      rcases Nat.lt_or_ge k (us.toList.zip vs.toList).length with q | q
      · exact q
      · rw [List.drop_of_length_le q] at hr
        cases hr
    have h1 : k < us.size := hz ▸ hlt
    have h2 : k < vs.size := hsz ▸ h1
    rw [List.drop_eq_getElem_cons hlt] at hr
    obtain ⟨hpair, htail⟩ := List.cons.inj hr
    have e1 : u = us[k] := by
      have q := congrArg Prod.fst hpair
      simpa using q
    have e2 : v = vs[k] := by
      have q := congrArg Prod.snd hpair
      simpa using q
    subst e1 e2
    refine wpAny_bind (same k h1 h2 _ _ ?_)
    wp_walk
    exact ⟨rfl, rfl, k + 1, h1, htail⟩
  case fin =>
    rintro ⟨b1, b2⟩ s' ⟨ha, rfl, k, hk, hr⟩
    simp only at ha
    subst ha
    wp_walk
    simpa [Builtin.Tuple.tupleCompareSizes, hsz] using fin
  case h =>
    exact ⟨rfl, rfl, 0, Nat.zero_le _, rfl⟩
end
section
variable {prog : Program} {w : World} {A : Around} {E : Value → Shared → Prop} {s : Shared}
theorem rc_tup_ne {x y : Addr} {us vs : Array Value} {Q : Value → Shared → Prop} (hx : s.heap.IsTuple x us) (hy : s.heap.IsTuple y vs) (hsz : us.size = vs.size) (hu : A.units < cLine)
    (same : ∀ i (h1 : i < us.size) (h2 : i < vs.size), EqP prog w A.in1 s us[i] vs[i] true) (q : Q (.bool false) s) : wpAny (model prog w) A (richCompare .NotEq (.ref x) (.ref y)) Q E s := by
  obtain ⟨⟨c1, d1, data1, sl1⟩, ho1, hc1, n1, hd1⟩ := id hx
  obtain ⟨⟨c2, d2, data2, sl2⟩, ho2, hc2, n2, hd2⟩ := id hy
  simp only at hc1 hd1 hc2 hd2
  subst hc1 hd1 hc2 hd2
  refine wpAny_richCompare_same_room (op := .NotEq) ⟨_, ho1, rfl⟩ ⟨_, ho2, rfl⟩ F.slot_tuple_ne (GQ.call_here F.slot_tuple_ne ⟨_, ho1, rfl⟩ F.entry_tuple_ne (F.args_tuple_ne_2 _ _) ?_) hu
  exact tup_ne_body (R := wants (fun v s' => v ≠ .notImplemented ∧ Q v s') E) x y us vs n1 n2 d1 d2 sl1 sl2 hsz ho1 ho2 same ⟨(fun z => nomatch z), q⟩
end
section
variable {X : Cx}
/-- t != u, two tuples that are equal: items flat and the same, lists or dicts that are equal -/
def rNeT (K : PySem.W.Frag) : R2 := fun x y H Q => ∃ a b xs ys n, x = .ref a ∧ y = .ref b ∧ SqT K H a xs ∧ SqT K H b ys ∧ n ≤ 60 ∧ Paired (EqV K H n) xs ys ∧ Q (.bl false) H
theorem op_neT (hu : X.A.units + 64 < cLine) : OpR X (compareOp .NotEq) (rNeT X.K) := by
  intro pins s σ H x y v u Q I rx ry h
  obtain ⟨a, b, xs, ys, n, rfl, rfl, ha, hb, hn, hp, q⟩ := h
  cases rx
  cases ry
  obtain ⟨us, r1, p1, _⟩ := I.tuple ha
  obtain ⟨ws, r2, p2, _⟩ := I.tuple hb
  have hl : xs.length = ys.length := Paired.length hp
  have hsz : us.toArray.size = ws.toArray.size := by
    rw [List.size_toArray, List.size_toArray, ← r1.length, ← r2.length]
    exact hl
  refine rc_tup_ne p1 p2 hsz (by omega) (fun i h1 h2 => ?_) ⟨.bl false, H, I, rfl, q⟩
  have k := items_run (fun x y v u hxy rv ru => eqV_run I n X.A.in1 (by show X.A.units + 1 + n < cLine; omega) x y v u hxy rv ru) hp r1 r2 i (by simpa using h1) (by simpa using h2)
  simpa using k
end
end Bh

/-! The program's defs, each with its promise: row_of, listed, number_of, is_name. -/
namespace Bh
open PySem PySem.Spec PyProof.Rows L2
open TL
def topS (i : Nat) : Stmt := PySem.Challenge.pw_boardheld_k04_texts_spoilt.main.body.getD i (.Pass ⟨0, 0, 0, 0⟩)
abbrev sNum : Stmt := topS 14
abbrev sNm : Stmt := topS 15
/-- what the top holds -/
structure Tx (K : PySem.W.Frag) (mg : Str → Option Value) (aN aX C : Addr) : Prop where
  xs : ∃ t, mg "X_SPAN" = some (.int 1024 t)
  fm : ∃ t, mg "FIGURES_MOST" = some (.int 5 t)
  lm : ∃ t, mg "LETTERS_MOST" = some (.int 8 t)
  fe : ∃ t, mg "FLASH_END" = some (.int 512 t)
  wm : ∃ t, mg "WORD_MOST" = some (.int 65535 t)
  er : ∃ t, mg "ERASED" = some (.int 65535 t)
  gN : mg "OP_NAMES" = some (.ref aN)
  vN : ∀ H, SqT K H aN (opN.map V.str)
  tN : ∃ o, K.lookup aN = some o ∧ o.cls = .type "tuple" ∧ o.dict = none
  gX : mg "OPS_WITH_X" = some (.ref aX)
  vX : ∀ H, SqT K H aX (opX.map V.str)
  len : mg "len" = none
  int : mg "int" = none
  enu : mg "enumerate" = none
  cl : Cls K C
  nW : NoAttr K C "words"
  nN : NoAttr K C "names"
  nU : NoAttr K C "uses"
  gC : mg "Sheet" = some (.ref C)
theorem in_strs (z : Str) : ∀ ys : List Str, inV (.str z) (ys.map V.str) = decide (z ∈ ys)
  | [] => rfl
  | y :: ys => by
    have ih := in_strs z ys
    unfold inV at ih ⊢
    rw [List.map_cons, List.any_cons, ih]
    show ((y == z) || decide (z ∈ ys)) = decide (z ∈ y :: ys)
    by_cases e : y = z
    · subst e
      simp
    · have e2 : ¬ z = y := fun q => e q.symm
      have : (y == z) = false := by simpa using e
      rw [this]
      simp [e2]
theorem flat_strs' (ys : List Str) : (ys.map V.str).all flatV = true := by
  rw [List.all_eq_true]
  intro v hv
  obtain ⟨y, _, rfl⟩ := List.mem_map.mp hv
  rfl
theorem num_small {n : Nat} (h : n ≤ 65535) : ((n : Int)).natAbs.log2 < 1920 := by
  have e : ((n : Int)).natAbs = n := rfl
  rw [e]
  by_cases h0 : n = 0
  · subst h0
    decide
  · exact (Nat.log2_lt h0).mpr (Nat.lt_of_le_of_lt h (by decide +kernel))
theorem numL5 {n : Nat} (h : n ≤ 65535) : (numL n).length ≤ 5 := numL_len (by decide) (Nat.lt_of_le_of_lt h (by decide))
theorem fits_small {n : Nat} (h : n ≤ 100000) : n ≤ sizeLine := Nat.le_trans h (by decide)
theorem tl_empty : tl Str.empty = [] := rfl
theorem opN_len : ∀ op : Nat, op < 23 → (opN.getD op Str.empty).length ≤ 5 := by decide +kernel
theorem opN_at : ∀ op : Nat, op < 23 → opN[op]? = some (opN.getD op Str.empty) := by decide +kernel

theorem ifN {c : Bool} {A B : Prop} (h1 : c = false → A) (h2 : c = true → B) : if (!c) = true then A else B := by
  cases c with
  | true => exact h2 rfl
  | false => exact h1 rfl
theorem ifB {c : Bool} {A B : Prop} (h1 : c = true → A) (h2 : c = false → B) : if c = true then A else B := by
  cases c with
  | true => exact h1 rfl
  | false => exact h2 rfl
section
variable {X : Cx}
theorem pgI {x : Str} {n : Int} {t : Tok} {pos : Pos} (hm : X.mg x = some (.int n t)) (hg : Gl X x := by rfl) (hd : (x == ("__debug__" : Str)) = false := by decide) : PE X (.Name x pos) (tC (.int n)) := pe_glob (v := .int n) hg hm ⟨t, rfl⟩ hd
theorem pgR {x : Str} {a : Addr} {pos : Pos} (hm : X.mg x = some (.ref a)) (hg : Gl X x := by rfl) (hd : (x == ("__debug__" : Str)) = false := by decide) : PE X (.Name x pos) (tC (.ref a)) := pe_glob (v := .ref a) hg hm rfl hd
end
section
variable {P : Program} {w : World} {K : PySem.W.Frag} {mg : Str → Option Value} {base : Heap} {aN aX C : Addr}
theorem same_upd' {H : Hp} {p : Addr} {o : HO} (h : H p = none) : Same H (upd H p o) := fun b x e => by
  rw [upd_ne (ne_of_none e h)]
  exact e
theorem rowL_len {n : Nat} (hn : n ≤ 65535) : (rowL n).length ≤ 12 := by
  have h5 := numL5 hn
  have h5' := numL5 (show n % 1024 ≤ 65535 by omega)
  unfold rowL
  split
  · unfold wordL
    simp only [List.length_append, List.length_cons, List.length_nil]
    omega
  · have h23 : n / 1024 < 23 := by omega
    have hln := opN_len _ h23
    rw [len_tl] at hln
    split
    · rw [List.length_append, List.length_cons]
      unfold nmL
      omega
    · split
      · unfold nmL
        omega
      · unfold wordL
        simp only [List.length_append, List.length_cons, List.length_nil]
        omega
theorem sum_le_mul {α : Type} (f : α → Nat) (c : Nat) : ∀ (l : List α), (∀ x ∈ l, f x ≤ c) → (l.map f).sum ≤ l.length * c
  | [], _ => by simp
  | x :: r, h => by
    have ih := sum_le_mul f c r fun y hy => h y (List.mem_cons_of_mem _ hy)
    have hx := h x List.mem_cons_self
    rw [List.map_cons, List.sum_cons, List.length_cons, Nat.succ_mul]
    omega
abbrev sFig : Stmt := topS 10
theorem scFig : FnScope ["part", "most"] ["part", "most"] (defScope sFig) := ⟨rfl, rfl, rfl, by decide +kernel, rfl, by decide +kernel, by decide +kernel⟩
theorem scNum : FnScope ["part"] ["part"] (defScope sNum) := ⟨rfl, rfl, rfl, by decide +kernel, rfl, by decide +kernel, by decide +kernel⟩
def oV : Option Int → V
  | none => .non
  | some n => .int n
def spNum : Sp := fun vs H Q _ => ∃ p : Str, vs = [.str p] ∧ p.length ≤ 100000 ∧ Q (oV (numOf p)) H
def spFig : Sp := fun vs H Q _ => ∃ p : Str, vs = [.str p, .int 5] ∧ p.length ≤ 100000 ∧ Q (oV (numOf p)) H
theorem ok_fig {f : Addr} {fd : FuncData} (F : Fun K "figured" "figured" sFig f fd) (T : Tx K mg aN aX C) : FnOk P w K mg base CX0 1 f fd ["part", "most"] spFig := by
  refine F.ok scFig (fun vs H Q E h => by obtain ⟨n, rfl, _⟩ := h; rfl) (fun cdv A outer s H vs Q E hr h => ?_)
  obtain ⟨p, rfl, hp, q⟩ := h
  refine ⟨_, pss_cons (ps_if (PW.pt (pw_or (pt_not (pt_val (pe_m0 PySem.F.slot_str_isascii PySem.F.type_str_isascii mt_isascii (pv 0))))
      (pw_or (pt_not (pt_val (pe_m0 PySem.F.slot_str_isdigit PySem.F.type_str_isdigit mt_isdigit (pv 0))))
        (pw_or1 (pt_cmpR op_gt (pe_callB call_len_str (by rfl) T.len PySem.boot_len (pa_cons (pv 0) pa_nil)) (pv 1) (nomark _))))))
      (pss_one (ps_ret pe_non)) pss_nil)
    (pss_cons (ps_if (PW.pt (pw_and (pt_cmpR op_eq (pe_item_str (pv 0) pe_int (fun _ _ => rfl)) pe_str (nomark _)) (pw_and1 (pt_cmpR op_ne (pv 0) pe_str (nomark _)))))
      (pss_one (ps_ret pe_non)) pss_nil)
    (pss_one (ps_ret (pe_callTy call_int_str (by rfl) T.int (by decide +kernel) (pa_cons (pv 0) pa_nil))))), ?_⟩
  have hline : p.length ≤ sizeLine := fits_small hp
  unfold numOf at q
  have key := asc_dig p
  have e5 : (decide ((5 : Int) < (p.length : Int))) = !decide ((tl p).length ≤ 5) := by
    rw [← len_tl]
    by_cases z : p.length ≤ 5
    · rw [decide_eq_true z]
      exact decide_eq_false (by omega)
    · rw [decide_eq_false z]
      exact decide_eq_true (by omega)
  have bad : ∀ {B : Prop}, (!(tl p).isEmpty && (tl p).all digB && decide ((tl p).length ≤ 5)) = false → Q .non H := fun h => by
    rw [h, if_neg Bool.false_ne_true] at q
    exact q
  refine ⟨_, rfl, ⟨_, rfl⟩, _, rfl, rfl, trivial, _, rfl, ifN (fun ha => ?_) (fun ha => ?_)⟩
  · exact bad (B := True) (by rw [← key, ha] <;> rfl)
  refine ⟨_, rfl, ⟨_, rfl⟩, _, rfl, rfl, trivial, _, rfl, ifN (fun hd => ?_) (fun hd => ?_)⟩
  · exact bad (B := True) (by rw [← key, hd, Bool.and_false] <;> rfl)
  refine ⟨_, rfl, _, rfl, hline, _, rfl, _, _, rfl, rfl, _, rfl, ?_⟩
  rw [ha, hd] at key
  have key2 : (!(tl p).isEmpty && (tl p).all digB) = true := key.symm
  refine ifB (fun h5 => ?_) (fun h5 => ?_)
  · refine bad (B := True) ?_
    rw [key2, Bool.true_and]
    have h5' := of_decide_eq_true h5
    rw [len_tl] at h5'
    exact decide_eq_false (by omega)
  have h5' : (tl p).length ≤ 5 := by
    have z := of_decide_eq_false h5
    rw [len_tl] at z
    omega
  rw [key2, Bool.true_and, decide_eq_true h5', if_pos rfl] at q
  rw [Bool.and_eq_true] at key2
  obtain ⟨c, r, hl⟩ : ∃ c r, tl p = c :: r := by
    cases e : tl p with
    | nil => rw [e] at key2; exact absurd key2.1 (by decide)
    | cons c r => exact ⟨c, r, rfl⟩
  have h0 : p.cps[0]? = some c := by
    have : p.cps.toList[0]? = some c := by
      show (tl p)[0]? = some c
      rw [hl]
      rfl
    simpa using this
  have hpl : 0 < p.length := by
    rw [len_tl, hl]
    exact Nat.succ_pos _
  have hint : intText? p = some ((NumText.digitsVal (tl p) : Nat) : Int) := PySem.intText_digits (allDig key2.2) (by
    show tl p ≠ []
    rw [hl]
    exact List.cons_ne_nil _ _) (by rw [len_tl]; omega)
  refine ⟨_, rfl, _, 0, c, rfl, rfl, by decide, by decide, by omega, h0, rfl, _, rfl, ?_⟩
  refine ifB (fun hc => ?_) (fun hc => ?_)
  · have hc' : c = 48 := by
      have z : V.str ⟨#[c]⟩ = V.str ("0" : Str) := of_decide_eq_true hc
      have z2 := congrArg tl (V.str.inj z)
      have z3 : [c] = [48] := z2
      exact List.head_eq_of_cons_eq z3
    refine ⟨_, rfl, rfl, _, rfl, ifN (fun hz => ?_) (fun hz => ?_)⟩
    · have hz' : ¬ p = ("0" : Str) := fun z => by
        have := of_decide_eq_false hz
        exact this (by rw [z])
      have hne : tl p ≠ [48] := fun z => hz' (ext_tl z)
      rw [if_pos ⟨by rw [hl, hc'] <;> rfl, hne⟩] at q
      exact q
    · have hz' : p = ("0" : Str) := V.str.inj (of_decide_eq_true hz)
      have hne : tl p = [48] := congrArg tl hz'
      rw [if_neg (fun z => z.2 hne)] at q
      exact ⟨_, rfl, _, _, rfl, hint, by rw [len_tl]; omega, q⟩
  · have hc' : ¬ c = 48 := fun z => by
      have := of_decide_eq_false hc
      exact this (by rw [z] <;> rfl)
    rw [if_neg (fun z => by
      have z1 := z.1
      rw [hl] at z1
      exact hc' (Option.some.inj z1))] at q
    exact ⟨_, rfl, _, _, rfl, hint, by rw [len_tl]; omega, q⟩
theorem ok_num {f fF : Addr} {fd fdF : FuncData} (F : Fun K "number_of" "number_of" sNum f fd) (T : Tx K mg aN aX C) (FF : Fun K "figured" "figured" sFig fF fdF) (bF : Binds K fdF ["part", "most"] []) (gF : mg "figured" = some (.ref fF)) : FnOk P w K mg base CX0 2 f fd ["part"] spNum := by
  obtain ⟨tf, gf⟩ := T.fm
  refine F.ok scNum (fun vs H Q E h => by obtain ⟨n, rfl, _⟩ := h; rfl) (fun cdv A outer s H vs Q E hr h => ?_)
  obtain ⟨p, rfl, hp, q⟩ := h
  refine ⟨_, pss_one (ps_ret (pe_call (ok_fig FF T) hr (by rfl) gF FF.kp bF .nil pass0 (pa_cons (pv 0) (pa_cons (pgI gf) pa_nil)))), ?_⟩
  exact ⟨_, rfl, p, rfl, hp, q⟩
theorem scNm : FnScope ["part"] ["part"] (defScope sNm) := ⟨rfl, rfl, rfl, by decide +kernel, rfl, by decide +kernel, by decide +kernel⟩
def spNm : Sp := fun vs H Q _ => ∃ p : Str, vs = [.str p] ∧ p.length ≤ 100000 ∧ Q (.bl (isNm p)) H
theorem ok_nm {f : Addr} {fd : FuncData} (F : Fun K "is_name" "is_name" sNm f fd) (T : Tx K mg aN aX C) : FnOk P w K mg base CX0 2 f fd ["part"] spNm := by
  obtain ⟨tf, gf⟩ := T.lm
  refine F.ok scNm (fun vs H Q E h => by obtain ⟨n, rfl, _⟩ := h; rfl) (fun cdv A outer s H vs Q E hr h => ?_)
  obtain ⟨p, rfl, hp, q⟩ := h
  refine ⟨_, pss_one (ps_ret (pe_and (pe_m0 PySem.F.slot_str_isascii PySem.F.type_str_isascii mt_isascii (pv 0))
      (pe_and (pe_m0 PySem.F.slot_str_isalpha PySem.F.type_str_isalpha mt_isalpha (pv 0))
      (pe_and (pe_m0 PySem.F.slot_str_islower PySem.F.type_str_islower mt_islower (pv 0))
        (pe_one (pe_cmpR op_le (pe_callB call_len_str (by rfl) T.len PySem.boot_len (pa_cons (pv 0) pa_nil)) (pgI gf) (nomark _))))))), ?_⟩
  have hline : p.length ≤ sizeLine := fits_small hp
  have key := asc_low p
  unfold isNm at q
  rw [← key] at q
  refine ⟨_, rfl, ⟨_, rfl⟩, _, rfl, rfl, trivial, _, rfl, ifB (fun ha => ?_) (fun ha => ?_)⟩
  · rw [ha] at q
    refine ⟨_, rfl, ⟨_, rfl⟩, _, rfl, rfl, trivial, _, rfl, ifB (fun hb => ?_) (fun hb => ?_)⟩
    · rw [hb] at q
      refine ⟨_, rfl, ⟨_, rfl⟩, _, rfl, rfl, trivial, _, rfl, ifB (fun hc => ?_) (fun hc => ?_)⟩
      · rw [hc] at q
        refine ⟨_, rfl, _, rfl, hline, _, _, rfl, rfl, ?_⟩
        have e : (true && (true && true) && decide ((tl p).length ≤ 8)) = decide ((p.length : Int) ≤ 8) := by
          rw [Bool.true_and, Bool.true_and, Bool.true_and, ← len_tl]
          by_cases z : p.length ≤ 8
          · rw [decide_eq_true z]
            exact (decide_eq_true (by omega)).symm
          · rw [decide_eq_false z]
            exact (decide_eq_false (by omega)).symm
        rw [e] at q
        exact q
      · rw [hc] at q
        exact q
    · rw [hb] at q
      exact q
  · rw [ha] at q
    exact q
end
end Bh

/-! The sheet: its object, its methods. -/
namespace Bh
open PySem PySem.Spec PyProof.Rows L2
open TL
abbrev sInit : Stmt := inClass (topS 16) 0
abbrev sTake : Stmt := inClass (topS 16) 1
abbrev sTName : Stmt := inClass (topS 16) 2
abbrev sTBare : Stmt := inClass (topS 16) 3
abbrev sTPair : Stmt := inClass (topS 16) 4
abbrev sTAt : Stmt := inClass (topS 16) 5
abbrev sTKeep : Stmt := inClass (topS 16) 6
abbrev sTWorth : Stmt := inClass (topS 16) 7
abbrev sLay : Stmt := inClass (topS 16) 8
abbrev sPut : Stmt := inClass (topS 16) 9
abbrev sTyped : Stmt := topS 17
/-! ### the fields -/
theorem wn_ : ¬ (("words" : Str) = "names") := by decide +kernel
theorem wu_ : ¬ (("words" : Str) = "uses") := by decide +kernel
theorem nu_ : ¬ (("names" : Str) = "uses") := by decide +kernel
theorem nw_ : ¬ (("names" : Str) = "words") := by decide +kernel
theorem uw_ : ¬ (("uses" : Str) = "words") := by decide +kernel
theorem un_ : ¬ (("uses" : Str) = "names") := by decide +kernel
def shF (a b c : Addr) : List (Str × V) := putF "uses" (.ref c) (putF "names" (.ref b) (putF "words" (.ref a) []))
theorem shF_w (a b c : Addr) : (shF a b c).lookup ("words" : Str) = some (.ref a) := by
  unfold shF
  rw [lookup_putF, if_neg wu_, lookup_putF, if_neg wn_, lookup_putF, if_pos rfl]
theorem shF_n (a b c : Addr) : (shF a b c).lookup ("names" : Str) = some (.ref b) := by
  unfold shF
  rw [lookup_putF, if_neg nu_, lookup_putF, if_pos rfl]
theorem shF_u (a b c : Addr) : (shF a b c).lookup ("uses" : Str) = some (.ref c) := by
  unfold shF
  rw [lookup_putF, if_pos rfl]
theorem shF_no (a b c : Addr) {m : Str} (h1 : ¬ m = "words") (h2 : ¬ m = "names") (h3 : ¬ m = "uses") : (shF a b c).lookup m = none := by
  unfold shF
  rw [lookup_putF, if_neg h3, lookup_putF, if_neg h2, lookup_putF, if_neg h1]
  rfl
def nmK (ns : List (Str × Int)) : List (Key × V) := ns.map fun p => ((Sum.inr p.1 : Key), V.int p.2)
theorem valV_nmK (x : Str) : ∀ ns : List (Str × Int), (valV (nmK ns) (Sum.inr x)).isSome = hasN ns x
  | [] => rfl
  | (y, n) :: r => by
    have ih := valV_nmK x r
    unfold nmK hasN at ih ⊢
    rw [List.map_cons, List.any_cons]
    by_cases e : y = x
    · subst e
      rw [valV_pos rfl]
      simp
    · have e1 : ¬ ((Sum.inr y : Key) = Sum.inr x) := fun z => e (Sum.inr.inj z)
      rw [valV_neg e1, ih]
      have e2 : (y == x) = false := by simpa using e
      rw [e2, Bool.false_or]
theorem putK_nmK {ns : List (Str × Int)} {x : Str} {n : Int} (h : hasN ns x = false) : putK (nmK ns) (Sum.inr x) (.int n) = nmK (ns ++ [(x, n)]) := by
  have e : valV (nmK ns) (Sum.inr x) = none := by
    have q := valV_nmK x ns
    rw [h] at q
    cases z : valV (nmK ns) (Sum.inr x) with
    | none => rfl
    | some y => rw [z] at q; cases q
  rw [putK_new _ e]
  unfold nmK
  rw [List.map_append]
  rfl
theorem nmK_len (ns : List (Str × Int)) : (nmK ns).length = ns.length := List.length_map ..
/-! ### the sheet in the heap -/
def useT (u : Int × Int × Str) : HO := .tup [.int u.1, .int u.2.1, .str u.2.2]
def UsesAt (H : Hp) : List V → List (Int × Int × Str) → Prop := Paired fun v u => ∃ t, v = .ref t ∧ H t = some (useT u)
theorem UsesAt.mono {H H' : Hp} (k : ∀ t xs, H t = some (.tup xs) → H' t = some (.tup xs)) : ∀ {us : List V} {ls : List (Int × Int × Str)}, UsesAt H us ls → UsesAt H' us ls
  | _, _, .nil => .nil
  | _, _, .cons h r => .cons (let ⟨t, e, q⟩ := h; ⟨t, e, k _ _ q⟩) (UsesAt.mono k r)
theorem UsesAt.snoc {H : Hp} {t : Addr} {u : Int × Int × Str} (ht : H t = some (useT u)) : ∀ {us : List V} {ls : List (Int × Int × Str)}, UsesAt H us ls → UsesAt H (us ++ [.ref t]) (ls ++ [u])
  | _, _, .nil => .cons ⟨t, rfl, ht⟩ .nil
  | _, _, .cons h r => .cons h (UsesAt.snoc ht r)
structure Shp (C : Addr) (H0 H : Hp) (p dx a b c : Addr) (us : List V) (s : Sh) : Prop where
  sm : Same H0 H
  fp : H0 p = none
  fa : H0 a = none
  fb : H0 b = none
  fc : H0 c = none
  hp : H p = some (.ins C dx (shF a b c))
  ha : H a = some (.lst (s.words.map V.int))
  hb : H b = some (.dK (nmK s.names))
  hc : H c = some (.lst us)
  ac : a ≠ c
  hu : UsesAt H us s.uses
  lw : s.words.length ≤ 512
def SheetAt (C : Addr) (H0 H : Hp) (p : Addr) (s : Sh) : Prop := ∃ dx a b c us, Shp C H0 H p dx a b c us s
theorem same_of {H0 H : Hp} {x : Addr} {o : HO} (sm : Same H0 H) (fx : H0 x = none) : Same H0 (upd H x o) := fun b y e => by
  rw [upd_ne (ne_of_none e fx)]
  exact sm _ _ e
section
variable {C : Addr} {H0 H : Hp} {p dx a b c : Addr} {us : List V} {s : Sh}
theorem Shp.pa (h : Shp C H0 H p dx a b c us s) : p ≠ a := ne_of h.hp h.ha (by intro q; cases q)
theorem Shp.pb (h : Shp C H0 H p dx a b c us s) : p ≠ b := ne_of h.hp h.hb (by intro q; cases q)
theorem Shp.pc (h : Shp C H0 H p dx a b c us s) : p ≠ c := ne_of h.hp h.hc (by intro q; cases q)
theorem Shp.ab (h : Shp C H0 H p dx a b c us s) : a ≠ b := ne_of h.ha h.hb (by intro q; cases q)
theorem Shp.bc (h : Shp C H0 H p dx a b c us s) : b ≠ c := ne_of h.hb h.hc (by intro q; cases q)
theorem Shp.words (h : Shp C H0 H p dx a b c us s) (ws : List Int) (hl : ws.length ≤ 512) : Shp C H0 (upd H a (.lst (ws.map V.int))) p dx a b c us { s with words := ws } where
  sm := same_of h.sm h.fa
  fp := h.fp
  fa := h.fa
  fb := h.fb
  fc := h.fc
  hp := by rw [upd_ne h.pa]; exact h.hp
  ha := upd_same
  hb := by rw [upd_ne h.ab.symm]; exact h.hb
  hc := by rw [upd_ne h.ac.symm]; exact h.hc
  ac := h.ac
  hu := h.hu.mono fun t xs e => by rw [upd_ne (ne_of e h.ha (by intro q; cases q))]; exact e
  lw := hl
theorem Shp.named (h : Shp C H0 H p dx a b c us s) (ns : List (Str × Int)) : Shp C H0 (upd H b (.dK (nmK ns))) p dx a b c us { s with names := ns } where
  sm := same_of h.sm h.fb
  fp := h.fp
  fa := h.fa
  fb := h.fb
  fc := h.fc
  hp := by rw [upd_ne h.pb]; exact h.hp
  ha := by rw [upd_ne h.ab]; exact h.ha
  hb := upd_same
  hc := by rw [upd_ne h.bc.symm]; exact h.hc
  ac := h.ac
  hu := h.hu.mono fun t xs e => by rw [upd_ne (ne_of e h.hb (by intro q; cases q))]; exact e
  lw := h.lw
/-- a new object is laid -/
theorem Shp.more (h : Shp C H0 H p dx a b c us s) {x : Addr} {o : HO} (hx : H x = none) : Shp C H0 (upd H x o) p dx a b c us s where
  sm := h.sm.trans (same_upd' hx)
  fp := h.fp
  fa := h.fa
  fb := h.fb
  fc := h.fc
  hp := same_upd' hx _ _ h.hp
  ha := same_upd' hx _ _ h.ha
  hb := same_upd' hx _ _ h.hb
  hc := same_upd' hx _ _ h.hc
  ac := h.ac
  hu := h.hu.mono fun t xs e => same_upd' hx _ _ e
  lw := h.lw
theorem Shp.used (h : Shp C H0 H p dx a b c us s) {t : Addr} {u : Int × Int × Str} (ht : H t = some (useT u)) : Shp C H0 (upd H c (.lst (us ++ [.ref t]))) p dx a b c (us ++ [.ref t]) { s with uses := s.uses ++ [u] } where
  sm := same_of h.sm h.fc
  fp := h.fp
  fa := h.fa
  fb := h.fb
  fc := h.fc
  hp := by rw [upd_ne h.pc]; exact h.hp
  ha := by rw [upd_ne h.ac]; exact h.ha
  hb := by rw [upd_ne h.bc]; exact h.hb
  hc := upd_same
  ac := h.ac
  hu := (UsesAt.snoc ht h.hu).mono fun t xs e => by rw [upd_ne (ne_of e h.hc (by intro q; cases q))]; exact e
  lw := h.lw
theorem UsesAt.len {H : Hp} : ∀ {us : List V} {ls : List (Int × Int × Str)}, UsesAt H us ls → us.length = ls.length
  | _, _, .nil => rfl
  | _, _, .cons _ r => by rw [List.length_cons, List.length_cons, UsesAt.len r]
end
/-! ### the promises -/
def spInit (C : Addr) : Sp := fun vs H Q _ => ∃ (H0 : Hp) (p dx : Addr), vs = [.ref p] ∧ Same H0 H ∧ H0 p = none ∧ H p = some (.ins C dx []) ∧ ∀ H' : Hp, SheetAt C H0 H' p sh0 → Q .non H'
/-- a method that does m : Sh -> Bool x Sh, its arguments as told -/
def spM (C : Addr) (args : List V → Sh → (Bool × Sh) → Prop) : Sp := fun vs H Q _ => ∃ (H0 : Hp) (p : Addr) (s : Sh) (vs' : List V) (r : Bool × Sh), vs = .ref p :: vs' ∧ args vs' s r ∧ SheetAt C H0 H p s ∧ ∀ H' : Hp, SheetAt C H0 H' p r.2 → Q (.bl r.1) H'
def aLay (vs : List V) (s : Sh) (r : Bool × Sh) : Prop := ∃ (w m : Int), vs = [.int w, .int m] ∧ 0 ≤ m ∧ m < 100000 ∧ r = layM w m s
section
variable {P : Program} {w : World} {K : PySem.W.Frag} {mg : Str → Option Value} {base : Heap} {aN aX C : Addr}
theorem scInit : FnScope ["self"] ["self"] (defScope sInit) := ⟨rfl, rfl, rfl, by decide +kernel, rfl, by decide +kernel, by decide +kernel⟩
theorem ok_init {f : Addr} {fd : FuncData} (F : Fun K "__init__" "Sheet.__init__" sInit f fd) (T : Tx K mg aN aX C) : FnOk P w K mg base CX0 2 f fd ["self"] (spInit C) := by
  refine F.ok scInit (fun vs H Q E h => by obtain ⟨H0, p, dx, rfl, _⟩ := h; rfl) (fun cdv A outer s H vs Q E hr h => ?_)
  obtain ⟨H0, p, dx, rfl, s0, p0, hp, k⟩ := h
  refine ⟨_, pss_cons (ps_fld (pv 0) (pe_lst pa_nil) rfl) (pss_cons (ps_fld (pv 0) pe_dnewK rfl) (pss_one (ps_fld (pv 0) (pe_lst pa_nil) rfl))), ?_⟩
  refine ⟨Nat.zero_le _, fun a na => ?_⟩
  have pa : p ≠ a := ne_of_none hp na
  refine ⟨_, rfl, p, C, dx, [], rfl, (by rw [upd_ne pa]; exact hp), T.cl, T.nW, (by show 0 < 1000; decide), ?_⟩
  intro b nb
  have pb : p ≠ b := fun q => by rw [q, upd_same] at nb; cases nb
  have nb1 : upd H a (.lst []) b = none := by rw [upd_ne pb.symm] at nb; exact nb
  have ab : a ≠ b := fun q => by rw [q, upd_same] at nb1; cases nb1
  have nb2 : H b = none := by rw [upd_ne ab.symm] at nb1; exact nb1
  refine ⟨_, rfl, p, C, dx, _, rfl, (by rw [upd_ne pb]; exact upd_same), T.cl, T.nN, (by show 1 < 1000; decide), ?_⟩
  refine ⟨Nat.zero_le _, fun c nc => ?_⟩
  have pc : p ≠ c := fun q => by rw [q, upd_same] at nc; cases nc
  have nc1 := nc
  rw [upd_ne pc.symm] at nc1
  have bc : b ≠ c := fun q => by rw [q, upd_same] at nc1; cases nc1
  rw [upd_ne bc.symm, upd_ne pc.symm] at nc1
  have ac : a ≠ c := fun q => by rw [q, upd_same] at nc1; cases nc1
  rw [upd_ne ac.symm] at nc1
  refine ⟨_, rfl, p, C, dx, _, rfl, (by rw [upd_ne pc]; exact upd_same), T.cl, T.nU, (by show 2 < 1000; decide), ?_⟩
  refine k _ ⟨dx, a, b, c, [], ?_⟩
  exact {
    sm := fun z o e => by
      have zp : z ≠ p := ne_of_none e p0
      rw [upd_ne zp, upd_ne (ne_of_none (s0 _ _ e) nc1), upd_ne zp, upd_ne (ne_of_none (s0 _ _ e) nb2), upd_ne zp, upd_ne (ne_of_none (s0 _ _ e) na)]
      exact s0 _ _ e
    fp := p0
    fa := s0.free na
    fb := s0.free nb2
    fc := s0.free nc1
    hp := upd_same
    ha := by rw [upd_ne pa.symm, upd_ne ac, upd_ne pa.symm, upd_ne ab, upd_ne pa.symm, upd_same]; rfl
    hb := by rw [upd_ne pb.symm, upd_ne bc, upd_ne pb.symm, upd_same]; rfl
    hc := by rw [upd_ne pc.symm, upd_same]
    ac := ac
    hu := .nil
    lw := Nat.zero_le _ }
theorem scLay : FnScope ["self", "word", "many"] ["self", "word", "many"] (defScope sLay) := ⟨rfl, rfl, rfl, by decide +kernel, rfl, by decide +kernel, by decide +kernel⟩
theorem ok_lay {f : Addr} {fd : FuncData} (F : Fun K "lay" "Sheet.lay" sLay f fd) (T : Tx K mg aN aX C) : FnOk P w K mg base CX0 2 f fd ["self", "word", "many"] (spM C aLay) := by
  obtain ⟨tf, gf⟩ := T.fe
  refine F.ok scLay (fun vs H Q E h => by obtain ⟨H0, p, s, vs', r, rfl, ⟨w, m, rfl, _⟩, _⟩ := h; rfl) (fun cdv A outer s H vs Q E hr h => ?_)
  obtain ⟨H0, p, z, _, _, rfl, ⟨w, m, rfl, m0, m1, rfl⟩, ⟨dx, a, b, c, us, S⟩, k⟩ := h
  refine ⟨_, pss_cons (ps_if (pt_cmpR op_gt (pe_op op_add (pe_callB call_len_seq (by rfl) T.len PySem.boot_len (pa_cons (pe_fld (pv 0) rfl) pa_nil)) (pv 2)) (pgI gf) (nomark _)) (pss_one (ps_ret pe_bl)) pss_nil)
    (pss_cons (ps_expr (pe_bm PySem.F.plainAttrs_list PySem.F.slot_list_extend PySem.F.type_list_extend mt_extend (pe_fld (pv 0) rfl) (pa_cons (pe_op op_rep (pe_lst (pa_cons (pv 1) pa_nil)) (pv 2)) pa_nil)))
    (pss_one (ps_ret pe_bl))), ?_⟩
  refine ⟨_, rfl, p, C, dx, _, _, rfl, S.hp, T.cl, T.nW, shF_w _ _ _, a, _, rfl, .inl (SqL.of S.ha), _, rfl, _, _, rfl, rfl, _, _, rfl, rfl, _, rfl, ?_⟩
  rw [List.length_map]
  unfold layM at k
  refine ifB (fun h => ?_) (fun h => ?_)
  · have h' : (z.words.length : Int) + m > 512 := of_decide_eq_true h
    rw [if_pos h'] at k
    exact k _ ⟨dx, a, b, c, us, S⟩
  · have h' : ¬ (z.words.length : Int) + m > 512 := of_decide_eq_false h
    rw [if_neg h'] at k
    refine ⟨_, rfl, p, C, dx, _, _, rfl, S.hp, T.cl, T.nW, shF_w _ _ _, .inl ⟨rfl, _, SqL.of S.ha⟩, ?_⟩
    refine ⟨_, rfl, by show 1 ≤ sizeLine; decide, fun l nl => ?_⟩
    have S1 := S.more (o := .lst [.int w]) nl
    refine ⟨_, rfl, l, m, [.int w], rfl, rfl, upd_same, by omega, by omega, (by show 1 * m.toNat ≤ sizeLine; exact fits_small (by omega)), fun q nq => ?_⟩
    have ef : (List.replicate m.toNat [V.int w]).flatten = (List.replicate m.toNat w).map V.int := by
      induction m.toNat with
      | zero => rfl
      | succ n ih => rw [List.replicate_succ, List.flatten_cons, ih, List.replicate_succ, List.map_cons]; rfl
    rw [ef]
    have S2 := S1.more (o := .lst ((List.replicate m.toNat w).map V.int)) nq
    refine ⟨a, q, z.words.map V.int, _, rfl, rfl, S2.ha, upd_same, ?_, ?_⟩
    · rw [List.length_map, List.length_map, List.length_replicate]
      exact fits_small (by omega)
    · rw [← List.map_append]
      exact k _ ⟨dx, a, b, c, us, (S2.words (z.words ++ List.replicate m.toNat w) (by rw [List.length_append, List.length_replicate]; omega))⟩
end
end Bh

/-! The sheet's methods that take a row or a part of one. -/
namespace Bh
open PySem PySem.Spec PyProof.Rows L2
open TL
section
variable (P : Program) (w : World) (K : PySem.W.Frag) (mg : Str → Option Value) (base : Heap)
/-- a def that may be called by its name -/
structure CalF (k : Nat) (nm : Str) (ps : List Str) (sp : Sp) (f : Addr) (fd : FuncData) : Prop where
  g : mg nm = some (.ref f)
  kp : PySem.W.keepIn K (.ref f) = true
  b : Binds K fd ps []
  G : FnOk P w K mg base CX0 k f fd ps sp
structure CalM (C : Addr) (k : Nat) (nm : Str) (ps : List Str) (sp : Sp) (f : Addr) (fd : FuncData) : Prop where
  m : Meth K C nm f
  b : Binds K fd ps []
  G : FnOk P w K mg base CX0 k f fd ps sp
end
def aName (vs : List V) (s : Sh) (r : Bool × Sh) : Prop := ∃ x : Str, vs = [.str x] ∧ x.length ≤ 100000 ∧ s.names.length < 100000 ∧ r = nameM x s
def aBare (vs : List V) (s : Sh) (r : Bool × Sh) : Prop := ∃ x : Str, vs = [.str x] ∧ r = bareM x s
def aAt (vs : List V) (s : Sh) (r : Bool × Sh) : Prop := ∃ o : Option Int, vs = [oV o] ∧ (∀ n, o = some n → 0 ≤ n ∧ n < 100000) ∧ r = atM o s
def aKeep (vs : List V) (s : Sh) (r : Bool × Sh) : Prop := ∃ o : Option Int, vs = [oV o] ∧ (∀ n, o = some n → 0 ≤ n ∧ n < 100000) ∧ r = keepM o s
def aWorth (vs : List V) (s : Sh) (r : Bool × Sh) : Prop := ∃ (i b : Int) (x : Str) (m : Int), vs = [.int i, .int b, .str x, .int m] ∧ x.length ≤ 100000 ∧ s.uses.length < 100000 ∧ r = worthM i b x m s
def aPair (vs : List V) (s : Sh) (r : Bool × Sh) : Prop := ∃ (i : Int) (h x : Str), vs = [.int i, .str h, .str x] ∧ x.length ≤ 100000 ∧ s.uses.length < 100000 ∧ r = pairM i h x s
def aTake (vs : List V) (s : Sh) (r : Bool × Sh) : Prop := ∃ (i : Int) (x : Str), vs = [.int i, .str x] ∧ x.length ≤ 90000 ∧ s.names.length < 100000 ∧ s.uses.length < 100000 ∧ r = takeM i x s
section
variable {P : Program} {w : World} {K : PySem.W.Frag} {mg : Str → Option Value} {base : Heap} {aN aX C : Addr}
theorem no_take {a b c : Addr} : (shF a b c).lookup ("lay" : Str) = none := shF_no _ _ _ (by decide +kernel) (by decide +kernel) (by decide +kernel)
theorem scTName : FnScope ["self", "name"] ["self", "name"] (defScope sTName) := ⟨rfl, rfl, rfl, by decide +kernel, rfl, by decide +kernel, by decide +kernel⟩
theorem ok_tname {f fN : Addr} {fd fdN : FuncData} (F : Fun K "take_name" "Sheet.take_name" sTName f fd) (T : Tx K mg aN aX C) (N : CalF P w K mg base 2 "is_name" ["part"] spNm fN fdN) : FnOk P w K mg base CX0 3 f fd ["self", "name"] (spM C aName) := by
  refine F.ok scTName (fun vs H Q E h => by obtain ⟨H0, p, s, vs', r, rfl, ⟨x, rfl, _⟩, _⟩ := h; rfl) (fun cdv A outer s H vs Q E hr h => ?_)
  obtain ⟨H0, p, z, _, _, rfl, ⟨x, rfl, hx, hn, rfl⟩, ⟨dx, a, b, c, us, S⟩, k⟩ := h
  have hu := hu_of hr
  refine ⟨_, pss_cons (ps_if (PW.pt (pw_or (pt_not (pt_val (pe_call N.G hr (by rfl) N.g N.kp N.b .nil pass0 (pa_cons (pv 1) pa_nil)))) (pw_or1 (pt_cmp (pc_din hu (pv 1) (pe_fld (pv 0) rfl)))))) (pss_one (ps_ret pe_bl)) pss_nil)
    (pss_cons (ps_dput hu (pe_fld (pv 0) rfl) (pv 1) (pe_callB call_len_seq (by rfl) T.len PySem.boot_len (pa_cons (pe_fld (pv 0) rfl) pa_nil)) rfl)
    (pss_one (ps_ret pe_bl))), ?_⟩
  refine ⟨_, rfl, x, rfl, hx, _, rfl, ifN (fun h => ?_) (fun h => ?_)⟩
  · have e : nameM x z = (false, z) := if_pos (Or.inl h)
    rw [e] at k
    exact k _ ⟨dx, a, b, c, us, S⟩
  · refine ⟨_, rfl, _, rfl, p, C, dx, _, _, rfl, S.hp, T.cl, T.nN, shF_n _ _ _, b, _, rfl, DGet.k (k := Sum.inr x) S.hb, _, rfl, ?_⟩
    rw [valV_nmK]
    refine ifB (fun h2 => ?_) (fun h2 => ?_)
    · have e : nameM x z = (false, z) := if_pos (Or.inr h2)
      rw [e] at k
      exact k _ ⟨dx, a, b, c, us, S⟩
    · have e : nameM x z = (true, { z with names := z.names ++ [(x, (z.words.length : Int))] }) := if_neg (fun q => q.elim (fun q => by rw [h] at q; cases q) (fun q => by rw [h2] at q; cases q))
      rw [e] at k
      refine ⟨_, rfl, p, C, dx, _, _, rfl, S.hp, T.cl, T.nW, shF_w _ _ _, a, _, rfl, .inl (SqL.of S.ha), ?_⟩
      refine ⟨_, rfl, p, C, dx, _, _, rfl, S.hp, T.cl, T.nN, shF_n _ _ _, _, rfl, b, _, rfl, DPut.k (k := Sum.inr x) S.hb (by rw [nmK_len]; exact Nat.lt_of_lt_of_le hn (by decide)), ?_⟩
      rw [List.length_map, putK_nmK h2]
      exact k _ ⟨dx, a, b, c, us, S.named _⟩
theorem posN_at {z : Str} (h : z ∈ opN) : opN[posN z]? = some z ∧ ∀ m, m < posN z → opN[m]? ≠ some z := by
  have hlt : posN z < opN.length := List.findIdx_lt_length_of_exists ⟨z, h, by simp⟩
  refine ⟨?_, fun m hm e => ?_⟩
  · have q := List.findIdx_getElem (xs := opN) (p := fun y => y == z) (w := hlt)
    rw [List.getElem?_eq_getElem hlt]
    exact congrArg some (eq_of_beq q)
  · have q := List.not_of_lt_findIdx (xs := opN) (p := fun y => y == z) hm
    obtain ⟨hl, e'⟩ := List.getElem?_eq_some_iff.mp e
    rw [e'] at q
    simp at q
theorem posN_lt {z : Str} (h : z ∈ opN) : posN z < 23 := List.findIdx_lt_length_of_exists ⟨z, h, by simp⟩
theorem scTBare : FnScope ["self", "op"] ["self", "op"] (defScope sTBare) := ⟨rfl, rfl, rfl, by decide +kernel, rfl, by decide +kernel, by decide +kernel⟩
theorem ok_tbare {f fL : Addr} {fd fdL : FuncData} (F : Fun K "take_bare" "Sheet.take_bare" sTBare f fd) (T : Tx K mg aN aX C) (L : CalM P w K mg base C 2 "lay" ["self", "word", "many"] (spM C aLay) fL fdL) : FnOk P w K mg base CX0 3 f fd ["self", "op"] (spM C aBare) := by
  obtain ⟨tx, gxs⟩ := T.xs
  refine F.ok scTBare (fun vs H Q E h => by obtain ⟨H0, p, s, vs', r, rfl, ⟨x, rfl, _⟩, _⟩ := h; rfl) (fun cdv A outer s H vs Q E hr h => ?_)
  obtain ⟨H0, p, z, _, _, rfl, ⟨x, rfl, rfl⟩, ⟨dx, a, b, c, us, S⟩, k⟩ := h
  have hu := hu_of hr
  refine ⟨_, pss_cons (ps_if (PW.pt (pw_or (pt_cmpR op_notIn_seq (pv 1) (pgR T.gN) (by rfl)) (pw_or1 (pt_cmpR op_in_seq (pv 1) (pgR T.gX) (by rfl))))) (pss_one (ps_ret pe_bl)) pss_nil)
    (pss_one (ps_ret (pe_meth (pv 0) T.cl L.m L.G hr L.b .nil pass0 (pa_cons (pe_op op_mul (pe_bm PySem.F.plainAttrs_tuple PySem.F.slot_tuple_index PySem.F.type_tuple_index mt_tup_index (pgR T.gN) (pa_cons (pv 1) pa_nil)) (pgI gxs)) (pa_cons pe_int pa_nil))))), ?_⟩
  have ef : ∀ {B : Prop}, (x ∉ opN ∨ x ∈ opX) → Q (.bl false) H := fun h => by
    have e : bareM x z = (false, z) := if_pos h
    rw [e] at k
    exact k _ ⟨dx, a, b, c, us, S⟩
  refine ⟨_, rfl, aN, _, rfl, .inr (T.vN _), rfl, flat_strs' _, _, rfl, ?_⟩
  rw [if_pos rfl, in_strs]
  refine ifN (fun h => ?_) (fun h => ?_)
  · exact ef (B := True) (.inl (of_decide_eq_false h))
  · have hm : x ∈ opN := of_decide_eq_true h
    refine ⟨_, rfl, aX, _, rfl, .inr (T.vX _), rfl, flat_strs' _, _, rfl, ?_⟩
    rw [if_neg Bool.false_ne_true, in_strs]
    refine ifB (fun h2 => ?_) (fun h2 => ?_)
    · exact ef (B := True) (.inr (of_decide_eq_true h2))
    · have hx2 : ¬ x ∈ opX := of_decide_eq_false h2
      have e : bareM x z = layM ((posN x : Int) * 1024) 1 z := if_neg (fun q => q.elim (fun q => q hm) hx2)
      rw [e] at k
      obtain ⟨oN, l1, l2, l3⟩ := T.tN
      refine ⟨_, rfl, p, dx, _, rfl, S.hp, no_take, .inr (.inl ⟨rfl, oN, l1, l2, l3⟩), _, rfl, aN, opN, x, posN x, rfl, rfl, T.vN _, (posN_at hm).1, (posN_at hm).2, _, _, rfl, rfl, .inl ?_, ?_⟩
      · have := posN_lt hm
        exact ⟨by omega, by omega⟩
      · exact ⟨H0, p, z, _, _, rfl, ⟨_, 1, rfl, by decide, by decide, rfl⟩, ⟨dx, a, b, c, us, S⟩, k⟩
theorem scTAt : FnScope ["self", "address"] ["self", "address"] (defScope sTAt) := ⟨rfl, rfl, rfl, by decide +kernel, rfl, by decide +kernel, by decide +kernel⟩
theorem ok_tat {f fL : Addr} {fd fdL : FuncData} (F : Fun K "take_at" "Sheet.take_at" sTAt f fd) (T : Tx K mg aN aX C) (L : CalM P w K mg base C 2 "lay" ["self", "word", "many"] (spM C aLay) fL fdL) : FnOk P w K mg base CX0 3 f fd ["self", "address"] (spM C aAt) := by
  obtain ⟨tx, gxs⟩ := T.er
  refine F.ok scTAt (fun vs H Q E h => by obtain ⟨H0, p, s, vs', r, rfl, ⟨x, rfl, _⟩, _⟩ := h; rfl) (fun cdv A outer s H vs Q E hr h => ?_)
  obtain ⟨H0, p, z, _, _, rfl, ⟨o, rfl, hb, rfl⟩, ⟨dx, a, b, c, us, S⟩, k⟩ := h
  refine ⟨_, pss_cons (ps_if (PW.pt (pw_or (pt_cmp (pc_isN (pv 1))) (pw_or1 (pt_cmpR op_lt (pv 1) (pe_callB call_len_seq (by rfl) T.len PySem.boot_len (pa_cons (pe_fld (pv 0) rfl) pa_nil)) (nomark _))))) (pss_one (ps_ret pe_bl)) pss_nil)
    (pss_one (ps_ret (pe_meth (pv 0) T.cl L.m L.G hr L.b .nil pass0 (pa_cons (pgI gxs) (pa_cons (pe_op op_sub (pv 1) (pe_callB call_len_seq (by rfl) T.len PySem.boot_len (pa_cons (pe_fld (pv 0) rfl) pa_nil))) pa_nil))))), ?_⟩
  cases o with
  | none =>
    refine ⟨_, rfl, _, rfl, ?_⟩
    exact k _ ⟨dx, a, b, c, us, S⟩
  | some n =>
    obtain ⟨n0, n1⟩ := hb n rfl
    refine ⟨_, rfl, _, rfl, ?_⟩
    refine ⟨_, rfl, _, rfl, p, C, dx, _, _, rfl, S.hp, T.cl, T.nW, shF_w _ _ _, a, _, rfl, .inl (SqL.of S.ha), _, _, rfl, rfl, _, rfl, ?_⟩
    rw [List.length_map]
    refine ifB (fun h => ?_) (fun h => ?_)
    · have e : atM (some n) z = (false, z) := if_pos (of_decide_eq_true h)
      rw [e] at k
      exact k _ ⟨dx, a, b, c, us, S⟩
    · have h' := of_decide_eq_false h
      have e : atM (some n) z = layM 65535 (n - z.words.length) z := if_neg h'
      rw [e] at k
      refine ⟨_, rfl, p, dx, _, rfl, S.hp, no_take, _, rfl, _, rfl, p, C, dx, _, _, rfl, S.hp, T.cl, T.nW, shF_w _ _ _, a, _, rfl, .inl (SqL.of S.ha), _, _, rfl, rfl, ?_⟩
      rw [List.length_map]
      exact ⟨H0, p, z, _, _, rfl, ⟨_, _, rfl, by omega, by omega, rfl⟩, ⟨dx, a, b, c, us, S⟩, k⟩
theorem scTKeep : FnScope ["self", "many"] ["self", "many"] (defScope sTKeep) := ⟨rfl, rfl, rfl, by decide +kernel, rfl, by decide +kernel, by decide +kernel⟩
theorem ok_tkeep {f fL : Addr} {fd fdL : FuncData} (F : Fun K "take_keep" "Sheet.take_keep" sTKeep f fd) (T : Tx K mg aN aX C) (L : CalM P w K mg base C 2 "lay" ["self", "word", "many"] (spM C aLay) fL fdL) : FnOk P w K mg base CX0 3 f fd ["self", "many"] (spM C aKeep) := by
  refine F.ok scTKeep (fun vs H Q E h => by obtain ⟨H0, p, s, vs', r, rfl, ⟨x, rfl, _⟩, _⟩ := h; rfl) (fun cdv A outer s H vs Q E hr h => ?_)
  obtain ⟨H0, p, z, _, _, rfl, ⟨o, rfl, hb, rfl⟩, ⟨dx, a, b, c, us, S⟩, k⟩ := h
  refine ⟨_, pss_cons (ps_if (pt_cmp (pc_isN (pv 1))) (pss_one (ps_ret pe_bl)) pss_nil)
    (pss_one (ps_ret (pe_meth (pv 0) T.cl L.m L.G hr L.b .nil pass0 (pa_cons pe_int (pa_cons (pv 1) pa_nil))))), ?_⟩
  cases o with
  | none =>
    refine ⟨_, rfl, _, rfl, ?_⟩
    exact k _ ⟨dx, a, b, c, us, S⟩
  | some n =>
    obtain ⟨n0, n1⟩ := hb n rfl
    refine ⟨_, rfl, _, rfl, ?_⟩
    refine ⟨_, rfl, p, dx, _, rfl, S.hp, no_take, _, rfl, ?_⟩
    exact ⟨H0, p, z, _, _, rfl, ⟨_, _, rfl, n0, n1, rfl⟩, ⟨dx, a, b, c, us, S⟩, k⟩
theorem scTWorth : FnScope ["self", "at", "base", "part", "most", "number"] ["self", "at", "base", "part", "most"] (defScope sTWorth) := ⟨rfl, rfl, rfl, by decide +kernel, rfl, by decide +kernel, by decide +kernel⟩
theorem ok_tworth {f fL fN fM : Addr} {fd fdL fdN fdM : FuncData} (F : Fun K "take_worth" "Sheet.take_worth" sTWorth f fd) (T : Tx K mg aN aX C) (L : CalM P w K mg base C 2 "lay" ["self", "word", "many"] (spM C aLay) fL fdL)
    (N : CalF P w K mg base 2 "is_name" ["part"] spNm fN fdN) (M : CalF P w K mg base 2 "number_of" ["part"] spNum fM fdM) : FnOk P w K mg base CX0 3 f fd ["self", "at", "base", "part", "most"] (spM C aWorth) := by
  refine F.ok scTWorth (fun vs H Q E h => by obtain ⟨H0, p, s, vs', r, rfl, ⟨_, _, _, _, rfl, _⟩, _⟩ := h; rfl) (fun cdv A outer s H vs Q E hr h => ?_)
  obtain ⟨H0, p, z, _, _, rfl, ⟨i, bs, x, m, rfl, hx, hus, rfl⟩, ⟨dx, a, b, c, us, S⟩, k⟩ := h
  refine ⟨_, pss_cons (ps_if (pt_val (pe_call N.G hr (by rfl) N.g N.kp N.b .nil pass0 (pa_cons (pv 3) pa_nil)))
      (pss_cons (ps_expr (pe_bm PySem.F.plainAttrs_list PySem.F.slot_list_append PySem.F.type_list_append mt_append (pe_fld (pv 0) rfl) (pa_cons (pe_tup (pa_cons (pv 1) (pa_cons (pe_callB call_len_seq (by rfl) T.len PySem.boot_len (pa_cons (pe_fld (pv 0) rfl) pa_nil)) (pa_cons (pv 3) pa_nil)))) pa_nil)))
        (pss_one (ps_ret (pe_meth (pv 0) T.cl L.m L.G hr L.b .nil pass0 (pa_cons (pv 2) (pa_cons pe_int pa_nil)))))) pss_nil)
    (pss_cons (ps_set (i := 5) scTWorth.nd rfl (.inl rfl) (pe_call M.G hr (by rfl) M.g M.kp M.b .nil pass0 (pa_cons (pv 3) pa_nil)))
    (pss_cons (ps_if (PW.pt (pw_or (pt_cmp (pc_isN (pv 5))) (pw_or1 (pt_cmpR op_gt (pv 5) (pv 4) (nomark _))))) (pss_one (ps_ret pe_bl)) pss_nil)
    (pss_one (ps_ret (pe_meth (pv 0) T.cl L.m L.G hr L.b .nil pass0 (pa_cons (pe_op op_add (pv 2) (pv 5)) (pa_cons pe_int pa_nil))))))), ?_⟩
  refine ⟨_, rfl, x, rfl, hx, _, rfl, ifB (fun h => ?_) (fun h => ?_)⟩
  · have e : worthM i bs x m z = layM bs 1 { z with uses := z.uses ++ [(i, (z.words.length : Int), x)] } := if_pos h
    rw [e] at k
    refine ⟨_, rfl, p, C, dx, _, _, rfl, S.hp, T.cl, T.nU, shF_u _ _ _, .inl ⟨rfl, _, SqL.of S.hc⟩, ?_⟩
    refine ⟨_, rfl, _, rfl, p, C, dx, _, _, rfl, S.hp, T.cl, T.nW, shF_w _ _ _, a, _, rfl, .inl (SqL.of S.ha), _, rfl, (by show 3 ≤ sizeLine; decide), fun t nt => ?_⟩
    rw [List.length_map]
    have S1 := S.more (o := useT (i, (z.words.length : Int), x)) nt
    refine ⟨c, us, _, rfl, rfl, S1.hc, ?_, ?_⟩
    · rw [UsesAt.len S.hu]
      exact Nat.lt_of_lt_of_le hus (by decide)
    · have S2 := S1.used (u := (i, (z.words.length : Int), x)) upd_same
      refine ⟨_, rfl, p, dx, _, rfl, S2.hp, no_take, _, rfl, ?_⟩
      exact ⟨H0, p, _, _, _, rfl, ⟨_, 1, rfl, by decide, by decide, rfl⟩, ⟨dx, a, b, c, _, S2⟩, k⟩
  · refine ⟨_, rfl, x, rfl, hx, ?_⟩
    unfold worthM at k
    rw [h, if_neg Bool.false_ne_true] at k
    cases hn : numOf x with
    | none =>
      rw [hn] at k
      refine ⟨_, rfl, _, rfl, ?_⟩
      exact k _ ⟨dx, a, b, c, us, S⟩
    | some n =>
      rw [hn] at k
      refine ⟨_, rfl, _, rfl, ?_⟩
      refine ⟨_, rfl, _, rfl, _, _, rfl, rfl, _, rfl, ?_⟩
      have k' : ∀ H' : Hp, SheetAt C H0 H' p (if n > m then (false, z) else layM (bs + n) 1 z).2 → Q (.bl (if n > m then (false, z) else layM (bs + n) 1 z).1) H' := k
      refine ifB (fun h2 => ?_) (fun h2 => ?_)
      · rw [if_pos (of_decide_eq_true h2)] at k'
        exact k' _ ⟨dx, a, b, c, us, S⟩
      · rw [if_neg (of_decide_eq_false h2)] at k'
        refine ⟨_, rfl, p, dx, _, rfl, S.hp, no_take, _, rfl, _, rfl, _, _, rfl, rfl, ?_⟩
        exact ⟨H0, p, _, _, _, rfl, ⟨_, 1, rfl, by decide, by decide, rfl⟩, ⟨dx, a, b, c, _, S⟩, k'⟩
end
end Bh

/-! take_pair, take: one row of a text. -/
namespace Bh
open PySem PySem.Spec PyProof.Rows L2
open TL
theorem spl_part_le (S : List Nat) : ∀ (l : List Nat) (k : Nat) (acc : List Nat), ∀ q ∈ spl S k acc l, q.length ≤ acc.length + l.length
  | [], k, acc, q, hq => by
    rw [spl_nil] at hq
    rw [List.mem_singleton.mp hq]
    exact Nat.le_add_right _ _
  | c :: r, 0, acc, q, hq => by
    cases e : pre S (c :: r) with
    | true =>
      rw [spl_hit e] at hq
      rcases List.mem_cons.mp hq with h | h
      · rw [h]
        exact Nat.le_add_right _ _
      · have := spl_part_le S r (S.length - 1) [] q h
        simp only [List.length_nil, List.length_cons] at this ⊢
        omega
    | false =>
      rw [spl_miss e] at hq
      have := spl_part_le S r 0 (acc ++ [c]) q hq
      simp only [List.length_append, List.length_cons, List.length_nil] at this ⊢
      omega
  | c :: r, k + 1, acc, q, hq => by
    have := spl_part_le S r k acc q hq
    simp only [List.length_cons] at this ⊢
    omega
theorem split_le {x y : Str} (hy : tl y ≠ []) (hk : y.cps.all (· < 256) = true) {q : Str} (hq : q ∈ Txt.split x y) : q.length ≤ x.length := by
  have e := split_spl x y hy (kind_ok hk)
  have m : tl q ∈ (Txt.split x y).map tl := List.mem_map_of_mem hq
  rw [e] at m
  have := spl_part_le (tl y) (tl x) 0 [] (tl q) m
  rw [len_tl, len_tl]
  simpa using this
theorem opX_sub {z : Str} (h : z ∈ opX) : z ∈ opN := by
  have key : ∀ y ∈ opX, y ∈ opN := by decide +kernel
  exact key z h
theorem no_m {a b c : Addr} {m : Str} (h : decide (m = ("words" : Str) ∨ m = ("names" : Str) ∨ m = ("uses" : Str)) = false) : (shF a b c).lookup m = none := by
  have h' := of_decide_eq_false h
  exact shF_no _ _ _ (fun e => h' (.inl e)) (fun e => h' (.inr (.inl e))) (fun e => h' (.inr (.inr e)))
section
variable {P : Program} {w : World} {K : PySem.W.Frag} {mg : Str → Option Value} {base : Heap} {aN aX C : Addr}
theorem scTPair : FnScope ["self", "at", "head", "part"] ["self", "at", "head", "part"] (defScope sTPair) := ⟨rfl, rfl, rfl, by decide +kernel, rfl, by decide +kernel, by decide +kernel⟩
theorem ok_tpair {f fA fP fW fM : Addr} {fd fdA fdP fdW fdM : FuncData} (F : Fun K "take_pair" "Sheet.take_pair" sTPair f fd) (T : Tx K mg aN aX C) (A1 : CalM P w K mg base C 3 "take_at" ["self", "address"] (spM C aAt) fA fdA)
    (A2 : CalM P w K mg base C 3 "take_keep" ["self", "many"] (spM C aKeep) fP fdP) (A3 : CalM P w K mg base C 3 "take_worth" ["self", "at", "base", "part", "most"] (spM C aWorth) fW fdW)
    (M : CalF P w K mg base 2 "number_of" ["part"] spNum fM fdM) : FnOk P w K mg base CX0 4 f fd ["self", "at", "head", "part"] (spM C aPair) := by
  obtain ⟨tx, gxs⟩ := T.xs
  obtain ⟨tw, gwm⟩ := T.wm
  refine F.ok scTPair (fun vs H Q E h => by obtain ⟨H0, p, s, vs', r, rfl, ⟨_, _, _, rfl, _⟩, _⟩ := h; rfl) (fun cdv A outer s H vs Q E hr h => ?_)
  obtain ⟨H0, p, z, _, _, rfl, ⟨i, hd, x, rfl, hx, hus, rfl⟩, ⟨dx, a, b, c, us, S⟩, k⟩ := h
  have hr1 : Room 2 _ := hr.mono (by decide)
  refine ⟨_, pss_cons (ps_if (pt_cmpR op_eq (pv 2) pe_str (nomark _)) (pss_one (ps_ret (pe_meth (pv 0) T.cl A1.m A1.G hr A1.b .nil pass0 (pa_cons (pe_call M.G hr1 (by rfl) M.g M.kp M.b .nil pass0 (pa_cons (pv 3) pa_nil)) pa_nil)))) pss_nil)
    (pss_cons (ps_if (pt_cmpR op_eq (pv 2) pe_str (nomark _)) (pss_one (ps_ret (pe_meth (pv 0) T.cl A2.m A2.G hr A2.b .nil pass0 (pa_cons (pe_call M.G hr1 (by rfl) M.g M.kp M.b .nil pass0 (pa_cons (pv 3) pa_nil)) pa_nil)))) pss_nil)
    (pss_cons (ps_if (pt_cmpR op_eq (pv 2) pe_str (nomark _)) (pss_one (ps_ret (pe_meth (pv 0) T.cl A3.m A3.G hr A3.b .nil pass0 (pa_cons (pv 1) (pa_cons pe_int (pa_cons (pv 3) (pa_cons (pgI gwm) pa_nil))))))) pss_nil)
    (pss_cons (ps_if (pt_cmpR op_in_seq (pv 2) (pgR T.gX) (by rfl)) (pss_one (ps_ret (pe_meth (pv 0) T.cl A3.m A3.G hr A3.b .nil pass0 (pa_cons (pv 1) (pa_cons (pe_op op_mul (pe_bm PySem.F.plainAttrs_tuple PySem.F.slot_tuple_index PySem.F.type_tuple_index mt_tup_index (pgR T.gN) (pa_cons (pv 2) pa_nil)) (pgI gxs)) (pa_cons (pv 3) (pa_cons (pe_op op_sub (pgI gxs) pe_int) pa_nil))))))) pss_nil)
    (pss_one (ps_ret pe_bl))))), ?_⟩
  have S' : SheetAt C H0 H p z := ⟨dx, a, b, c, us, S⟩
  have bnd : ∀ n, numOf x = some n → 0 ≤ n ∧ n < 100000 := fun n e => ⟨numOf_nonneg e, numOf_lt e⟩
  unfold pairM at k
  refine ⟨_, rfl, rfl, _, rfl, ifB (fun h1 => ?_) (fun h1 => ?_)⟩
  · rw [if_pos (V.str.inj (of_decide_eq_true h1))] at k
    exact ⟨_, rfl, p, dx, _, rfl, S.hp, no_m (by decide +kernel), _, rfl, x, rfl, hx, H0, p, z, _, _, rfl, ⟨_, rfl, bnd, rfl⟩, S', k⟩
  rw [if_neg (fun e => of_decide_eq_false h1 (congrArg V.str e))] at k
  refine ⟨_, rfl, rfl, _, rfl, ifB (fun h2 => ?_) (fun h2 => ?_)⟩
  · rw [if_pos (V.str.inj (of_decide_eq_true h2))] at k
    exact ⟨_, rfl, p, dx, _, rfl, S.hp, no_m (by decide +kernel), _, rfl, x, rfl, hx, H0, p, z, _, _, rfl, ⟨_, rfl, bnd, rfl⟩, S', k⟩
  rw [if_neg (fun e => of_decide_eq_false h2 (congrArg V.str e))] at k
  refine ⟨_, rfl, rfl, _, rfl, ifB (fun h3 => ?_) (fun h3 => ?_)⟩
  · rw [if_pos (V.str.inj (of_decide_eq_true h3))] at k
    exact ⟨_, rfl, p, dx, _, rfl, S.hp, no_m (by decide +kernel), _, rfl, _, rfl, H0, p, z, _, _, rfl, ⟨_, _, _, _, rfl, hx, hus, rfl⟩, S', k⟩
  rw [if_neg (fun e => of_decide_eq_false h3 (congrArg V.str e))] at k
  refine ⟨_, rfl, aX, _, rfl, .inr (T.vX _), rfl, flat_strs' _, _, rfl, ?_⟩
  rw [if_neg Bool.false_ne_true, in_strs]
  refine ifB (fun h4 => ?_) (fun h4 => ?_)
  · have h4' := of_decide_eq_true h4
    rw [if_pos h4'] at k
    have hm := opX_sub h4'
    obtain ⟨oN, l1, l2, l3⟩ := T.tN
    refine ⟨_, rfl, p, dx, _, rfl, S.hp, no_m (by decide +kernel), _, rfl, .inr (.inl ⟨rfl, oN, l1, l2, l3⟩), _, rfl, aN, opN, hd, posN hd, rfl, rfl, T.vN _, (posN_at hm).1, (posN_at hm).2, _, _, rfl, rfl, .inl ?_, _, rfl, _, _, rfl, rfl, ?_⟩
    · have := posN_lt hm
      exact ⟨by omega, by omega⟩
    · exact ⟨H0, p, z, _, _, rfl, ⟨_, _, _, _, rfl, hx, hus, rfl⟩, S', k⟩
  · rw [if_neg (of_decide_eq_false h4)] at k
    exact k _ S'
theorem scTake : FnScope ["self", "at", "row", "parts"] ["self", "at", "row"] (defScope sTake) := ⟨rfl, rfl, rfl, by decide +kernel, rfl, by decide +kernel, by decide +kernel⟩
theorem ok_take {f fA fP fW : Addr} {fd fdA fdP fdW : FuncData} (F : Fun K "take" "Sheet.take" sTake f fd) (T : Tx K mg aN aX C) (A1 : CalM P w K mg base C 3 "take_name" ["self", "name"] (spM C aName) fA fdA)
    (A2 : CalM P w K mg base C 3 "take_bare" ["self", "op"] (spM C aBare) fP fdP) (A3 : CalM P w K mg base C 4 "take_pair" ["self", "at", "head", "part"] (spM C aPair) fW fdW) : FnOk P w K mg base CX0 5 f fd ["self", "at", "row"] (spM C aTake) := by
  refine F.ok scTake (fun vs H Q E h => by obtain ⟨H0, p, s, vs', r, rfl, ⟨_, _, rfl, _⟩, _⟩ := h; rfl) (fun cdv A outer s H vs Q E hr h => ?_)
  obtain ⟨H0, p, z, _, _, rfl, ⟨i, x, rfl, hx, hns, hus, rfl⟩, ⟨dx, a, b, c, us, S⟩, k⟩ := h
  have hr2 : Room 3 _ := hr.mono (by decide)
  refine ⟨_, pss_cons (ps_if (pt_cmpR op_eq (pv 2) pe_str (nomark _)) (pss_one (ps_ret pe_bl)) pss_nil)
    (pss_cons (ps_if (pt_val (pe_m1 PySem.F.slot_str_endswith PySem.F.type_str_endswith mt_endswith (pv 2) pe_str)) (pss_one (ps_ret (pe_meth (pv 0) T.cl A1.m A1.G hr2 A1.b .nil pass0 (pa_cons (pe_slice sl_str (pv 2) po_none (po_some (pe_un un_neg pe_int))) pa_nil)))) pss_nil)
    (pss_cons (ps_set (i := 3) scTake.nd rfl (.inl rfl) (pe_split (pv 2) pe_str))
    (pss_cons (ps_if (pt_cmpR op_eq (pe_callB call_len_seq (by rfl) T.len PySem.boot_len (pa_cons (pv 3) pa_nil)) pe_int (nomark _)) (pss_one (ps_ret (pe_meth (pv 0) T.cl A2.m A2.G hr2 A2.b .nil pass0 (pa_cons (pv 2) pa_nil)))) pss_nil)
    (pss_cons (ps_if (pt_cmpR op_eq (pe_callB call_len_seq (by rfl) T.len PySem.boot_len (pa_cons (pv 3) pa_nil)) pe_int (nomark _)) (pss_one (ps_ret (pe_meth (pv 0) T.cl A3.m A3.G hr A3.b .nil pass0 (pa_cons (pv 1) (pa_cons (pe_ix ix_list (pv 3) pe_int (fun _ _ => rfl)) (pa_cons (pe_ix ix_list (pv 3) pe_int (fun _ _ => rfl)) pa_nil)))))) pss_nil)
    (pss_one (ps_ret pe_bl)))))), ?_⟩
  have S' : SheetAt C H0 H p z := ⟨dx, a, b, c, us, S⟩
  have hline : x.length ≤ sizeLine := fits_small (by omega)
  unfold takeM at k
  refine ⟨_, rfl, rfl, _, rfl, ifB (fun h1 => ?_) (fun h1 => ?_)⟩
  · rw [if_pos (V.str.inj (of_decide_eq_true h1))] at k
    exact k _ S'
  rw [if_neg (fun e => of_decide_eq_false h1 (congrArg V.str e))] at k
  refine ⟨_, rfl, ⟨_, rfl⟩, _, _, rfl, rfl, _, rfl, ifB (fun h2 => ?_) (fun h2 => ?_)⟩
  · rw [if_pos h2] at k
    have hc := cutS_length x none (some (-1))
    exact ⟨_, rfl, p, dx, _, rfl, S.hp, no_m (by decide +kernel), _, rfl, 1, rfl, _, rfl, _, rfl, hline, H0, p, z, _, _, rfl, ⟨_, rfl, by omega, hns, rfl⟩, S', k⟩
  rw [if_neg (by rw [h2]; exact Bool.false_ne_true)] at k
  refine ⟨_, rfl, ⟨_, rfl⟩, _, _, rfl, rfl, rfl, (by
    have : 90002 ≤ sizeLine := by decide
    omega), fun l nl => ?_⟩
  have S1 := S.more (o := .lst ((Txt.split x " ").map V.str)) nl
  have S1' : SheetAt C H0 _ p z := ⟨dx, a, b, c, us, S1⟩
  have hl : SqL K (upd H l (.lst ((Txt.split x " ").map V.str))) l ((Txt.split x " ").map V.str) := .inl (.inl upd_same)
  have hle : ∀ q ∈ Txt.split x " ", q.length ≤ 100000 := fun q hq => Nat.le_trans (split_le (by decide +kernel) (by decide +kernel) hq) (by omega)
  refine ⟨_, rfl, l, _, rfl, .inl hl, rfl, _, rfl, ?_⟩
  rw [List.length_map]
  generalize Txt.split x " " = parts at *
  refine ifB (fun h3 => ?_) (fun h3 => ?_)
  · have e1 : parts.length = 1 := by
      have z1 := V.int.inj (of_decide_eq_true h3)
      omega
    match parts, e1 with
    | [q], _ => exact ⟨_, rfl, p, dx, _, rfl, S1.hp, no_m (by decide +kernel), _, rfl, H0, p, z, _, _, rfl, ⟨_, rfl, rfl⟩, S1', k⟩
  have n1 : parts.length ≠ 1 := fun e => of_decide_eq_false h3 (by rw [e] <;> rfl)
  refine ⟨_, rfl, l, _, rfl, .inl hl, rfl, _, rfl, ?_⟩
  rw [List.length_map]
  refine ifB (fun h4 => ?_) (fun h4 => ?_)
  · have e2 : parts.length = 2 := by
      have z1 := V.int.inj (of_decide_eq_true h4)
      omega
    match parts, e2 with
    | [q1, q2], _ => exact ⟨_, rfl, p, dx, _, rfl, S1.hp, no_m (by decide +kernel), _, rfl, _, rfl, l, _, 0, .str q1, rfl, rfl, hl, atI_nat (j := 0) rfl, _, rfl, l, _, 1, .str q2, rfl, rfl, hl, atI_nat (j := 1) rfl, H0, p, z, _, _, rfl, ⟨_, _, _, rfl, hle q2 (by simp), hus, rfl⟩, S1', k⟩
  · have n2 : parts.length ≠ 2 := fun e => of_decide_eq_false h4 (by rw [e] <;> rfl)
    match parts, n1, n2 with
    | [], _, _ => exact k _ S1'
    | [_], n, _ => exact absurd rfl n
    | [_, _], _, n => exact absurd rfl n
    | _ :: _ :: _ :: _, _, _ => exact k _ S1'
end
end Bh

/-! put_names_in where every name stands, typed of a text that is read. -/
namespace Bh
open PySem PySem.Spec PyProof.Rows L2
open TL
/-! ### two rules -/
section
variable {X : Cx}
/-- xs[j], read for xs[j] op= e -/
def rAtL (K : PySem.W.Frag) : V → V → Hp → VK → Prop := fun o i H Q => ∃ (p : Addr) (xs : List V) (j : Nat) (z : V), o = .ref p ∧ i = .int (j : Int) ∧ SqL K H p xs ∧ xs[j]? = some z ∧ Q z H
theorem get_list : PGet X (rAtL X.K) := by
  intro pins s σ H o i ov iv Q I ro ri h
  obtain ⟨p, xs, j, z, rfl, rfl, hq, hz, q⟩ := h
  cases ro
  obtain ⟨t, rfl⟩ := ri
  obtain ⟨its, rv, pl, hs⟩ := I.list hq
  obtain ⟨u, hu, ru⟩ := rv.get hz
  have hj : j < xs.length := (List.getElem?_eq_some_iff.mp hz).1
  have hl := rv.length
  have hn := line63
  have hs' : xs.length ≤ sizeLine := hs
  exact wpAny_getItem_list pl.isList (by omega) (by omega) (by simpa using hu) ⟨z, H, I, ru, q⟩
theorem for_enum {K : PySem.W.Frag} {a : Addr} {xs : List V} {g : TG} {tb : TS} {D : Ends} {σ : L2.St} {H : Hp} (Pv : Nat → L2.St → Hp → Prop) (start : Pv 0 σ H) (stays : ∀ i σ H, Pv i σ H → SqL K H a xs)
    (turn : ∀ (i : Nat) (x : V) (T : Addr) (σ : L2.St) (H : Hp), xs[i]? = some x → Pv i σ H → H T = none → g (.ref T) σ (upd H T (.tup [.int (i : Nat), x])) fun σ2 H2 => tb { D with nx := Pv (i + 1), ct := Pv (i + 1), bk := D.nx } σ2 H2) (ends : ∀ σ H, Pv xs.length σ H → D.nx σ H) :
    ∃ W : Nat → Nat → L2.St → Hp → Prop, (∃ m, W 0 m σ H) ∧ ∀ i m σ H, W i m σ H →
      ((Ite K a).stop i H ∧ D.nx σ H) ∨ ((Ite K a).go i H ∧ ∃ N : L2.St → Hp → Prop, (∀ σ' H', N σ' H' → ∃ m', m' < m ∧ W (i + 1) m' σ' H') ∧ ∀ v H', (Ite K a).yld i H v H' → g v σ H' fun σ2 H2 => tb { D with nx := N, ct := N, bk := D.nx } σ2 H2) := by
  refine ⟨fun i m σ H => i + m = xs.length ∧ Pv i σ H, ⟨xs.length, Nat.zero_add _, start⟩, fun i m σ H hW => ?_⟩
  obtain ⟨hm, hP⟩ := hW
  have hS := stays i σ H hP
  cases m with
  | zero =>
    have e : i = xs.length := hm
    rw [e] at hP
    exact .inl ⟨⟨xs, hS, Nat.le_of_eq e.symm⟩, ends σ H hP⟩
  | succ m =>
    have hi : i < xs.length := by omega
    have hx : xs[i]? = some xs[i] := List.getElem?_eq_getElem hi
    refine .inr ⟨⟨xs, xs[i], hS, hx⟩, Pv (i + 1), fun σ' H' h' => ⟨m, Nat.lt_succ_self m, by omega, h'⟩, fun v H' hy => ?_⟩
    obtain ⟨T, y, rfl, hT, rfl, hy⟩ := hy
    have ey : xs[i] = y := Option.some.inj (hx.symm.trans (hy xs hS))
    rw [← ey]
    exact turn i xs[i] T σ H hx hP hT
end
/-! ### names resolved -/
def look (ns : List (Str × Int)) (x : Str) : Option Int := (ns.find? fun p => p.1 == x).map (·.2)
def putM (ns : List (Str × Int)) : List (Int × Int × Str) → List Int → Option (List Int)
  | [], ws => some ws
  | u :: r, ws => match look ns u.2.2, ws[u.2.1.toNat]? with
    | some n, some v => putM ns r (ws.set u.2.1.toNat (v + n))
    | _, _ => none
theorem valV_look (x : Str) : ∀ ns : List (Str × Int), valV (nmK ns) (Sum.inr x) = (look ns x).map V.int
  | [] => rfl
  | (y, n) :: r => by
    have ih := valV_look x r
    unfold nmK look at ih ⊢
    rw [List.map_cons, List.find?_cons]
    by_cases e : y = x
    · subst e
      rw [valV_pos rfl]
      simp
    · have e1 : ¬ ((Sum.inr y : Key) = Sum.inr x) := fun z => e (Sum.inr.inj z)
      rw [valV_neg e1, ih]
      have e2 : (y == x) = false := by simpa using e
      rw [e2]
theorem paired_get {α β : Type} {F : α → β → Prop} : ∀ {xs : List α} {ys : List β} {i : Nat} {y : β}, Paired F xs ys → ys[i]? = some y → ∃ x, xs[i]? = some x ∧ F x y
  | _, _, _, _, .nil, e => by simp at e
  | _, _, 0, _, .cons r _, e => ⟨_, rfl, by rw [← Option.some.inj e]; exact r⟩
  | _, _, i + 1, y, .cons _ t, e => paired_get (i := i) (y := y) t e
theorem set_map (ws : List Int) (j : Nat) (v : Int) : (ws.map V.int).set j (.int v) = (ws.set j v).map V.int := by
  rw [List.map_set]
section
variable {P : Program} {w : World} {K : PySem.W.Frag} {mg : Str → Option Value} {base : Heap} {aN aX C : Addr}
def spPut (C : Addr) : Sp := fun vs H Q _ => ∃ (H0 : Hp) (p : Addr) (s : Sh) (ws : List Int), vs = [.ref p] ∧ SheetAt C H0 H p s ∧ (∀ u ∈ s.uses, 0 ≤ u.2.1) ∧ putM s.names s.uses s.words = some ws ∧ ∀ H' : Hp, SheetAt C H0 H' p { s with words := ws } → Q .non H'
theorem scPut : FnScope ["self", "at", "address", "name"] ["self"] (defScope sPut) := ⟨rfl, rfl, rfl, by decide +kernel, rfl, by decide +kernel, by decide +kernel⟩
theorem ok_put {f : Addr} {fd : FuncData} (F : Fun K "put_names_in" "Sheet.put_names_in" sPut f fd) (T : Tx K mg aN aX C) : FnOk P w K mg base CX0 2 f fd ["self"] (spPut C) := by
  refine F.ok scPut (fun vs H Q E h => by obtain ⟨H0, p, s, ws, rfl, _⟩ := h; rfl) (fun cdv A outer s H vs Q E hr h => ?_)
  obtain ⟨H0, p, z, wz, rfl, ⟨dx, a, b, c, us, S⟩, hpos, hput, k⟩ := h
  have hu := hu_of hr
  refine ⟨_, pss_one (ps_for PassesOwn.never rfl (pi_list (pe_fld (pv 0) rfl)) (pg_tup rfl (pgs_cons (pg_name (i := 1) scPut.nd rfl (.inl rfl)) (pgs_cons (pg_name (i := 2) scPut.nd rfl (.inl rfl)) (pgs_cons (pg_name (i := 3) scPut.nd rfl (.inl rfl)) pgs_nil))))
    (pss_cons (ps_if (pt_cmp (pc_dnotin hu (pv 3) (pe_fld (pv 0) rfl))) (pss_one ps_never) pss_nil)
    (pss_one (ps_augS (pe_fld (pv 0) rfl) (pv 2) get_list (pe_dget hu (pe_fld (pv 0) rfl) (pv 3) (fun _ _ => rfl)) ip_add set_list)))), ?_⟩
  refine ⟨_, rfl, p, C, dx, _, _, rfl, S.hp, T.cl, T.nU, shF_u _ _ _, c, rfl, ⟨_, SqL.of S.hc⟩, ?_⟩
  refine for_list (K := K) (a := c) (xs := us) (fun i σ H' => ∃ (ws : List Int) (y1 y2 y3 : Option V), σ = [some (.ref p), y1, y2, y3] ∧ Shp C H0 H' p dx a b c us { z with words := ws } ∧ putM z.names (z.uses.drop i) ws = some wz)
    ⟨z.words, none, none, none, rfl, S, hput⟩ (fun i σ H' _ h => by obtain ⟨ws, y1, y2, y3, _, S', _⟩ := h; exact SqL.of S'.hc) ?_ ?_
  · rintro i v σ H' hi ⟨ws, y1, y2, y3, rfl, S', hq⟩
    have hul := UsesAt.len S'.hu
    have hil : i < z.uses.length := by
      rw [← hul]
      exact (List.getElem?_eq_some_iff.mp hi).1
    obtain ⟨u, hu1⟩ : ∃ u, z.uses[i]? = some u := ⟨_, List.getElem?_eq_getElem hil⟩
    obtain ⟨v', hv', t, et, ht⟩ := paired_get S'.hu hu1
    have : v = .ref t := by
      rw [← et]
      exact Option.some.inj (hi.symm.trans hv')
    subst this
    have hdrop : z.uses.drop i = u :: z.uses.drop (i + 1) := by
      rw [List.drop_eq_getElem_cons hil]
      have : z.uses[i] = u := Option.some.inj ((List.getElem?_eq_getElem hil).symm.trans hu1)
      rw [this]
    rw [hdrop] at hq
    have hp0 := hpos u (List.mem_of_getElem? hu1)
    unfold putM at hq
    cases hl : look z.names u.2.2 with
    | none => rw [hl] at hq; cases hq
    | some n =>
      rw [hl] at hq
      cases hw : ws[u.2.1.toNat]? with
      | none => rw [hw] at hq; cases hq
      | some vv =>
        rw [hw] at hq
        have hq' : putM z.names (z.uses.drop (i + 1)) (ws.set u.2.1.toNat (vv + n)) = some wz := hq
        have ev : valV (nmK z.names) (Sum.inr u.2.2) = some (.int n) := by
          rw [valV_look, hl]
          rfl
        refine ⟨t, _, rfl, SqT.of ht, rfl, _, _, rfl, _, _, rfl, _, _, rfl, rfl, ?_⟩
        refine ⟨_, rfl, _, rfl, p, C, dx, _, _, rfl, S'.hp, T.cl, T.nN, shF_n _ _ _, b, some (.int n), rfl, (by rw [← ev]; exact DGet.k (k := Sum.inr u.2.2) S'.hb), _, rfl, ?_⟩
        refine ⟨_, rfl, p, C, dx, _, _, rfl, S'.hp, T.cl, T.nW, shF_w _ _ _, _, rfl, ?_⟩
        have eN : u.2.1 = ((u.2.1.toNat : Nat) : Int) := (Int.toNat_of_nonneg hp0).symm
        have hlt : u.2.1.toNat < ws.length := (List.getElem?_eq_some_iff.mp hw).1
        refine ⟨a, _, u.2.1.toNat, .int vv, rfl, congrArg V.int eN, SqL.of S'.ha, by rw [List.getElem?_map, hw]; rfl, ?_⟩
        refine ⟨_, rfl, p, C, dx, _, _, rfl, S'.hp, T.cl, T.nN, shF_n _ _ _, _, rfl, ?_⟩
        have ei : ixN (ws.map V.int).length u.2.1 = some u.2.1.toNat := by
          unfold ixN
          rw [if_pos hp0, List.length_map, if_pos (by omega)]
        refine ⟨b, .int n, rfl, (by rw [← ev]; exact DGet.k (k := Sum.inr u.2.2) S'.hb), vv, n, rfl, rfl, a, _, _, _, rfl, rfl, S'.ha, ei, ws.set u.2.1.toNat (vv + n), _, _, _, rfl, ?_, hq'⟩
        rw [set_map]
        exact S'.words _ (by rw [List.length_set]; exact S'.lw)
  · rintro σ H' ⟨ws, y1, y2, y3, rfl, S', hq⟩
    have hul := UsesAt.len S'.hu
    rw [hul, List.drop_length] at hq
    cases hq
    exact k _ ⟨dx, a, b, c, us, S'⟩
theorem takeM_lens (i : Int) (r : Str) (s : Sh) : (takeM i r s).2.names.length ≤ s.names.length + 1 ∧ (takeM i r s).2.uses.length ≤ s.uses.length + 1 := by
  have hl : ∀ (w m : Int) (s : Sh), (layM w m s).2.names = s.names ∧ (layM w m s).2.uses = s.uses := fun w m s => by
    unfold layM
    split <;> exact ⟨rfl, rfl⟩
  have hn : ∀ (x : Str) (s : Sh), (nameM x s).2.names.length ≤ s.names.length + 1 ∧ (nameM x s).2.uses.length ≤ s.uses.length + 1 := fun x s => by
    unfold nameM
    split
    · exact ⟨Nat.le_succ _, Nat.le_succ _⟩
    · refine ⟨?_, Nat.le_succ _⟩
      show (s.names ++ _).length ≤ _
      rw [List.length_append]
      exact Nat.le_refl _
  have hw : ∀ (i b : Int) (x : Str) (m : Int) (s : Sh), (worthM i b x m s).2.names.length ≤ s.names.length + 1 ∧ (worthM i b x m s).2.uses.length ≤ s.uses.length + 1 := fun i b x m s => by
    unfold worthM
    split
    · rw [(hl _ _ _).1, (hl _ _ _).2]
      refine ⟨Nat.le_succ _, ?_⟩
      show (s.uses ++ _).length ≤ _
      rw [List.length_append]
      exact Nat.le_refl _
    · split
      · exact ⟨Nat.le_succ _, Nat.le_succ _⟩
      · split
        · exact ⟨Nat.le_succ _, Nat.le_succ _⟩
        · rw [(hl _ _ _).1, (hl _ _ _).2]
          exact ⟨Nat.le_succ _, Nat.le_succ _⟩
  have h0 : s.names.length ≤ s.names.length + 1 ∧ s.uses.length ≤ s.uses.length + 1 := ⟨Nat.le_succ _, Nat.le_succ _⟩
  have hl0 : ∀ w m, (layM w m s).2.names.length ≤ s.names.length + 1 ∧ (layM w m s).2.uses.length ≤ s.uses.length + 1 := fun w m => by
    rw [(hl _ _ _).1, (hl _ _ _).2]
    exact h0
  unfold takeM
  split
  · exact h0
  split
  · exact hn _ _
  split
  · unfold bareM
    split
    · exact h0
    · exact hl0 _ _
  · unfold pairM
    split
    · unfold atM
      split
      · exact h0
      · split
        · exact h0
        · exact hl0 _ _
    split
    · unfold keepM
      split
      · exact h0
      · exact hl0 _ _
    split
    · exact hw _ _ _ _ _
    split
    · exact hw _ _ _ _ _
    · exact h0
  · exact h0
theorem Shp.based {H0 H : Hp} {p dx a b c l : Addr} {us : List V} {s : Sh} {o : HO} (h : Shp C H0 H p dx a b c us s) (nl : H l = none) : Shp C (upd H0 l o) (upd H l o) p dx a b c us s where
  sm := fun z y e => by
    by_cases hz : z = l
    · rw [hz, upd_same] at e ⊢
      exact e
    · rw [upd_ne hz] at e ⊢
      exact h.sm _ _ e
  fp := by rw [upd_ne (ne_of_none h.hp nl)]; exact h.fp
  fa := by rw [upd_ne (ne_of_none h.ha nl)]; exact h.fa
  fb := by rw [upd_ne (ne_of_none h.hb nl)]; exact h.fb
  fc := by rw [upd_ne (ne_of_none h.hc nl)]; exact h.fc
  hp := same_upd' nl _ _ h.hp
  ha := same_upd' nl _ _ h.ha
  hb := same_upd' nl _ _ h.hb
  hc := same_upd' nl _ _ h.hc
  ac := h.ac
  hu := h.hu.mono fun t xs e => same_upd' nl _ _ e
  lw := h.lw
theorem split_count_le (x y : Str) (hy : tl y ≠ []) (hk : y.cps.all (· < 256) = true) : (Txt.split x y).length ≤ x.length + 1 := by
  have key : ∀ (S l : List Nat) (k : Nat) (acc : List Nat), (spl S k acc l).length ≤ l.length + 1 := by
    intro S l
    induction l with
    | nil => intro k acc; rw [spl_nil]; exact Nat.le_refl _
    | cons c r ih =>
      intro k acc
      cases k with
      | zero =>
        cases e : pre S (c :: r) with
        | true =>
          rw [spl_hit e, List.length_cons, List.length_cons]
          have := ih (S.length - 1) []
          omega
        | false =>
          rw [spl_miss e, List.length_cons]
          have := ih 0 (acc ++ [c])
          omega
      | succ k =>
        have := ih k acc
        rw [List.length_cons]
        show (spl S k acc r).length ≤ _
        omega
  have e := split_spl x y hy (kind_ok hk)
  have l := congrArg List.length e
  rw [List.length_map] at l
  rw [l, len_tl]
  exact key _ _ _ _
/-- typed of a text that is read: the rows' sheet, its words with the names put in -/
def spTyped : Sp := fun vs H Q _ => ∃ (x : Str) (s : Sh) (ws : List Int), vs = [.str x] ∧ x.length ≤ 80000 ∧ runM 0 (Txt.split x "\n") sh0 = some s ∧ (∀ u ∈ s.uses, 0 ≤ u.2.1) ∧ putM s.names s.uses s.words = some ws ∧
  ∀ (H' : Hp) (t a b : Addr), Same H H' → H t = none → H a = none → H b = none → H' t = some (.tup [.ref a, .ref b]) → H' a = some (.lst (ws.map V.int)) → H' b = some (.dK (nmK s.names)) → Q (.ref t) H'
theorem scTyped : FnScope ["text", "sheet", "at", "row"] ["text"] (defScope sTyped) := ⟨rfl, rfl, rfl, by decide +kernel, rfl, by decide +kernel, by decide +kernel⟩
theorem ok_typed {f fI fK fP : Addr} {fd fdI fdK fdP : FuncData} (F : Fun K "typed" "typed" sTyped f fd) (T : Tx K mg aN aX C) (M : Mk K C fI) (I : FnOk P w K mg base CX0 2 fI fdI ["self"] (spInit C)) (bI : Binds K fdI ["self"] [])
    (A1 : CalM P w K mg base C 5 "take" ["self", "at", "row"] (spM C aTake) fK fdK) (A2 : CalM P w K mg base C 2 "put_names_in" ["self"] (spPut C) fP fdP) : FnOk P w K mg base CX0 6 f fd ["text"] spTyped := by
  refine F.ok scTyped (fun vs H Q E h => by obtain ⟨x, s, ws, rfl, _⟩ := h; rfl) (fun cdv A outer s H vs Q E hr h => ?_)
  obtain ⟨x, sf, wf, rfl, hx, hrun, hpos, hput, q⟩ := h
  have hr1 : Room 2 _ := hr.mono (by decide)
  have hr2 : Room (2 + 1) _ := hr.mono (by decide)
  refine ⟨_, pss_cons (ps_set (i := 1) scTyped.nd rfl (.inl rfl) (pe_make0 M I hr2 rfl T.gC bI .nil pass0))
    (pss_cons (ps_for PassesOwn.never rfl (pi_enum (by rfl) T.enu (pa_cons (pe_split (pv 0) pe_str) pa_nil)) (pg_tup rfl (pgs_cons (pg_name (i := 2) scTyped.nd rfl (.inl rfl)) (pgs_cons (pg_name (i := 3) scTyped.nd rfl (.inl rfl)) pgs_nil)))
      (pss_one (ps_if (pt_not (pt_val (pe_meth (pv 1) T.cl A1.m A1.G hr A1.b .nil pass0 (pa_cons (pv 2) (pa_cons (pv 3) pa_nil))))) (pss_one ps_never) pss_nil)))
    (pss_cons (ps_expr (pe_meth0 (pv 1) T.cl A2.m A2.G hr1 A2.b .nil pass0))
    (pss_one (ps_ret (pe_tup (pa_cons (pe_fld (pv 1) rfl) (pa_cons (pe_fld (pv 1) rfl) pa_nil))))))), ?_⟩
  intro p dx0 np ndx nex
  have s0 : Same H (upd (upd H dx0 (.own p)) p (.ins C dx0 [])) := fun b o e => by
    rw [upd_ne (ne_of_none e np), upd_ne (ne_of_none e ndx)]
    exact e
  refine ⟨H, p, dx0, rfl, s0, np, upd_same, fun H1 R1 => ⟨rfl, _, rfl, ⟨_, rfl⟩, _, _, rfl, rfl, rfl, (by
    have : 80002 ≤ sizeLine := by decide
    omega), fun l nl => ?_⟩⟩
  obtain ⟨dx, a, b, c, us, S⟩ := R1
  have Sb := S.based (l := l) (o := .lst ((Txt.split x "\n").map V.str)) nl
  have nl0 : H l = none := S.sm.free nl
  have hcount := split_count_le x "\n" (by decide +kernel) (by decide +kernel)
  have hlen : ∀ r ∈ Txt.split x "\n", r.length ≤ 90000 := fun r hm => Nat.le_trans (split_le (by decide +kernel) (by decide +kernel) hm) (by omega)
  generalize Txt.split x "\n" = rows at *
  refine ⟨l, _, rfl, .inl (.inl upd_same), ?_⟩
  refine for_enum (K := K) (a := l) (xs := rows.map V.str) (fun i σ H' => ∃ (s : Sh) (y2 y3 : Option V), σ = [some (.str x), some (.ref p), y2, y3] ∧ SheetAt C (upd H l (.lst (rows.map V.str))) H' p s ∧ runM i (rows.drop i) s = some sf ∧ s.names.length ≤ i ∧ s.uses.length ≤ i)
    ⟨sh0, none, none, rfl, ⟨dx, a, b, c, us, Sb⟩, hrun, Nat.zero_le _, Nat.zero_le _⟩ (fun i σ H' h => by
      obtain ⟨s, y2, y3, _, ⟨_, _, _, _, _, S'⟩, _⟩ := h
      exact .inl (.inl (S'.sm _ _ upd_same))) ?_ ?_
  · rintro i v T' σ H' hi ⟨z, y2, y3, rfl, ⟨dx', a', b', c', us', S'⟩, hrun', hn, hus⟩ nT
    obtain ⟨r, hr', rfl⟩ : ∃ r, rows[i]? = some r ∧ V.str r = v := by
      rw [List.getElem?_map] at hi
      cases e : rows[i]? with
      | none => rw [e] at hi; cases hi
      | some r => rw [e] at hi; exact ⟨r, rfl, Option.some.inj hi⟩
    have hil : i < rows.length := (List.getElem?_eq_some_iff.mp hr').1
    have hdrop : rows.drop i = r :: rows.drop (i + 1) := by
      rw [List.drop_eq_getElem_cons hil]
      have : rows[i] = r := Option.some.inj ((List.getElem?_eq_getElem hil).symm.trans hr')
      rw [this]
    rw [hdrop] at hrun'
    unfold runM at hrun'
    have S1 := S'.more (o := .tup [.int (i : Nat), .str r]) nT
    refine ⟨T', _, rfl, SqT.of upd_same, rfl, _, _, rfl, _, _, rfl, rfl, ?_⟩
    refine ⟨_, rfl, p, dx', _, rfl, S1.hp, no_m (by decide +kernel), _, rfl, _, rfl, upd H l (.lst (rows.map V.str)), p, z, _, _, rfl, ⟨_, _, rfl, hlen r (List.mem_of_getElem? hr'), by omega, by omega, rfl⟩, ⟨dx', a', b', c', us', S1⟩, fun H2 R2 => ⟨_, rfl, ?_⟩⟩
    have hl2 := takeM_lens (i : Int) r z
    cases e : (takeM (i : Int) r z).1 with
    | false => rw [e] at hrun'; cases hrun'
    | true =>
      rw [e] at hrun'
      have hrun2 : runM ((i : Int) + 1) (rows.drop (i + 1)) (takeM (i : Int) r z).2 = some sf := hrun'
      exact ⟨_, _, _, rfl, R2, hrun2, by omega, by omega⟩
  · rintro σ H' ⟨z, y2, y3, rfl, ⟨dx', a', b', c', us', S'⟩, hrun', hn, hus⟩
    rw [List.length_map, List.drop_length] at hrun'
    cases hrun'
    refine ⟨_, rfl, p, dx', _, rfl, S'.hp, no_m (by decide +kernel), upd H l (.lst (rows.map V.str)), p, sf, wf, rfl, ⟨dx', a', b', c', us', S'⟩, hpos, hput, fun H2 R2 => ?_⟩
    obtain ⟨dx2, a2, b2, c2, us2, S2⟩ := R2
    refine ⟨_, rfl, p, C, dx2, _, _, rfl, S2.hp, T.cl, T.nW, shF_w _ _ _, _, rfl, p, C, dx2, _, _, rfl, S2.hp, T.cl, T.nN, shF_n _ _ _, (by show 2 ≤ sizeLine; decide), fun t nt => ?_⟩
    have fr : ∀ {y : Addr}, upd H l (.lst (rows.map V.str)) y = none → H y = none := fun {y} e => (same_upd' nl0).free e
    have sm2 : Same H H2 := (same_upd' nl0).trans S2.sm
    refine q _ t a2 b2 (sm2.trans (same_upd' nt)) (sm2.free nt) (fr S2.fa) (fr S2.fb) upd_same ?_ ?_
    · rw [upd_ne (ne_of_none S2.ha nt)]
      exact S2.ha
    · rw [upd_ne (ne_of_none S2.hb nt)]
      exact S2.hb
end
end Bh

/-! The law. -/
namespace Bh
open PySem PySem.Spec PyProof.Rows L2
open TL
theorem can_ints : ∀ ns : List Int, PyData.canLayAll0 (ns.map PyData.int) = true
  | [] => rfl
  | n :: r => by
    show (PyData.canLay0 (.int n) && PyData.canLayAll0 (r.map PyData.int)) = true
    rw [can_ints r]
    rfl
theorem dep_ints : ∀ ns : List Int, PyData.depthAll (ns.map PyData.int) ≤ 1
  | [] => by decide
  | n :: r => by
    have ih := dep_ints r
    show max (PyData.depth (.int n)) (PyData.depthAll (r.map PyData.int)) ≤ 1
    exact Nat.max_le.mpr ⟨Nat.zero_le _, ih⟩
theorem dp_ints {K : PySem.W.Frag} {H : Hp} : ∀ ns : List Int, DpAll K H (ns.map V.int) (ns.map PyData.int)
  | [] => .nil
  | n :: r => .cons (.int n) (dp_ints r)
theorem shaped_ints (ns : List Int) : SeqAt.shaped (.list (ns.map PyData.int)) = true := by
  show (PyData.canLayAll0 (ns.map PyData.int) && decide (PyData.depthAll (ns.map PyData.int) + 1 ≤ 64)) = true
  rw [can_ints, decide_eq_true (by have := dep_ints ns; omega)]
  rfl
theorem lf_tl : tl ("\n" : Str) = [10] := by decide +kernel
theorem lf_k : ("\n" : Str).cps.all (· < 256) = true := by decide +kernel
theorem numL_nolf (n : Nat) : 10 ∉ numL n := numL_free (.inl (by decide))
section
variable {P : Program} {w : World} {K : PySem.W.Frag} {mg : Str → Option Value} {base : Heap} {aN aX C : Addr}
def spLaw (K : PySem.W.Frag) : Sp := fun vs H Q _ => ∃ (a : Addr) (ns : List Int), vs = [.ref a] ∧ SqL K H a (ns.map V.int) ∧ ns.length ≤ 63 ∧ ∀ H', Q (.bl true) H'
theorem cut_ints (ns : List Int) (lo hi : Option Int) : ∃ ms : List Int, cutV (ns.map V.int) lo hi = ms.map V.int ∧ ms.length ≤ ns.length := by
  unfold cutV
  rw [← List.map_drop, ← List.map_take]
  refine ⟨_, rfl, ?_⟩
  rw [List.length_take, List.length_drop]
  omega
end
end Bh

/-! The law's own defs: its digits, its row. -/
namespace Bh
open PySem PySem.Spec PyProof.Rows L2
open TL
abbrev sDig : Stmt := topS 20
section
variable {P : Program} {w : World} {K : PySem.W.Frag} {mg : Str → Option Value} {base : Heap} {aN aX C : Addr}
def DigOk (ds : List Int) : Prop := ∀ d ∈ ds, 0 ≤ d ∧ d ≤ 1008
def spDig : Sp := fun vs H Q _ => ∃ (c : Int) (m : Nat), vs = [.int c, .int (m : Int)] ∧ m ≤ 1000 ∧ ∀ (H' : Hp) (p : Addr) (ds : List Int), ds.length = m → DigOk ds → Same H H' → H p = none → H' p = some (.lst (ds.map V.int)) → Q (.ref p) H'
theorem scDig : FnScope ["_law_cell_here", "_law_many", "_law_row", "_law_rest", "_law_number_here", "_law_k"] ["_law_cell_here", "_law_many"] (defScope sDig) := ⟨rfl, rfl, rfl, by decide +kernel, rfl, by decide +kernel, by decide +kernel⟩
theorem digOk_snoc {ds : List Int} {d : Int} (h : DigOk ds) (h0 : 0 ≤ d) (h1 : d ≤ 1008) : DigOk (ds ++ [d]) := fun x hx => by
  rcases List.mem_append.mp hx with q | q
  · exact h x q
  · rw [List.mem_singleton.mp q]
    exact ⟨h0, h1⟩
theorem ok_dig {f : Addr} {fd : FuncData} (F : Fun K "_law_digits" "_law_digits" sDig f fd) (gr : mg "range" = none) : FnOk P w K mg base CX0 2 f fd ["_law_cell_here", "_law_many"] spDig := by
  refine F.ok scDig (fun vs H Q E h => by obtain ⟨c, m, rfl, _⟩ := h; rfl) (fun cdv A outer s H vs Q E hr h => ?_)
  obtain ⟨c, m, rfl, hm, q⟩ := h
  have ap : ∀ {X : Cx} , True := fun {_} => trivial
  refine ⟨_, pss_cons (ps_set (i := 2) scDig.nd rfl (.inl rfl) (pe_lst pa_nil))
    (pss_cons (ps_set (i := 3) scDig.nd rfl (.inl rfl) pe_int)
    (pss_cons (ps_if (pt_cmpR op_ge (pv 0) (pe_op op_pow pe_int pe_int) (nomark _)) (pss_one (ps_set (i := 3) scDig.nd rfl (.inl rfl) (pv 0))) pss_nil)
    (pss_cons (ps_set (i := 4) scDig.nd rfl (.inl rfl) (pe_op op_mod (pv 0) pe_int))
    (pss_cons (ps_for PassesOwn.never rfl (pi_range1 (by rfl) gr (pa_cons (pv 1) pa_nil)) (pg_name (i := 5) scDig.nd rfl (.inl rfl))
      (pss_cons (ps_set (i := 4) scDig.nd rfl (.inl rfl) (pe_op op_mod (pe_op op_add (pe_op op_add (pe_op op_mul (pv 4) pe_int) (pe_op op_mul pe_int (pv 5))) pe_int) pe_int))
      (pss_cons (ps_set (i := 4) scDig.nd rfl (.inl rfl) (pe_op op_mod (pe_op op_mul (pv 4) (pe_op op_add (pe_op op_fdiv (pv 4) pe_int) pe_int)) pe_int))
      (pss_one (ps_if (pt_cmpR op_gt (pv 3) pe_int (nomark _))
        (pss_cons (ps_expr (pe_bm PySem.F.plainAttrs_list PySem.F.slot_list_append PySem.F.type_list_append mt_append (pv 2) (pa_cons (pe_op op_mod (pv 3) pe_int) pa_nil)))
          (pss_one (ps_set (i := 3) scDig.nd rfl (.inl rfl) (pe_op op_fdiv (pv 3) pe_int))))
        (pss_one (ps_expr (pe_bm PySem.F.plainAttrs_list PySem.F.slot_list_append PySem.F.type_list_append mt_append (pv 2) (pa_cons (pe_op op_mod (pe_op op_fdiv (pv 4) pe_int) pe_int) pa_nil)))))))))
    (pss_one (ps_ret (pv 2))))))), ?_⟩
  refine ⟨Nat.zero_le _, fun p np => ?_⟩
  refine ⟨_, rfl, _, _, rfl, rfl, ⟨by decide, by decide, by decide⟩, _, _, rfl, rfl, _, rfl, ite2 (fun _ => ⟨_, rfl, ?_⟩) (fun _ => ?_)⟩
  all_goals
    refine ⟨_, rfl, _, _, rfl, rfl, (by show (0 : Int) < 2147483647; decide), ?_⟩
    refine ⟨_, rfl, (m : Int), rfl, by omega, by omega, ?_⟩
    refine for_range (lo := 0) (n := ((m : Int)).toNat) (fun i σ H' => ∃ (rest num : Int) (y : Option V) (ds : List Int), σ = [some (.int c), some (.int (m : Int)), some (.ref p), some (.int rest), some (.int num), y] ∧ 0 ≤ num ∧ num < 2147483647 ∧ ds.length = i ∧ DigOk ds ∧ Same H H' ∧ H' p = some (.lst (ds.map V.int)))
      ⟨_, _, none, [], rfl, Int.emod_nonneg _ (by decide), Int.emod_lt_of_pos _ (by decide), rfl, (fun _ h => by cases h), same_upd' np, upd_same⟩ ?_ ?_
    · rintro i σ H' hi ⟨rest, num, y, ds, rfl, n0, n1, hl, hd, sm, hp⟩
      have him : i < 1000 := by omega
      refine ⟨_, rfl, _, _, rfl, rfl, .inl ⟨by omega, by omega⟩, _, rfl, _, _, rfl, rfl, .inl ⟨by decide, by decide⟩, _, _, rfl, rfl, _, _, rfl, rfl, _, _, rfl, rfl, (by show (0 : Int) < 2147483647; decide), ?_⟩
      have a0 := Int.emod_nonneg (num * 48271 + 30103 * (0 + (i : Int)) + 11) (show (2147483647 : Int) ≠ 0 by decide)
      have a1 := Int.emod_lt_of_pos (num * 48271 + 30103 * (0 + (i : Int)) + 11) (show (0 : Int) < 2147483647 by decide)
      refine ⟨_, rfl, _, rfl, _, _, rfl, rfl, ⟨by decide, by decide⟩, _, _, rfl, rfl, _, _, rfl, rfl, .inl ⟨by omega, by omega⟩, _, _, rfl, rfl, (by show (0 : Int) < 2147483629; decide), ?_⟩
      have b0 := Int.emod_nonneg (((num * 48271 + 30103 * (0 + (i : Int)) + 11) % 2147483647) * (((num * 48271 + 30103 * (0 + (i : Int)) + 11) % 2147483647) / 1009 + 69621)) (show (2147483629 : Int) ≠ 0 by decide)
      have b1 := Int.emod_lt_of_pos (((num * 48271 + 30103 * (0 + (i : Int)) + 11) % 2147483647) * (((num * 48271 + 30103 * (0 + (i : Int)) + 11) % 2147483647) / 1009 + 69621)) (show (0 : Int) < 2147483629 by decide)
      have hlen : (ds.map V.int).length < sizeLine := by
        rw [List.length_map]
        exact small1000 (by omega)
      have upd_ok : ∀ (d : Int), Same H (upd H' p (.lst (ds.map V.int ++ [.int d]))) ∧ upd H' p (.lst (ds.map V.int ++ [.int d])) p = some (.lst ((ds ++ [d]).map V.int)) := fun d => by
        refine ⟨same_of sm np, ?_⟩
        rw [upd_same, List.map_append]
        rfl
      refine ⟨_, rfl, _, _, rfl, rfl, _, rfl, ite2 (fun _ => ?_) (fun _ => ?_)⟩
      · refine ⟨_, rfl, .inl ⟨rfl, _, SqL.of hp⟩, _, rfl, _, _, rfl, rfl, (by show (0 : Int) < 1009; decide), p, _, _, rfl, rfl, hp, hlen, ?_⟩
        refine ⟨_, rfl, _, _, rfl, rfl, ⟨by decide, by decide⟩, ?_⟩
        have c0 := Int.emod_nonneg rest (show (1009 : Int) ≠ 0 by decide)
        have c1 := Int.emod_lt_of_pos rest (show (0 : Int) < 1009 by decide)
        exact ⟨_, _, _, ds ++ [rest % 1009], rfl, b0, by omega, by rw [List.length_append, hl]; rfl, digOk_snoc hd c0 (by omega), (upd_ok _).1, (upd_ok _).2⟩
      · refine ⟨_, rfl, .inl ⟨rfl, _, SqL.of hp⟩, _, rfl, _, _, rfl, rfl, ⟨by decide, by decide⟩, _, _, rfl, rfl, (by show (0 : Int) < 1009; decide), p, _, _, rfl, rfl, hp, hlen, ?_⟩
        have c0 := Int.emod_nonneg (((((num * 48271 + 30103 * (0 + (i : Int)) + 11) % 2147483647) * (((num * 48271 + 30103 * (0 + (i : Int)) + 11) % 2147483647) / 1009 + 69621)) % 2147483629) / 7) (show (1009 : Int) ≠ 0 by decide)
        have c1 := Int.emod_lt_of_pos (((((num * 48271 + 30103 * (0 + (i : Int)) + 11) % 2147483647) * (((num * 48271 + 30103 * (0 + (i : Int)) + 11) % 2147483647) / 1009 + 69621)) % 2147483629) / 7) (show (0 : Int) < 1009 by decide)
        exact ⟨_, _, _, ds ++ [((((num * 48271 + 30103 * (0 + (i : Int)) + 11) % 2147483647) * (((num * 48271 + 30103 * (0 + (i : Int)) + 11) % 2147483647) / 1009 + 69621)) % 2147483629) / 7 % 1009], rfl, b0, by omega, by rw [List.length_append, hl]; rfl, digOk_snoc hd c0 (by omega), (upd_ok _).1, (upd_ok _).2⟩
    · rintro σ H' ⟨rest, num, y, ds, rfl, n0, n1, hl, hd, sm, hp⟩
      exact ⟨_, rfl, q H' p ds (by omega) hd sm np hp⟩
end
end Bh

/-! The own error, its field at. -/
namespace PySem
namespace LowX
open PySem.W PySem.Calls PyProof.Rows PySem.HandSPX
/-! ### the text of __init__ -/
def iA (p1 p2 : Pos) : Arguments := { posonlyargs := [], args := [{ arg := "self", annotation := none, pos := p1 }, { arg := "at", annotation := none, pos := p2 }], vararg := none, kwonlyargs := [], kw_defaults := [], kwarg := none, defaults := [] }
def iB (q1 q2 q3 q4 : Pos) : List Stmt := [.Assign [.Attribute (.Name "self" q1) "at" q2] (.Name "at" q3) q4]
def iS : Scope := { kind := .function, names := [(PySem.Str.ofString "self", .local), (PySem.Str.ofString "at", .local)], isGenerator := false, isCoroutine := false, more := [] }
/-- what the written part says of Low, at C, and of its __init__, at fI -/
structure LowTxt (K : Frag) (mg : Str → Option Value) (C fI : Addr) : Prop where
  gC : mg "NoText" = some (.ref C)
  cls : ∃ nm q N bs bm sn sub ab col dd k0 k1 k2 k3 k5, K.lookup C = some (excClassObj nm q C N bs bm true sn sub ab col dd k0 k1 k2 k3 k5 "ValueError.__new__") ∧ refsVE bm = true
  sa : findIn K (.ref C) "__setattr__" = some (some (.builtin "object.__setattr__"))
  ga : findIn K (.ref C) "__getattribute__" = some (some (.builtin "BaseException.__getattribute__"))
  gg : findIn K (.ref C) "__getattr__" = some none
  noN : findIn K (.ref C) "at" = some none
  iC : findIn K (.ref C) "__init__" = some (some (.ref fI))
  tC : typeIn K (.ref fI) = some (.type "function")
  kC : keepIn K (.ref C) = true
  exC : subIn K (.ref C) (.type "BaseException") = some true
  tyC : typeIn K (.ref C) = some (.type "type")
  hdC : hasDictIn K C = true
  te : exmOne K (.ref C) (.ref C) = some true
  fn : ∃ (oc : Value) (od : Option Addr) (doc pm : Value) (an : Option Addr) (cdv ct : Value) (osl : Array (Option Value)) (p1 p2 q1 q2 q3 q4 : Pos),
    K.lookup fI = some ⟨oc, od, .func (fnOf "__init__" "NoText.__init__" (iA p1 p2) (iB q1 q2 q3 q4) iS .none .none doc pm an cdv ct), osl⟩ ∧ codeIn K cdv "NoText.__init__" = true
theorem one_size (v : Value) : [v].length ≤ sizeLine := by
  rw [sizeLine_eq]
  exact (by decide : 1 ≤ 16777216)
theorem kept_but {K : Frag} {h h' : Heap} {x : Addr} (X : K.In h) (hx : K.lookup x = none) (k : ∀ b o, b ≠ x → h.get? b = some o → h'.get? b = some o) : K.In h' := fun a o e =>
  k a o (fun z => by rw [z, hx] at e; cases e) (X a o e)
theorem ldC {M : Model} {s : Shared} {name : Str} {scope : Scope} {L a : Addr} {cd : Value} {m : Str → Option Value} {x : Str} {pos : Pos} {v : Value} {Q : Value → Shared → Prop} {A : Around} {E : Value → Shared → Prop} (hn : s.heap.Ns L m) (hv : m x = some v) (h : Q v s)
    (hk : scope.kind = .function := by rfl) (hl : (envOfC name scope L a cd).kindOf x = some .local := by rfl) (hd : (x == ("__debug__" : Str)) = false := by decide) :
    wpAny M A (eval (.Name x pos) (envOfC name scope L a cd)) Q E s := wpAny_Name (wpAny_loadName_local hk hl hn hv h) hd
/-- what __init__ leaves of a fresh exception at x -/
structure InitEnd (h h' : Heap) (x C dx t1 : Addr) (v : Value) : Prop where
  keep : ∀ b o, b ≠ x → h.get? b = some o → h'.get? b = some o
  obj : h'.get? x = some { cls := .ref C, dict := some dx, data := .fields #[.ref t1, .none, .none, .none, .bool false, .none] }
  dbig : h.objs.size ≤ dx
  dne : dx ≠ x
  ns : h'.Ns1 dx (fun y => if y = "at" then some v else none)
/-- a made Low -/
structure OwnMade (h h' : Heap) (e C d : Addr) (v : Value) : Prop where
  keep : ∀ b o, h.get? b = some o → h'.get? b = some o
  new : h.objs.size ≤ e
  obj : ∃ oe vs, h'.get? e = some oe ∧ oe.cls = .ref C ∧ oe.dict = some d ∧ oe.data = .fields vs ∧ vs[1]? = some .none
  dbig : h.objs.size ≤ d
  dne : d ≠ e
  ns : h'.Ns1 d (fun y => if y = "at" then some v else none)
section
variable {prog : Program} {w : World} {A : Around} {E : Value → Shared → Prop} {R : Result → Shared → Prop} {s : Shared} {K : Frag} {mg : Str → Option Value} {C fI : Addr}
theorem low_init (T : LowTxt K mg C fI) {x t0 : Addr} {v : Value} (X : K.In s.heap) (hlim : s.heap.NoLimit) (hx : s.heap.get? x = some (excO C t0)) (hnx : K.lookup x = none) (hroom : A.depth < recursionLimit)
    (hq : ∀ h' tk dx, InitEnd s.heap h' x C dx t0 v → R (.ok (.ret .none)) { s with heap := h', toks := tk }) :
    codeAny (model prog w) A (.call (.ref fI) ⟨[.ref x, v], []⟩) R s := by
  obtain ⟨oc, od, doc, pm, an, cdv, ct, osl, p1, p2, q1, q2, q3, q4, ho, hcd⟩ := T.fn
  obtain ⟨nm, q, N, bs, bm, sn, sub, ab, col, dd, k0, k1, k2, k3, k5, hC, hbm⟩ := T.cls
  have hcl : clsIn K C = some { name := nm, bases := bs, mro := .ref C :: bm, ns := N, qualname := q, hasDict := true, slotNames := sn, subclasses := sub, abstract := ab, collection := col, hasDel := false } := by unfold clsIn; rw [hC] <;> rfl
  refine Att.call_fn (binds := [("self", .ref x), ("at", v)]) X hlim ho hcd hroom (BindsTo.of_eq (by first | rfl | with_unfolding_all rfl)) (by first | rfl | decide | with_unfolding_all rfl) (fun s₁ IC => ?_) rfl rfl rfl
  obtain ⟨h₁, tk₁, rfl⟩ := IC.toInCall.same
  have k : ∀ b o, s.heap.get? b = some o → h₁.get? b = some o := IC.toInCall.keep
  have hn := IC.toInCall.ns
  have hxL : s.heap.objs.size ≠ x := Nat.ne_of_gt (Heap.lt_size hx)
  have X₁ : K.In h₁ := X.keeps k
  have hx₁ := k _ _ hx
  -- self.by = by
  show wpAny _ _ (execs _ _) _ _ _
  refine wpAny_execs_cons (plainObj_wpAny_Assign_Attribute ?_)
  refine ldC (v := v) hn (by first | rfl | with_unfolding_all rfl | kernel_rfl) (ldC (v := .ref x) hn (by first | rfl | with_unfolding_all rfl | kernel_rfl) ?_)
  refine set_plain X₁ (ox := excO C t0) (od := none) ⟨hx₁, rfl, rfl, trivial⟩ T.sa ?_
  refine exc_osa X₁ hx₁ hcl (show refsVE (.ref C :: bm) = true from hbm) rfl T.noN (fun h₃ tk₃ dx k₃ dn dne hx₃ hn₃ => ?_)
  show wpAny _ _ (execs _ _) _ _ _
  have z : s.heap.objs.size < h₁.objs.size := hn.lt
  exact wpAny_execs_nil (hq h₃ tk₃ dx ⟨fun b o hb e => k₃ b o hb (k b o e), hx₃, Nat.le_of_lt (Nat.lt_of_lt_of_le z dn), dne, hn₃⟩)
theorem low_made (T : LowTxt K mg C fI) {v : Value} (X : K.In s.heap) (hlim : s.heap.NoLimit) (hroom : A.depth + 1 < recursionLimit)
    (hq : ∀ h' tk e d, OwnMade s.heap h' e C d v → R (.ok (.ret (.ref e))) { s with heap := h', toks := tk }) :
    codeAny (model prog w) A (.call (.ref C) ⟨[v], []⟩) R s := by
  obtain ⟨nm, q, N, bs, bm, sn, sub, ab, col, dd, k0, k1, k2, k3, k5, hC, hbm⟩ := T.cls
  obtain ⟨hp, g, dr, tk, os⟩ := s
  have k : ∀ b o, hp.get? b = some o → ((hp.push (kdv_tup [v])).push (excO C hp.objs.size)).get? b = some o := fun b o e => Heap.get?_push_of_some _ (Heap.get?_push_of_some _ e)
  have hget : ((hp.push (kdv_tup [v])).push (excO C hp.objs.size)).get? (hp.objs.size + 1) = some (excO C hp.objs.size) := by heap_get
  have hnx : K.lookup (hp.objs.size + 1) = none := by
    cases e : K.lookup (hp.objs.size + 1) with
    | none => rfl
    | some o =>
      have z : hp.get? (hp.objs.size + 1) = some o := X _ _ e
      exact absurd (Nat.lt_of_succ_lt (Heap.lt_size z)) (Nat.lt_irrefl _)
  refine call_own F.excBase_ValueError (fun X => refsVE_contains X bm hbm) (X _ _ hC) (looks_findIn X T.iC) (fun self => bind_fn X self T.tC) (one_size v) ?_
  refine low_init (s := ⟨(hp.push (kdv_tup [v])).push (excO C hp.objs.size), g, dr, tk, os⟩) T (X.keeps k) (hlim.keeps k) hget hnx ?_ fun h' tk' dx ⟨k', hx, dn, dne, hns⟩ => ?_
  · show A.depth + 1 < recursionLimit
    exact hroom
  · have old : ∀ b o, hp.get? b = some o → h'.get? b = some o := fun b o e => k' b o (Nat.ne_of_lt (Nat.lt_succ_of_lt (Heap.lt_size e))) (k b o e)
    have z : hp.objs.size + 1 + 1 ≤ dx := by
      first
        | (simpa only [Heap.size_push] using dn)
        | exact dn
        | (have q := dn; rw [Heap.size_push, Heap.size_push] at q; exact q)
    exact ⟨rfl, hq h' tk' (hp.objs.size + 1) dx ⟨old, Nat.le_succ _, ⟨_, _, hx, rfl, rfl, rfl, rfl⟩, Nat.le_trans (Nat.le_trans (Nat.le_succ _) (Nat.le_succ _)) z, dne, hns⟩⟩
end
end LowX
end PySem
namespace L2
open PySem PySem.Spec PyProof.Rows
theorem relO_low {v : V} {v' : Value} (r : RelV v v') (f : Str) : RelO (List.lookup f [(("at" : Str), v)]) (if f = "at" then some v' else none) := by
  by_cases hw : f = "at"
  · subst hw
    rw [if_pos rfl]
    have q : List.lookup ("at" : Str) [(("at" : Str), v)] = some v := by simp [List.lookup]
    rw [q]
    exact r
  · rw [if_neg hw]
    have qw : (f == ("at" : Str)) = false := by simpa using hw
    have q2 : List.lookup f [(("at" : Str), v)] = none := by simp [List.lookup, qw]
    rw [q2]
    trivial
section
variable {X : Cx} {C fI : Addr}
/-- Low(e) -/
def tMkLow (C : Addr) (ta : TA) : St → Hp → XK → Prop := fun σ H Q => ta σ H fun vs H1 => ∃ v, vs = [v] ∧ ∀ d, H1 d = none → Q (.ref C) (some d) (upd H1 d (.xd [(("at" : Str), v)]))
theorem pmk_low {a : Expr} {ta : TA} {p pos : Pos} {k : Nat} (T : PySem.LowX.LowTxt X.K X.mg C fI) (hr : Room k X.A) (ha : PA X [a] ta) (hg : Gl X "NoText" := by rfl)
    (he : starEach (a :: []) X.env = (false, eval a X.env) :: starEach [] X.env := by rfl) (hpl : (backTo pos (starEach [] X.env)).any (·.1) = false := by rfl) :
    PMk X (.Call (.Name "NoText" p) [a] [] pos) (tMkLow C ta) := by
  intro pins s σ H Q I h
  refine wpAny_Call_Name_kw (ld_glob I hg T.gC ?_)
  refine PySem.W.callWith_K (h₀ := X.base) I.ok.mod.kin T.kC (thn (ha.run pos pins s σ H _ I h) fun us s1 hh => ?_) he hpl
  obtain ⟨vs, H1, I1, r1, v, ev, q1⟩ := hh
  subst ev
  refine ⟨I1.kIn, ?_⟩
  cases r1 with
  | cons rv rn =>
    rename_i v' us'
    cases rn
    show wpAny _ _ (call (.ref C) [v']) _ _ _
    have hlim := I1.nolimit
    obtain ⟨hp, g, dr, tk, os⟩ := s1
    refine wpAny_call (PySem.LowX.low_made T I1.kIn hlim (by have := hr.dp; omega) fun h' tk' e d M => ?_)
    show MkP X pins σ Q (.ref e) ⟨h', g, dr, tk', os⟩
    obtain ⟨oe, fv, hoe, hc, hd, hdat, h1⟩ := M.obj
    have hns := M.ns
    obtain ⟨G', g1, g2⟩ := restrict h' fun b => decide (b ≠ e)
    have gk : ∀ b, b ≠ e → G'.get? b = h'.get? b := fun b hb => g1 b (decide_eq_true hb)
    have ge : G'.get? e = none := g2 e (by simp)
    have old : ∀ b o, hp.get? b = some o → G'.get? b = some o := fun b o q => (gk b (Nat.ne_of_lt (Nat.lt_of_lt_of_le (Heap.lt_size q) M.new))).trans (M.keep b o q)
    have ob : ObjOk X.prog X.w (upd H1 d (.xd [(("at" : Str), v)])) G' d (.xd [(("at" : Str), v)]) :=
      ⟨_, hns.at (fun o q => (gk d M.dne).trans q), fun f => relO_low rv f⟩
    have J : Inv X pins σ (upd H1 d (.xd [(("at" : Str), v)])) ⟨G', g, dr, tk', os⟩ := I1.laid (t' := tk') old M.dbig ob
    refine ⟨e, oe, fv, ⟨G', g, dr, tk', os⟩, _, .ref C, some d, rfl, J, fun b o q => ?_, ge, hoe, ⟨hc, hd⟩, hdat, h1, ?_, rfl, I1.bare, raises_own T.exC T.tyC, q1 d (I1.hok.fresh M.dbig)⟩
    · by_cases hb : b = e
      · have q' : G'.get? b = some o := q
        rw [hb, ge] at q'; cases q'
      · exact (gk b hb).symm.trans q
    · rw [upd_ne (Ne.symm M.dne)]
      exact I1.hok.fresh M.new
/-- raise Low(e) -/
def tRaiseLow (C : Addr) (W : WX) (ta : TA) : TS := fun _ σ H => tMkLow C ta σ H fun cls d H' => W cls d σ H'
theorem ps_raiseLow {a : Expr} {ta : TA} {W : WX} {p pos pos2 : Pos} {k : Nat} (hc : X.calm = true) (T : PySem.LowX.LowTxt X.K X.mg C fI) (hr : Room k X.A) (tk : Takes X W) (ha : PA X [a] ta) (hg : Gl X "NoText" := by rfl)
    (he : starEach (a :: []) X.env = (false, eval a X.env) :: starEach [] X.env := by rfl) (hpl : (backTo pos (starEach [] X.env)).any (·.1) = false := by rfl) :
    PS X (.Raise (some (.Call (.Name "NoText" p) [a] [] pos)) none pos2) (tRaiseLow C W ta) := ps_raise hc tk (pmk_low T hr ha hg he hpl)
/-- low.by, low the exception that the suite holds (at a; its class cls, its dict d) -/
def tByLow (C : Addr) (a : Addr) (cls : Value) (d : Option Addr) (te : TE) : TE := fun σ H Q => te σ H fun x H1 => x = .ref a ∧ cls = .ref C ∧ ∃ (dd : Addr) (v : V), d = some dd ∧ H1 dd = some (.xd [(("at" : Str), v)]) ∧ Q v H1
theorem pe_byLow {a : Addr} {oe : Obj} {cls : Value} {d : Option Addr} {pn : List (Addr × Obj)} {e : Expr} {te : TE} {pos : Pos} (T : PySem.LowX.LowTxt X.K X.mg C fI) (hz : Zc cls d oe) (hf : ∃ vs, oe.data = .fields vs) (he : PE (X.suite a ((a, oe) :: pn)) e te)
    (hb : attributeBase e "at" X.env (eval e X.env) = eval e X.env := by rfl) :
    PE (X.suite a ((a, oe) :: pn)) (.Attribute e "at" pos) (tByLow C a cls d te) := by
  refine ⟨fun pins s σ H Q I h => ?_⟩
  refine attr_of hb (thn (he.run pins s σ H _ I h) fun u s1 hh => ?_)
  obtain ⟨x, H1, I1, rx, ex, ec, dd, v, ed, ea, q⟩ := hh
  subst ex
  obtain rfl : u = Value.ref a := rx
  subst ec
  subst ed
  obtain ⟨ha, _⟩ := I1.pin (a, oe) (List.mem_append_left _ List.mem_cons_self)
  obtain ⟨vs, hd⟩ := hf
  have hx : ObjOk X.prog X.w H1 s1.heap dd (.xd [(("at" : Str), v)]) := I1.hok dd _ ea
  obtain ⟨mA, hns, hr⟩ := hx
  obtain ⟨od, ho, hl⟩ := lookIn_ns hns
  have l : List.lookup ("at" : Str) [(("at" : Str), v)] = some v := by simp [List.lookup]
  obtain ⟨u, hu, ru⟩ := RelO.some_of (v := v) (o := mA "at") (by rw [← l]; exact hr "at")
  have J : PySem.W.InstAt s1.heap a oe C (some od) := ⟨ha, hz.1, by unfold PySem.W.notCls; rw [hd] <;> rfl, by rw [hz.2]; exact ho⟩
  exact HandSPX.exc_get I1.kIn J T.ga T.gg T.exC (PySem.W.findObj_own T.hdC T.noN rfl (by rw [hl, hu])) (handed_of ru) ⟨v, H1, I1.tok _, ru, q⟩
end
end L2

/-! put_names_in and typed, refusals too. -/
namespace Bh
open PySem PySem.Spec PyProof.Rows L2
open TL
def putE (ns : List (Str × Int)) : List (Int × Int × Str) → List Int → Except Int (List Int)
  | [], ws => .ok ws
  | u :: r, ws => match look ns u.2.2 with
    | none => .error u.1
    | some n => putE ns r (ws.set u.2.1.toNat (ws.getD u.2.1.toNat 0 + n))
theorem putE_cons (ns : List (Str × Int)) (u : Int × Int × Str) (r : List (Int × Int × Str)) (ws : List Int) : putE ns (u :: r) ws = match look ns u.2.2 with
    | none => .error u.1
    | some n => putE ns r (ws.set u.2.1.toNat (ws.getD u.2.1.toNat 0 + n)) := rfl
def runE : Int → List Str → Sh → Except Int Sh
  | _, [], s => .ok s
  | i, r :: rs, s => if (takeM i r s).1 = true then runE (i + 1) rs (takeM i r s).2 else .error i
def dueM (x : Str) : Except Int (List Int × List (Str × Int)) := match runE 0 (Txt.split x "\n") sh0 with
  | .error i => .error i
  | .ok s => match putE s.names s.uses s.words with
    | .error i => .error i
    | .ok ws => .ok (ws, s.names)
def UsesOk (s : Sh) : Prop := ∀ u ∈ s.uses, 0 ≤ u.2.1 ∧ u.2.1 < s.words.length
theorem lay_ok {w m : Int} {s : Sh} (h : (layM w m s).1 = true) : (layM w m s).2 = { s with words := s.words ++ List.replicate m.toNat w } := by
  unfold layM at h ⊢
  split
  · rename_i hc
    rw [if_pos hc] at h
    cases h
  · rfl
theorem uses_grow {s : Sh} {ws : List Int} (h : UsesOk s) : UsesOk { s with words := s.words ++ ws } := fun u hu => by
  have q := h u hu
  refine ⟨q.1, ?_⟩
  show u.2.1 < ((s.words ++ ws).length : Int)
  rw [List.length_append]
  omega
theorem uses_lay {w m : Int} {s : Sh} (h : UsesOk s) (ht : (layM w m s).1 = true) : UsesOk (layM w m s).2 := by
  rw [lay_ok ht]
  exact uses_grow h
theorem uses_worth {i b : Int} {p : Str} {m : Int} {s : Sh} (h : UsesOk s) (ht : (worthM i b p m s).1 = true) : UsesOk (worthM i b p m s).2 := by
  unfold worthM at ht ⊢
  split
  · rename_i hn
    rw [if_pos hn] at ht
    rw [lay_ok ht]
    intro u hu
    have hu' : u ∈ s.uses ++ [(i, (s.words.length : Int), p)] := hu
    show 0 ≤ u.2.1 ∧ u.2.1 < ((s.words ++ List.replicate (1 : Int).toNat b).length : Int)
    rw [List.length_append, List.length_replicate]
    rcases List.mem_append.mp hu' with q | q
    · have := h u q
      exact ⟨this.1, by have := this.2; omega⟩
    · rw [List.mem_singleton.mp q]
      show 0 ≤ (s.words.length : Int) ∧ (s.words.length : Int) < ((s.words.length + 1 : Nat) : Int)
      omega
  · rename_i hn
    rw [if_neg hn] at ht
    cases e : numOf p with
    | none => rw [e] at ht; cases ht
    | some n =>
      rw [e] at ht
      have ht' : (if n > m then (false, s) else layM (b + n) 1 s).1 = true := ht
      show UsesOk (if n > m then (false, s) else layM (b + n) 1 s).2
      split
      · exact h
      · rename_i hm
        rw [if_neg hm] at ht'
        exact uses_lay h ht'
theorem uses_take {i : Int} {r : Str} {s : Sh} (h : UsesOk s) (ht : (takeM i r s).1 = true) : UsesOk (takeM i r s).2 := by
  unfold takeM at ht ⊢
  split
  · exact h
  rename_i h1
  rw [if_neg h1] at ht
  split
  · unfold nameM
    split
    · exact h
    · exact h
  rename_i h2
  rw [if_neg h2] at ht
  generalize Txt.split r " " = ps at *
  match ps with
  | [] => exact h
  | [_] =>
    have ht' : (bareM r s).1 = true := ht
    show UsesOk (bareM r s).2
    unfold bareM at ht' ⊢
    split
    · exact h
    · rename_i hb
      rw [if_neg hb] at ht'
      exact uses_lay h ht'
  | [a, b] =>
    have ht' : (pairM i a b s).1 = true := ht
    show UsesOk (pairM i a b s).2
    unfold pairM at ht' ⊢
    split
    · rename_i hb
      rw [if_pos hb] at ht'
      unfold atM at ht' ⊢
      cases e : numOf b with
      | none => exact h
      | some n =>
        rw [e] at ht'
        have ht2 : (if n < (s.words.length : Int) then (false, s) else layM 65535 (n - s.words.length) s).1 = true := ht'
        show UsesOk (if n < (s.words.length : Int) then (false, s) else layM 65535 (n - s.words.length) s).2
        split
        · exact h
        · rename_i hm
          rw [if_neg hm] at ht2
          exact uses_lay h ht2
    rename_i hb
    rw [if_neg hb] at ht'
    split
    · rename_i hb2
      rw [if_pos hb2] at ht'
      unfold keepM at ht' ⊢
      cases e : numOf b with
      | none => exact h
      | some n =>
        rw [e] at ht'
        exact uses_lay h ht'
    rename_i hb2
    rw [if_neg hb2] at ht'
    split
    · rename_i hb3
      rw [if_pos hb3] at ht'
      exact uses_worth h ht'
    rename_i hb3
    rw [if_neg hb3] at ht'
    split
    · rename_i hb4
      rw [if_pos hb4] at ht'
      exact uses_worth h ht'
    · exact h
  | _ :: _ :: _ :: _ => exact h
theorem uses_run : ∀ (rs : List Str) (i : Int) (s s' : Sh), UsesOk s → runE i rs s = .ok s' → UsesOk s'
  | [], i, s, s', h, e => by
    cases e
    exact h
  | r :: rs, i, s, s', h, e => by
    unfold runE at e
    split at e
    · rename_i ht
      exact uses_run rs (i + 1) _ s' (uses_take h ht) e
    · cases e
section
variable {P : Program} {w : World} {K : PySem.W.Frag} {mg : Str → Option Value} {base : Heap} {aN aX C CN fI : Addr}
abbrev LT := @PySem.LowX.LowTxt
def spPutX (C CN : Addr) : Sp := fun vs H Q E => ∃ (H0 : Hp) (p : Addr) (s : Sh), vs = [.ref p] ∧ SheetAt C H0 H p s ∧ UsesOk s ∧
  (∀ ws, putE s.names s.uses s.words = .ok ws → ∀ H' : Hp, SheetAt C H0 H' p { s with words := ws } → Q .non H') ∧
  (∀ i, putE s.names s.uses s.words = .error i → ∀ (H' : Hp) (d : Addr), Same H0 H' → H' d = none → E (.ref CN) (some d) (upd H' d (.xd [("at", .int i)])))
theorem ok_putX {f : Addr} {fd : FuncData} (F : Fun K "put_names_in" "Sheet.put_names_in" sPut f fd) (T : Tx K mg aN aX C) (L : PySem.LowX.LowTxt K mg CN fI) : FnOk P w K mg base (L2.CX P w) 4 f fd ["self"] (spPutX C CN) := by
  refine F.okX scPut (fun vs H Q E h => by obtain ⟨H0, p, s, rfl, _⟩ := h; rfl) (fun cdv A outer s H vs Q E hr h => ?_)
  obtain ⟨H0, p, z, rfl, ⟨dx, a, b, c, us, S⟩, hpos, k, kE⟩ := h
  have hu := hu_of hr
  refine ⟨_, pss_one (ps_for (passes_of rfl) rfl (pi_list (pe_fld (pv 0) rfl)) (pg_tup rfl (pgs_cons (pg_name (i := 1) scPut.nd rfl (.inl rfl)) (pgs_cons (pg_name (i := 2) scPut.nd rfl (.inl rfl)) (pgs_cons (pg_name (i := 3) scPut.nd rfl (.inl rfl)) pgs_nil))))
    (pss_cons (ps_if (pt_cmp (pc_dnotin hu (pv 3) (pe_fld (pv 0) rfl))) (pss_one (ps_raiseLow rfl L hr (takes_of rfl rfl rfl rfl) (by exact (pa_cons (pv 1) pa_nil)))) pss_nil)
    (pss_one (ps_augS (pe_fld (pv 0) rfl) (pv 2) get_list (pe_dget hu (pe_fld (pv 0) rfl) (pv 3) (fun _ _ => rfl)) ip_add set_list)))), ?_⟩
  refine ⟨_, rfl, p, C, dx, _, _, rfl, S.hp, T.cl, T.nU, shF_u _ _ _, c, rfl, ⟨_, SqL.of S.hc⟩, ?_⟩
  refine for_list (K := K) (a := c) (xs := us) (fun i σ H' => ∃ (ws : List Int) (y1 y2 y3 : Option V), σ = [some (.ref p), y1, y2, y3] ∧ Shp C H0 H' p dx a b c us { z with words := ws } ∧ ws.length = z.words.length ∧ putE z.names z.uses z.words = putE z.names (z.uses.drop i) ws)
    ⟨z.words, none, none, none, rfl, S, rfl, rfl⟩ (fun i σ H' _ h => by obtain ⟨ws, y1, y2, y3, _, S', _⟩ := h; exact SqL.of S'.hc) ?_ ?_
  · rintro i v σ H' hi ⟨ws, y1, y2, y3, rfl, S', hwl, hq⟩
    have hul := UsesAt.len S'.hu
    have hil : i < z.uses.length := by
      rw [← hul]
      exact (List.getElem?_eq_some_iff.mp hi).1
    obtain ⟨u, hu1⟩ : ∃ u, z.uses[i]? = some u := ⟨_, List.getElem?_eq_getElem hil⟩
    obtain ⟨v', hv', t, et, ht⟩ := paired_get S'.hu hu1
    have : v = .ref t := by
      rw [← et]
      exact Option.some.inj (hi.symm.trans hv')
    subst this
    have hdrop : z.uses.drop i = u :: z.uses.drop (i + 1) := by
      rw [List.drop_eq_getElem_cons hil]
      have : z.uses[i] = u := Option.some.inj ((List.getElem?_eq_getElem hil).symm.trans hu1)
      rw [this]
    rw [hdrop] at hq
    have hp0 := hpos u (List.mem_of_getElem? hu1)
    rw [putE_cons] at hq
    refine ⟨t, _, rfl, SqT.of ht, rfl, _, _, rfl, _, _, rfl, _, _, rfl, rfl, ?_⟩
    cases hl : look z.names u.2.2 with
    | none =>
      rw [hl] at hq
      have hq' : putE z.names z.uses z.words = .error u.1 := hq
      have ev : valV (nmK z.names) (Sum.inr u.2.2) = none := by
        rw [valV_look, hl]
        rfl
      refine ⟨_, rfl, _, rfl, p, C, dx, _, _, rfl, S'.hp, T.cl, T.nN, shF_n _ _ _, b, none, rfl, (by rw [← ev]; exact DGet.k (k := Sum.inr u.2.2) S'.hb), _, rfl, ?_⟩
      exact ⟨_, rfl, _, rfl, fun d hd => kE _ hq' _ d S'.sm hd⟩
    | some n =>
      rw [hl] at hq
      have hq' : putE z.names z.uses z.words = putE z.names (z.uses.drop (i + 1)) (ws.set u.2.1.toNat (ws.getD u.2.1.toNat 0 + n)) := hq
      have ev : valV (nmK z.names) (Sum.inr u.2.2) = some (.int n) := by
        rw [valV_look, hl]
        rfl
      refine ⟨_, rfl, _, rfl, p, C, dx, _, _, rfl, S'.hp, T.cl, T.nN, shF_n _ _ _, b, some (.int n), rfl, (by rw [← ev]; exact DGet.k (k := Sum.inr u.2.2) S'.hb), _, rfl, ?_⟩
      refine ⟨_, rfl, p, C, dx, _, _, rfl, S'.hp, T.cl, T.nW, shF_w _ _ _, _, rfl, ?_⟩
      have eN : u.2.1 = ((u.2.1.toNat : Nat) : Int) := (Int.toNat_of_nonneg hp0.1).symm
      have hlt : u.2.1.toNat < ws.length := by omega
      have hw : ws[u.2.1.toNat]? = some (ws.getD u.2.1.toNat 0) := by
        rw [List.getD_eq_getElem?_getD, List.getElem?_eq_getElem hlt]
        rfl
      refine ⟨a, _, u.2.1.toNat, .int (ws.getD u.2.1.toNat 0), rfl, congrArg V.int eN, SqL.of S'.ha, by rw [List.getElem?_map, hw]; rfl, ?_⟩
      refine ⟨_, rfl, p, C, dx, _, _, rfl, S'.hp, T.cl, T.nN, shF_n _ _ _, _, rfl, ?_⟩
      have ei : ixN (ws.map V.int).length u.2.1 = some u.2.1.toNat := by
        unfold ixN
        rw [if_pos hp0.1, List.length_map, if_pos (by omega)]
      refine ⟨b, .int n, rfl, (by rw [← ev]; exact DGet.k (k := Sum.inr u.2.2) S'.hb), _, n, rfl, rfl, a, _, _, _, rfl, rfl, S'.ha, ei, ws.set u.2.1.toNat (ws.getD u.2.1.toNat 0 + n), _, _, _, rfl, ?_, by rw [List.length_set]; exact hwl, hq'⟩
      rw [set_map]
      exact S'.words _ (by rw [List.length_set]; exact S'.lw)
  · rintro σ H' ⟨ws, y1, y2, y3, rfl, S', hwl, hq⟩
    have hul := UsesAt.len S'.hu
    rw [hul, List.drop_length] at hq
    exact k ws hq _ ⟨dx, a, b, c, us, S'⟩
theorem runE_cons (i : Int) (r : Str) (rs : List Str) (s : Sh) : runE i (r :: rs) s = if (takeM i r s).1 = true then runE (i + 1) rs (takeM i r s).2 else .error i := rfl
def spTypedX (CN : Addr) : Sp := fun vs H Q E => ∃ (x : Str), vs = [.str x] ∧ x.length ≤ 80000 ∧
  (∀ ws ns, dueM x = .ok (ws, ns) → ws.length ≤ 512 → ∀ (H' : Hp) (t a b : Addr), Same H H' → H t = none → H a = none → H b = none → H' t = some (.tup [.ref a, .ref b]) → H' a = some (.lst (ws.map V.int)) → H' b = some (.dK (nmK ns)) → Q (.ref t) H') ∧
  (∀ i, dueM x = .error i → ∀ (H' : Hp) (d : Addr), Same H H' → H' d = none → E (.ref CN) (some d) (upd H' d (.xd [("at", .int i)])))
theorem ok_typedX {f fS fK fP : Addr} {fd fdI fdK fdP : FuncData} (F : Fun K "typed" "typed" sTyped f fd) (T : Tx K mg aN aX C) (LL : PySem.LowX.LowTxt K mg CN fI) (M : Mk K C fS) (I : FnOk P w K mg base CX0 2 fS fdI ["self"] (spInit C)) (bI : Binds K fdI ["self"] [])
    (A1 : CalM P w K mg base C 5 "take" ["self", "at", "row"] (spM C aTake) fK fdK) (mP : Meth K C "put_names_in" fP) (bP : Binds K fdP ["self"] []) (GP : FnOk P w K mg base (L2.CX P w) 4 fP fdP ["self"] (spPutX C CN)) : FnOk P w K mg base (L2.CX P w) 6 f fd ["text"] (spTypedX CN) := by
  refine F.okX scTyped (fun vs H Q E h => by obtain ⟨x, rfl, _⟩ := h; rfl) (fun cdv A outer s H vs Q E hr h => ?_)
  obtain ⟨x, rfl, hx, q, qE⟩ := h
  have hr1 : Room 2 _ := hr.mono (by decide)
  have hr2 : Room (2 + 1) _ := hr.mono (by decide)
  have hr3 : Room 4 _ := hr.mono (by decide)
  refine ⟨_, pss_cons (ps_set (i := 1) scTyped.nd rfl (.inl rfl) (pe_make0 M I hr2 rfl T.gC bI .nil pass0))
    (pss_cons (ps_for (passes_of rfl) rfl (pi_enum (by rfl) T.enu (pa_cons (pe_split (pv 0) pe_str) pa_nil)) (pg_tup rfl (pgs_cons (pg_name (i := 2) scTyped.nd rfl (.inl rfl)) (pgs_cons (pg_name (i := 3) scTyped.nd rfl (.inl rfl)) pgs_nil)))
      (pss_one (ps_if (pt_not (pt_val (pe_meth (pv 1) T.cl A1.m A1.G hr A1.b .nil pass0 (pa_cons (pv 2) (pa_cons (pv 3) pa_nil))))) (pss_one (ps_raiseLow rfl LL hr2 (takes_of rfl rfl rfl rfl) (by exact (pa_cons (pv 2) pa_nil)))) pss_nil)))
    (pss_cons (ps_expr (pe_meth0 (pv 1) T.cl mP GP hr3 bP .nil (E := E) (passes_call (W := fun cls d _ H => E cls d H) (takes_of rfl rfl rfl rfl) (fun _ _ _ _ h => h))))
    (pss_one (ps_ret (pe_tup (pa_cons (pe_fld (pv 1) rfl) (pa_cons (pe_fld (pv 1) rfl) pa_nil))))))), ?_⟩
  intro p dx0 np ndx nex
  have s0 : Same H (upd (upd H dx0 (.own p)) p (.ins C dx0 [])) := fun b o e => by
    rw [upd_ne (ne_of_none e np), upd_ne (ne_of_none e ndx)]
    exact e
  refine ⟨H, p, dx0, rfl, s0, np, upd_same, fun H1 R1 => ⟨rfl, _, rfl, ⟨_, rfl⟩, _, _, rfl, rfl, rfl, (by
    have : 80002 ≤ sizeLine := by decide
    omega), fun l nl => ?_⟩⟩
  obtain ⟨dx, a, b, c, us, S⟩ := R1
  have Sb := S.based (l := l) (o := .lst ((Txt.split x "\n").map V.str)) nl
  have nl0 : H l = none := S.sm.free nl
  have hcount := split_count_le x "\n" (by decide +kernel) (by decide +kernel)
  have hlen : ∀ r ∈ Txt.split x "\n", r.length ≤ 90000 := fun r hm => Nat.le_trans (split_le (by decide +kernel) (by decide +kernel) hm) (by omega)
  unfold dueM at q qE
  generalize Txt.split x "\n" = rows at *
  refine ⟨l, _, rfl, .inl (.inl upd_same), ?_⟩
  refine for_enum (K := K) (a := l) (xs := rows.map V.str) (fun i σ H' => ∃ (s : Sh) (y2 y3 : Option V), σ = [some (.str x), some (.ref p), y2, y3] ∧ SheetAt C (upd H l (.lst (rows.map V.str))) H' p s ∧ runE 0 rows sh0 = runE i (rows.drop i) s ∧ s.names.length ≤ i ∧ s.uses.length ≤ i)
    ⟨sh0, none, none, rfl, ⟨dx, a, b, c, us, Sb⟩, rfl, Nat.zero_le _, Nat.zero_le _⟩ (fun i σ H' h => by
      obtain ⟨s, y2, y3, _, ⟨_, _, _, _, _, S'⟩, _⟩ := h
      exact .inl (.inl (S'.sm _ _ upd_same))) ?_ ?_
  · rintro i v T' σ H' hi ⟨z, y2, y3, rfl, ⟨dx', a', b', c', us', S'⟩, hrun', hn, hus⟩ nT
    obtain ⟨r, hr', rfl⟩ : ∃ r, rows[i]? = some r ∧ V.str r = v := by
      rw [List.getElem?_map] at hi
      cases e : rows[i]? with
      | none => rw [e] at hi; cases hi
      | some r => rw [e] at hi; exact ⟨r, rfl, Option.some.inj hi⟩
    have hil : i < rows.length := (List.getElem?_eq_some_iff.mp hr').1
    have hdrop : rows.drop i = r :: rows.drop (i + 1) := by
      rw [List.drop_eq_getElem_cons hil]
      have : rows[i] = r := Option.some.inj ((List.getElem?_eq_getElem hil).symm.trans hr')
      rw [this]
    rw [hdrop, runE_cons] at hrun'
    have S1 := S'.more (o := .tup [.int (i : Nat), .str r]) nT
    refine ⟨T', _, rfl, SqT.of upd_same, rfl, _, _, rfl, _, _, rfl, rfl, ?_⟩
    refine ⟨_, rfl, p, dx', _, rfl, S1.hp, no_m (by decide +kernel), _, rfl, _, rfl, upd H l (.lst (rows.map V.str)), p, z, _, _, rfl, ⟨_, _, rfl, hlen r (List.mem_of_getElem? hr'), by omega, by omega, rfl⟩, ⟨dx', a', b', c', us', S1⟩, fun H2 R2 => ⟨_, rfl, ?_⟩⟩
    have hl2 := takeM_lens (i : Int) r z
    cases e : (takeM (i : Int) r z).1 with
    | false =>
      rw [e, if_neg Bool.false_ne_true] at hrun'
      obtain ⟨_, _, _, _, _, S2⟩ := R2
      have qE' := fun H' d => qE (i : Int) (by rw [hrun']) H' d
      exact ⟨_, rfl, _, rfl, fun d hd => qE' H2 d ((same_upd' nl0).trans S2.sm) hd⟩
    | true =>
      rw [e, if_pos rfl] at hrun'
      exact ⟨_, _, _, rfl, R2, hrun', by omega, by omega⟩
  · rintro σ H' ⟨z, y2, y3, rfl, ⟨dx', a', b', c', us', S'⟩, hrun', hn, hus⟩
    rw [List.length_map, List.drop_length] at hrun'
    have hrun : runE 0 rows sh0 = .ok z := hrun'
    rw [hrun] at q qE
    have hok := uses_run rows 0 sh0 z (fun u h => by cases h) hrun
    refine ⟨_, rfl, p, dx', _, rfl, S'.hp, no_m (by decide +kernel), upd H l (.lst (rows.map V.str)), p, z, rfl, ⟨dx', a', b', c', us', S'⟩, hok, fun wf hput H2 R2 => ?_, fun i hput H2 d sm2 hd => ?_⟩
    · obtain ⟨dx2, a2, b2, c2, us2, S2⟩ := R2
      refine ⟨_, rfl, p, C, dx2, _, _, rfl, S2.hp, T.cl, T.nW, shF_w _ _ _, _, rfl, p, C, dx2, _, _, rfl, S2.hp, T.cl, T.nN, shF_n _ _ _, (by show 2 ≤ sizeLine; decide), fun t nt => ?_⟩
      have fr : ∀ {y : Addr}, upd H l (.lst (rows.map V.str)) y = none → H y = none := fun {y} e => (same_upd' nl0).free e
      have sm2 : Same H H2 := (same_upd' nl0).trans S2.sm
      have q' := q wf z.names (by show (match putE z.names z.uses z.words with | .error i => Except.error i | .ok ws => .ok (ws, z.names)) = _; rw [hput]) S2.lw
      refine q' _ t a2 b2 (sm2.trans (same_upd' nt)) (sm2.free nt) (fr S2.fa) (fr S2.fb) upd_same ?_ ?_
      · rw [upd_ne (ne_of_none S2.ha nt)]
        exact S2.ha
      · rw [upd_ne (ne_of_none S2.hb nt)]
        exact S2.hb
    · exact qE i (by show (match putE z.names z.uses z.words with | .error i => Except.error i | .ok ws => .ok (ws, z.names)) = _; rw [hput]) H2 d ((same_upd' nl0).trans sm2) hd
end
end Bh

/-! isinstance of an error that has a dict of its own. -/
namespace BhI
open PySem PySem.Spec PySem.Calls PyProof.Rows PySem.W
section
variable {prog : Program} {w : World} {A : Around} {E : Value → Shared → Prop} {s : Shared} {K : Frag} {e0 Cl : Addr} {oe od : Obj}
theorem cls_asked {Q : Option Value → Shared → Prop} (h1 : findIn K (.ref Cl) "__getattribute__" = some (some (.builtin "BaseException.__getattribute__"))) (h2 : findIn K (.ref Cl) "__getattr__" = some none) (h3 : subIn K (.ref Cl) (.type "BaseException") = some true)
    (h4 : hasDictIn K Cl = true) (h5 : findIn K (.ref Cl) "__class__" = some (some (.builtin "object.__class__"))) (h6 : specialIn K (.builtin "object.__class__") "__get__" = some (some (.builtin "getset_descriptor.__get__"))) (h7 : takesIn K (.builtin "object.__class__") = some true)
    (h8 : mroIn K Cl (.type "object") = some true) (X : K.In s.heap) (I : InstAt s.heap e0 oe Cl (some od)) (q : Q (some (.ref Cl)) { s with toks := s.toks + 1 }) : wpAny (model prog w) A (getAttr? (.ref e0) "__class__") Q E s := by
  have found : findObj K Cl (some od) "__class__" = some (.bind (.builtin "getset_descriptor.__get__") (.builtin "object.__class__")) := findObj_data (by obtain ⟨cd, hc, _⟩ := any_some h4; rw [hc]; rfl) h5 h6 h7
  obtain ⟨hp, g, d, tk, os⟩ := s
  have M0 := I.type (M := model prog w)
  have M1 := looks_findIn (M := model prog w) X h1
  have M2 := looks_findIn (M := model prog w) X h2
  have M3 := looks_find (M := model prog w) X I found
  have isb : Looks (model prog w) hp (isInstance (.ref e0) (.type "BaseException")) true := M0.andThen (looks_subIn X h3)
  have z0 : (false && onTheHeap (Value.builtin "BaseException.__getattribute__")) = false := rfl
  have z2 : (Value.builtin "BaseException.__getattribute__" == Value.builtin "object.__getattribute__") = false := by decide +kernel
  have z1 : (onTheHeap (Value.ref Cl) && Value.builtin "BaseException.__getattribute__" == Value.builtin "object.__getattribute__") = false := by rw [z2]; rfl
  unfold getAttr? getAttrBy? getAttrBy
  refine wpAny_bind (wpAny_mkText (wpAny_bind (wpAny_attempt (wpAny_holding (wpAny_bind (M0.at (wpAny_bind (M1.at ?_))))))))
  show wpAny _ _ (if (onTheHeap (Value.ref Cl) && Value.builtin "BaseException.__getattribute__" == Value.builtin "object.__getattribute__") = true then _ else _) _ _ _
  rw [z1, if_neg Bool.false_ne_true]
  unfold getAttrByItsOwn hookBefore
  refine wpAny_bind ?_
  rw [if_pos (show onTheHeap (Value.ref Cl) = true from rfl)]
  refine M2.at ?_
  refine wpAny_bind (wpAny_attempt (wpAny_holding ?_))
  unfold callGetattribute
  rw [z0, if_neg Bool.false_ne_true]
  unfold boundAndCalled
  rw [PySem.F.excAttr_ValueError.ga.bind (.ref e0)]
  refine wpAny_bind (wpAny_pure ?_)
  show wpAny _ _ (call (.builtin "BaseException.__getattribute__") [.ref e0, .str "__class__" tk]) _ _ _
  refine wpAny_call (codeAny_call_builtin PySem.F.excAttr_ValueError.ga.plain PySem.F.entry_bexc_ga ?_)
  refine @check_slot (model prog w) _ _ ⟨hp, g, d, tk + 1, os⟩ "BaseException.__getattribute__" "BaseException" "__getattribute__" (.ref e0) [.str "__class__" tk] [] _ (by decide +kernel) (by decide +kernel) isb (PySem.F.args_bexc_ga (.ref e0) (.str "__class__" tk)) ?_
  unfold Builtin.«object.__getattribute__»
  refine wpAny_bind (wpAny_of_eq (a := ((Value.ref e0 : Value), [Value.str "__class__" tk])) (by first | rfl | (simp only [slotArgs]; rfl)) ?_)
  refine wpAny_bind (wpAny_pure (wpAny_bind (M0.at (wpAny_bind (M3.at ?_)))))
  show wpAny _ _ (holding [Value.builtin "object.__class__"] (call (.builtin "getset_descriptor.__get__") [.builtin "object.__class__", .ref e0, .ref Cl]) >>= ret) _ _ _
  refine wpAny_bind (wpAny_holding (wpAny_call (class_get (s := ⟨hp, g, d, tk + 1, os⟩) (ox := oe) (od := some od) X I h8 ?_)))
  refine wpAny_pure ?_
  show wpAny _ _ (handedOut (.ref Cl)) _ _ _
  rw [handedOut_of (v := .ref Cl) rfl]
  first
    | exact wpAny_pure (wpAny_pure q)
    | exact wpAny_pure q
    | exact wpAny_pure (wpAny_bind (wpAny_pure (wpAny_pure q)))
theorem kx_exc (h1 : findIn K (.ref Cl) "__getattribute__" = some (some (.builtin "BaseException.__getattribute__"))) (h2 : findIn K (.ref Cl) "__getattr__" = some none) (h3 : subIn K (.ref Cl) (.type "BaseException") = some true) (h4 : hasDictIn K Cl = true)
    (h5 : findIn K (.ref Cl) "__class__" = some (some (.builtin "object.__class__"))) (h6 : specialIn K (.builtin "object.__class__") "__get__" = some (some (.builtin "getset_descriptor.__get__"))) (h7 : takesIn K (.builtin "object.__class__") = some true) (h8 : mroIn K Cl (.type "object") = some true) :
    KitX K (.ref e0) (.ref Cl) (fun h => InstAt h e0 oe Cl (some od)) where
  ty := fun _ _ _ I => I.type
  it := fun _ _ X _ => by
    obtain ⟨cd, hcd, _⟩ := any_some h4
    unfold clsIn at hcd
    split at hcd
    · rename_i r1 r2 r3 r4 hob
      intro A1 Q1 E1 s1 kk qq
      unfold isType loadHead
      exact wpAny_bind (wpAny_loadPart (kk _ _ (X _ _ hob)) (wpAny_pure qq))
    · cases hcd
  ne := (handS_kitx_exc (x := e0) (ox := oe) h1 h2 h3 h4 h5 h6 h7 h8).ne
  ca := fun X I k => cls_asked h1 h2 h3 h4 h5 h6 h7 h8 X I k
end
end BhI
namespace L2
open PySem PySem.Spec PyProof.Rows
/-- isinstance(e, c), e the error that the suite holds, with a dict of its own -/
theorem call_isD {X : Cx} {a D : Addr} {oe : Obj} {cls : Value} {d : Option Addr} {pn : List (Addr × Obj)} (C : ExcC X.K D) (hz : Zc cls d oe) (hf : ∃ vs, oe.data = .fields vs) :
    CallR (X.suite a ((a, oe) :: pn)) (.builtin "isinstance") (fun xs H Q => cls = .ref D ∧ (∃ (dd : Addr) (fs : List (Str × V)), d = some dd ∧ H dd = some (.xd fs)) ∧ rIsE X.K D a xs H Q) := by
  intro pins s σ H xs us Q I r h
  obtain ⟨rfl, ⟨dd, fs, rfl, hdd⟩, c, cv, b, rfl, hcv, e, q⟩ := h
  cases r with
  | cons rx rr =>
    cases rr with
    | cons rt rr =>
      cases rr
      cases rx
      have ec := hcv _ rt
      subst ec
      obtain ⟨hget, _⟩ := I.pin (a, oe) (List.mem_append.mpr (.inl List.mem_cons_self))
      obtain ⟨vs, hv⟩ := hf
      obtain ⟨mA, hns, _⟩ := (show ObjOk X.prog X.w H s.heap dd (.xd fs) from I.hok dd _ hdd)
      obtain ⟨od, ho, _⟩ := lookIn_ns hns
      have J : PySem.W.InstAt s.heap a oe D (some od) := ⟨hget, hz.1, by unfold PySem.W.notCls; rw [hv] <;> rfl, by rw [hz.2]; exact ho⟩
      exact PySem.W.kia_one (BhI.kx_exc C.hg C.hk C.hs C.hd C.ha C.hn C.ht C.hm) I.kIn J e (fun z => nomatch z) fun tk => ⟨.bl b, H, I.kept (t' := tk) fun _ _ z => z, rfl, q⟩
end L2

/-! What the program tells of a text, or that it refuses it. -/
namespace Bh
open PySem PySem.Spec PyProof.Rows L2
open TL
abbrev sLName : Stmt := topS 21
abbrev sLNum : Stmt := topS 22
abbrev sSized : Stmt := topS 23
abbrev sTaken : Stmt := topS 24
abbrev sDue : Stmt := topS 25
abbrev sText : Stmt := topS 26
abbrev sChanged : Stmt := topS 27
abbrev sTold : Stmt := topS 28
abbrev sLaw : Stmt := topS 29
theorem gtK {X : Cx} {K : PySem.W.Frag} {es : List Expr} {k : Nat} {pos : Pos} {t : TGs} (hK : X.K = K) (hc : X.calm = true) (h : PGs X es t) (hn : (assignEach es X.env).length = 2) (hst : (assignEach es X.env).findIdx? (·.1) = none) : PG X (.Tuple es k pos) (gTup K 2 t) := by
  subst hK
  exact pg_tup hc h hn hst
/-- what is told: a tuple -/
def ToldAt (H : Hp) (t : Addr) : Except Int (List Int × List (Str × Int)) → Prop
  | .error i => H t = some (.tup [.str "refused", .int i])
  | .ok r => r.1.length ≤ 512 ∧ ∃ a b, H t = some (.tup [.str "told", .ref a, .ref b]) ∧ H a = some (.lst (r.1.map V.int)) ∧ H b = some (.dK (nmK r.2))
theorem put_len (ns : List (Str × Int)) : ∀ (us : List (Int × Int × Str)) (ws ws' : List Int), putE ns us ws = .ok ws' → ws'.length = ws.length
  | [], ws, ws', h => by
    cases h
    rfl
  | u :: r, ws, ws', h => by
    rw [putE_cons] at h
    cases e : look ns u.2.2 with
    | none => rw [e] at h; cases h
    | some n =>
      rw [e] at h
      have q := put_len ns r _ ws' h
      rw [q, List.length_set]
theorem lay_len {w m : Int} {s : Sh} (h : s.words.length ≤ 512) (hm : 0 ≤ m) : (layM w m s).2.words.length ≤ 512 := by
  unfold layM
  split
  · exact h
  · rename_i hc
    show (s.words ++ List.replicate m.toNat w).length ≤ 512
    rw [List.length_append, List.length_replicate]
    omega
section
variable {P : Program} {w : World} {K : PySem.W.Frag} {mg : Str → Option Value} {base : Heap} {aN aX C CN CB fI : Addr}
def spTold : Sp := fun vs H Q _ => ∃ (x : Str), vs = [.str x] ∧ x.length ≤ 80000 ∧ (∀ ws ns, dueM x = .ok (ws, ns) → ws.length ≤ 512) ∧ ∀ (H' : Hp) (t : Addr), Same H H' → H t = none → ToldAt H' t (dueM x) → Q (.ref t) H'
theorem scTold : FnScope ["_law_text_here", "_law_image", "_law_named", "e"] ["_law_text_here"] (defScope sTold) := ⟨rfl, rfl, rfl, by decide +kernel, rfl, by decide +kernel, by decide +kernel⟩
def rIsD (K : PySem.W.Frag) (CN a : Addr) (cls : Value) (d : Option Addr) : List V → Hp → VK → Prop := fun xs H Q => cls = .ref CN ∧ (∃ (dd : Addr) (fs : List (Str × V)), d = some dd ∧ H dd = some (.xd fs)) ∧ rIsE K CN a xs H Q
def t_suite (K : PySem.W.Frag) (CN : Addr) : Addr → Value → Option Addr → TS := fun a cls d =>
  tSeq (tIfS (tB (tCB (rIsD K CN a cls d) (tCons (tVar 3) (tCons (tC (.ref CN)) tNil)))) (tRet (tTup (tCons (tC (.str "refused")) (tCons (tByLow CN a cls d (tVar 3)) tNil)))) tNext) (tRet (tTup (tCons (tC (.str "other")) tNil)))
theorem ok_told {f fT : Addr} {fd fdT : FuncData} (F : Fun K "_law_told" "_law_told" sTold f fd) (LL : PySem.LowX.LowTxt K mg CN fI) (EC : ExcC K CN) (gB : mg "BoardError" = some (.ref CB)) (eB : PySem.W.exmOne K (.ref CN) (.ref CB) = some true) (gi : mg "isinstance" = none)
    (gT : mg "typed" = some (.ref fT)) (kT : PySem.W.keepIn K (.ref fT) = true) (bT : Binds K fdT ["text"] []) (GT : FnOk P w K mg base (L2.CX P w) 6 fT fdT ["text"] (spTypedX CN)) : FnOk P w K mg base CX0 7 f fd ["_law_text_here"] spTold := by
  refine F.ok scTold (fun vs H Q E h => by obtain ⟨x, rfl, _⟩ := h; rfl) (fun cdv A outer s H vs Q E hr h => ?_)
  obtain ⟨x, rfl, hx, hws, q⟩ := h
  refine ⟨_, pss_cons (ps_try_as (i := 3) (tb := fun W => tAsg (tCallS (spTypedX CN) (WE W) (tCons (tVar 0) tNil)) (gTup K 2 (gCons (gName 1) (gCons (gName 2) gNil)))) (ts := t_suite K CN) (Wout := fun _ _ _ _ => False) rfl rfl scTold.nd rfl rfl ⟨rfl, by decide, Or.inl gB⟩ takes0
        (fun W pn xe tk _ => pss_one (ps_asg (by exact (pe_callS GT hr rfl gT kT bT (fun σ => passAt tk σ) (by exact (pa_cons (pv 0) pa_nil)))) (gtK (by rfl) (by rfl) (pgs_cons (pg_name (i := 1) scTold.nd rfl (.inl rfl)) (pgs_cons (pg_name (i := 2) scTold.nd rfl (.inl rfl)) pgs_nil)) (by rfl) (by rfl))))
        (fun a oe cls d pn hz hf => pss_cons (ps_if (pt_val (by exact (pe_callB (call_isD EC hz hf) (by rfl) gi (by decide +kernel) (pa_cons (pv 3) (pa_cons (pgR LL.gC) pa_nil))))) (pss_one (ps_ret (by exact (pe_tup (pa_cons pe_str (pa_cons (pe_byLow LL hz hf (pv 3)) pa_nil)))))) pss_nil)
          (pss_one (ps_ret (by exact (pe_tup (pa_cons pe_str pa_nil)))))))
    (pss_one (ps_ret (pe_tup (pa_cons pe_str (pa_cons (pv 1) (pa_cons (pv 2) pa_nil)))))), ?_⟩
  refine ⟨_, rfl, x, rfl, hx, fun ws ns hd hl H' t a b sm nt na nb ht ha hb => ?_, fun i hd H' d sm hdn => ?_⟩
  · refine ⟨t, _, rfl, SqT.of ht, rfl, _, _, rfl, _, _, rfl, rfl, ?_⟩
    refine ⟨_, rfl, _, rfl, (by show 3 ≤ sizeLine; decide), fun u nu => ?_⟩
    refine q _ u (sm.trans (same_upd' nu)) (sm.free nu) ?_
    rw [hd]
    exact ⟨hl, a, b, upd_same, same_upd' nu _ _ ha, same_upd' nu _ _ hb⟩
  · refine ⟨true, eB, fun _ a ha => ?_, fun z => nomatch z⟩
    refine ⟨_, rfl, rfl, ⟨d, _, rfl, upd_same⟩, .ref CN, .ref CN, true, rfl, (fun u r => r), if_pos (beq_self_eq_true _), _, rfl, ?_⟩
    refine ⟨_, rfl, rfl, rfl, d, .int i, rfl, upd_same, (by show 2 ≤ sizeLine; decide), fun u nu => ?_⟩
    have s1 := same_upd' (o := .xd [(("at" : Str), V.int i)]) hdn
    refine q _ u (sm.trans (s1.trans (same_upd' nu))) ((sm.trans s1).free nu) ?_
    rw [hd]
    exact upd_same
end
end Bh

/-! The law's names and numbers. -/
namespace Bh
open PySem PySem.Spec PyProof.Rows L2
open TL
/-- a comprehension over a text, with a test -/
theorem lc_text {z : Str} {g : TG} {tt : TT} {te : TE} {vs : List Nat} {σ : L2.St} {H1 : Hp} {D : Addr} {Qd : Hp → Prop} (Pv : Nat → Hp → Prop) (start : Pv 0 (upd H1 D (.lst [])))
    (turn : ∀ (i : Nat) (c : Nat) (H : Hp), (tl z)[i]? = some c → Pv i H → g (.str ⟨#[c]⟩) (wipe σ vs) H fun σ2 H2 => wipe σ2 vs = wipe σ vs ∧ tt σ2 H2 fun b H3 =>
      if b = true then te σ2 H3 fun y H4 => ∃ acc, H4 D = some (.lst acc) ∧ acc.length < sizeLine ∧ Pv (i + 1) (upd H4 D (.lst (acc ++ [y]))) else Pv (i + 1) H3) (ends : ∀ H, Pv z.length H → Qd H) :
    ∃ W : Nat → Nat → Hp → Prop, (∃ m, W 0 m (upd H1 D (.lst []))) ∧ ∀ i m H, W i m H →
      ((Its z).stop i H ∧ Qd H) ∨ ((Its z).go i H ∧ ∃ Nx : Hp → Prop, (∀ H', Nx H' → ∃ m', m' < m ∧ W (i + 1) m' H') ∧ ∀ x H', (Its z).yld i H x H' → g x (wipe σ vs) H' fun σ2 H2 => wipe σ2 vs = wipe σ vs ∧ tt σ2 H2 fun b H3 =>
        if b = true then te σ2 H3 fun y H4 => ∃ acc, H4 D = some (.lst acc) ∧ acc.length < sizeLine ∧ Nx (upd H4 D (.lst (acc ++ [y]))) else Nx H3) := by
  have hz : z.cps.size = z.length := rfl
  refine ⟨fun i m H => i + m = z.length ∧ Pv i H, ⟨z.length, Nat.zero_add _, start⟩, fun i m H hW => ?_⟩
  obtain ⟨hm, hP⟩ := hW
  cases m with
  | zero =>
    have e : i = z.length := hm
    rw [e] at hP
    exact .inl ⟨by show z.cps.size ≤ i; rw [hz, e]; exact Nat.le_refl _, ends H hP⟩
  | succ m =>
    have hi : i < z.length := by omega
    refine .inr ⟨hi, Pv (i + 1), fun H' h' => ⟨m, Nat.lt_succ_self m, by omega, h'⟩, fun x H' hy => ?_⟩
    obtain ⟨rfl, c, hc, rfl⟩ := hy
    have hc' : (tl z)[i]? = some c := by
      show z.cps.toList[i]? = some c
      simpa using hc
    exact turn i c H' hc' hP
def abcT : Str := "abcdefghijklmnopqrstuvwxyz"
def digT : Str := "0123456789"
theorem abc_mem (c : Nat) : decide (c ∈ abcT.cps.toList) = lowB c := by
  by_cases h : c < 128
  · have key : ∀ c : Nat, c < 128 → decide (c ∈ abcT.cps.toList) = lowB c := by decide +kernel
    exact key c h
  · have k1 : ∀ y ∈ abcT.cps.toList, y < 128 := by decide +kernel
    have e1 : decide (c ∈ abcT.cps.toList) = false := decide_eq_false fun m => h (k1 c m)
    have e2 : lowB c = false := by
      unfold lowB
      have : decide (c ≤ 122) = false := decide_eq_false (by omega)
      rw [this, Bool.and_false]
    rw [e1, e2]
theorem dig_mem (c : Nat) : decide (c ∈ digT.cps.toList) = digB c := by
  by_cases h : c < 128
  · have key : ∀ c : Nat, c < 128 → decide (c ∈ digT.cps.toList) = digB c := by decide +kernel
    exact key c h
  · have k1 : ∀ y ∈ digT.cps.toList, y < 128 := by decide +kernel
    have e1 : decide (c ∈ digT.cps.toList) = false := decide_eq_false fun m => h (k1 c m)
    have e2 : digB c = false := by
      unfold digB
      have : decide (c ≤ 57) = false := decide_eq_false (by omega)
      rw [this, Bool.and_false]
    rw [e1, e2]
theorem filt_len (f : Nat → Bool) : ∀ l : List Nat, (l.filter f).length ≤ l.length ∧ ((l.filter f).length = l.length ↔ l.all f = true)
  | [] => ⟨Nat.le_refl _, by simp⟩
  | c :: r => by
    have ih := filt_len f r
    rw [List.filter_cons, List.all_cons]
    by_cases h : f c = true
    · rw [if_pos h, h, List.length_cons, List.length_cons, Bool.true_and]
      refine ⟨by omega, ?_⟩
      rw [← ih.2]
      omega
    · rw [if_neg h, List.length_cons]
      have hf : f c = false := by simpa using h
      rw [hf, Bool.false_and]
      refine ⟨by omega, ?_⟩
      constructor
      · intro e
        omega
      · intro e
        cases e
theorem one_inj (c : Nat) : (V.str ⟨#[c]⟩ = V.str ("0" : Str)) ↔ c = 48 := by
  constructor
  · intro h
    have z2 := congrArg tl (V.str.inj h)
    have z3 : [c] = [48] := z2
    exact List.head_eq_of_cons_eq z3
  · intro h
    rw [h]
    rfl
section
variable {P : Program} {w : World} {K : PySem.W.Frag} {mg : Str → Option Value} {base : Heap} {aN aX C : Addr}
def spLName : Sp := fun vs H Q _ => ∃ x : Str, vs = [.str x] ∧ x.length ≤ 100000 ∧ ∀ H', Same H H' → Q (.bl (isNm x)) H'
theorem scLName : FnScope ["_law_text_here", "_law_good", "_law_sign"] ["_law_text_here"] (defScope sLName) := ⟨rfl, rfl, rfl, by decide +kernel, rfl, by decide +kernel, by decide +kernel⟩
theorem ok_lname {f : Addr} {fd : FuncData} (F : Fun K "_law_name" "_law_name" sLName f fd) (gl : mg "len" = none) : FnOk P w K mg base CX0 2 f fd ["_law_text_here"] spLName := by
  refine F.ok scLName (fun vs H Q E h => by obtain ⟨x, rfl, _⟩ := h; rfl) (fun cdv A outer s H vs Q E hr h => ?_)
  obtain ⟨x, rfl, hx, q⟩ := h
  refine ⟨_, pss_cons (ps_setLc (i := 1) (own := [("_law_sign", 2)]) (g := gName 2) (by rfl) scLName.nd rfl rfl (sw_true rfl rfl rfl (by decide +kernel)) (pi_str (pv 0)) (blkOk_by (own := [("_law_sign", 2)]) (N := ["_law_text_here", "_law_good", "_law_sign"]) (sc := defScope sLName) (by decide +kernel))
        (fun _ _ _ _ _ => pg_name (i := 2) scLName.nd rfl (Or.inl rfl)) (fun _ _ _ _ _ => pts_one (pt_cmpR op_in_sign (pv 2) pe_str (by rfl))) (fun _ _ _ _ _ => pv 2))
    (pss_one (ps_ret (pe_and (pe_chain op_lt op_lt pe_int (pe_callB call_len_str (by rfl) gl PySem.boot_len (pa_cons (pv 0) pa_nil)) pe_int) (pe_one (pe_cmpR op_eq (pe_callB call_len_seq (by rfl) gl PySem.boot_len (pa_cons (pv 1) pa_nil)) (pe_callB call_len_str (by rfl) gl PySem.boot_len (pa_cons (pv 0) pa_nil)) (nomark _)))))), ?_⟩
  have hline : x.length ≤ sizeLine := fits_small hx
  refine ⟨_, rfl, x, rfl, fun D nD => ?_⟩
  refine lc_text (z := x) (fun i H' => Same H H' ∧ H' D = some (.lst ((((tl x).take i).filter lowB).map fun c => V.str ⟨#[c]⟩))) ⟨same_upd' nD, by rw [upd_same]; rfl⟩ ?_ ?_
  · rintro i c H' hc ⟨sm, hD⟩
    have et : (tl x).take (i + 1) = (tl x).take i ++ [c] := by
      rw [List.take_add_one, hc]
      rfl
    refine ⟨rfl, ?_⟩
    refine ⟨_, rfl, c, abcT, rfl, rfl, _, rfl, ?_⟩
    rw [abc_mem]
    refine ifB (fun h => ?_) (fun h => ?_)
    · refine ⟨_, rfl, _, hD, ?_, same_of sm nD, ?_⟩
      · rw [List.length_map]
        have h1 := (filt_len lowB ((tl x).take i)).1
        rw [List.length_take, ← len_tl] at h1
        have : 100001 < sizeLine := by decide
        omega
      · rw [upd_same, et, List.filter_append, List.map_append]
        simp [List.filter_cons, h]
    · refine ⟨sm, ?_⟩
      rw [hD, et, List.filter_append]
      simp [List.filter_cons, h]
  · rintro H1 ⟨sm, hD⟩
    rw [len_tl, List.take_length] at hD
    have q' := q H1 sm
    unfold isNm at q'
    have fl := filt_len lowB (tl x)
    refine ⟨_, rfl, _, rfl, hline, _, _, rfl, rfl, _, rfl, ?_⟩
    refine ifB (fun h => ?_) (fun h => ?_)
    · have h' : 0 < x.length := by
        have := of_decide_eq_true h
        omega
      have he : (tl x).isEmpty = false := by
        rw [len_tl] at h'
        cases e : tl x with
        | nil => rw [e] at h'; exact absurd h' (by decide)
        | cons _ _ => rfl
      rw [he] at q'
      refine ⟨_, _, rfl, rfl, _, rfl, ?_⟩
      refine ifB (fun h2 => ?_) (fun h2 => ?_)
      · have h2' : (tl x).length ≤ 8 := by
          have := of_decide_eq_true h2
          rw [len_tl] at this
          omega
        rw [decide_eq_true h2', Bool.and_true] at q'
        refine ⟨_, rfl, D, _, rfl, .inl (SqL.of hD), _, rfl, _, rfl, hline, rfl, ?_⟩
        rw [List.length_map]
        have e : decide (V.int ((((tl x).filter lowB).length : Nat) : Int) = V.int (x.length : Int)) = (tl x).all lowB := by
          rw [len_tl x]
          by_cases ha : (tl x).all lowB = true
          · rw [ha]
            exact decide_eq_true (by rw [fl.2.mpr ha])
          · have hf : (tl x).all lowB = false := by simpa using ha
            rw [hf]
            refine decide_eq_false fun z => ha (fl.2.mp ?_)
            have := V.int.inj z
            omega
        rw [e]
        exact q'
      · have h2' : ¬ (tl x).length ≤ 8 := by
          have := of_decide_eq_false h2
          rw [len_tl] at this
          omega
        rw [decide_eq_false h2', Bool.and_false] at q'
        exact q'
    · have h' : x.length = 0 := by
        have := of_decide_eq_false h
        omega
      have he : (tl x).isEmpty = true := by
        rw [len_tl] at h'
        rw [List.length_eq_zero_iff.mp h']
        rfl
      rw [he] at q'
      exact ⟨_, rfl, q'⟩
def spLNum : Sp := fun vs H Q _ => ∃ x : Str, vs = [.str x] ∧ x.length ≤ 100000 ∧ ∀ H', Same H H' → Q (oV (numOf x)) H'
theorem scLNum : FnScope ["_law_text_here", "_law_good", "_law_sign"] ["_law_text_here"] (defScope sLNum) := ⟨rfl, rfl, rfl, by decide +kernel, rfl, by decide +kernel, by decide +kernel⟩
theorem ok_lnum {f : Addr} {fd : FuncData} (F : Fun K "_law_number" "_law_number" sLNum f fd) (gl : mg "len" = none) (gi : mg "int" = none) : FnOk P w K mg base CX0 2 f fd ["_law_text_here"] spLNum := by
  refine F.ok scLNum (fun vs H Q E h => by obtain ⟨x, rfl, _⟩ := h; rfl) (fun cdv A outer s H vs Q E hr h => ?_)
  obtain ⟨x, rfl, hx, q⟩ := h
  refine ⟨_, pss_cons (ps_setLc (i := 1) (own := [("_law_sign", 2)]) (g := gName 2) (by rfl) scLNum.nd rfl rfl (sw_true rfl rfl rfl (by decide +kernel)) (pi_str (pv 0)) (blkOk_by (own := [("_law_sign", 2)]) (N := ["_law_text_here", "_law_good", "_law_sign"]) (sc := defScope sLNum) (by decide +kernel))
        (fun _ _ _ _ _ => pg_name (i := 2) scLNum.nd rfl (Or.inl rfl)) (fun _ _ _ _ _ => pts_one (pt_cmpR op_in_sign (pv 2) pe_str (by rfl))) (fun _ _ _ _ _ => pv 2))
    (pss_cons (ps_if (PW.pt (pw_or (pt_cmpR op_eq (pv 0) pe_str (nomark _)) (pw_or (pt_cmpR op_gt (pe_callB call_len_str (by rfl) gl PySem.boot_len (pa_cons (pv 0) pa_nil)) pe_int (nomark _))
          (pw_or (pt_cmpR op_lt (pe_callB call_len_seq (by rfl) gl PySem.boot_len (pa_cons (pv 1) pa_nil)) (pe_callB call_len_str (by rfl) gl PySem.boot_len (pa_cons (pv 0) pa_nil)) (nomark _))
          (pw_or1 (PW.pt (pw_and (pt_cmpR op_gt (pe_callB call_len_str (by rfl) gl PySem.boot_len (pa_cons (pv 0) pa_nil)) pe_int (nomark _)) (pw_and1 (pt_cmpR op_eq (pe_item_str (pv 0) pe_int (fun _ _ => rfl)) pe_str (nomark _))))))))))
        (pss_one (ps_ret pe_non)) pss_nil)
    (pss_one (ps_ret (pe_callTy call_int_str (by rfl) gi (by decide +kernel) (pa_cons (pv 0) pa_nil))))), ?_⟩
  have hline : x.length ≤ sizeLine := fits_small hx
  refine ⟨_, rfl, x, rfl, fun D nD => ?_⟩
  refine lc_text (z := x) (fun i H' => Same H H' ∧ H' D = some (.lst ((((tl x).take i).filter digB).map fun c => V.str ⟨#[c]⟩))) ⟨same_upd' nD, by rw [upd_same]; rfl⟩ ?_ ?_
  · rintro i c H' hc ⟨sm, hD⟩
    have et : (tl x).take (i + 1) = (tl x).take i ++ [c] := by
      rw [List.take_add_one, hc]
      rfl
    refine ⟨rfl, ?_⟩
    refine ⟨_, rfl, c, digT, rfl, rfl, _, rfl, ?_⟩
    rw [dig_mem]
    refine ifB (fun h => ?_) (fun h => ?_)
    · refine ⟨_, rfl, _, hD, ?_, same_of sm nD, ?_⟩
      · rw [List.length_map]
        have h1 := (filt_len digB ((tl x).take i)).1
        rw [List.length_take, ← len_tl] at h1
        have : 100001 < sizeLine := by decide
        omega
      · rw [upd_same, et, List.filter_append, List.map_append]
        simp [List.filter_cons, h]
    · refine ⟨sm, ?_⟩
      rw [hD, et, List.filter_append]
      simp [List.filter_cons, h]
  · rintro H1 ⟨sm, hD⟩
    rw [len_tl, List.take_length] at hD
    have q' := q H1 sm
    unfold numOf at q'
    have fl := filt_len digB (tl x)
    have bad : ∀ {B : Prop}, (!(tl x).isEmpty && (tl x).all digB && decide ((tl x).length ≤ 5)) = false → Q .non H1 := fun h => by
      rw [h, if_neg Bool.false_ne_true] at q'
      exact q'
    refine ⟨_, rfl, rfl, _, rfl, ifB (fun h => ?_) (fun h => ?_)⟩
    · refine bad (B := True) ?_
      have e : x = ("" : Str) := V.str.inj (of_decide_eq_true h)
      rw [e]
      rfl
    obtain ⟨c, r, hl⟩ : ∃ c r, tl x = c :: r := by
      cases e : tl x with
      | nil =>
        have : x = ("" : Str) := ext_tl (by rw [e]; decide +kernel)
        exact absurd (congrArg V.str this) (of_decide_eq_false h)
      | cons c r => exact ⟨c, r, rfl⟩
    have he : (tl x).isEmpty = false := by rw [hl] <;> rfl
    refine ⟨_, rfl, _, rfl, hline, _, _, rfl, rfl, _, rfl, ifB (fun h5 => ?_) (fun h5 => ?_)⟩
    · refine bad (B := True) ?_
      have h5' := of_decide_eq_true h5
      rw [len_tl] at h5'
      rw [decide_eq_false (show ¬ (tl x).length ≤ 5 by omega), Bool.and_false]
    have h5' : (tl x).length ≤ 5 := by
      have z := of_decide_eq_false h5
      rw [len_tl] at z
      omega
    refine ⟨_, rfl, D, _, rfl, .inl (SqL.of hD), _, rfl, _, rfl, hline, _, _, rfl, rfl, _, rfl, ?_⟩
    rw [List.length_map]
    refine ifB (fun hg => ?_) (fun hg => ?_)
    · refine bad (B := True) ?_
      have hg' := of_decide_eq_true hg
      rw [len_tl x] at hg'
      have : (tl x).all digB = false := by
        cases e : (tl x).all digB with
        | false => rfl
        | true =>
          have := fl.2.mpr e
          omega
      rw [this, Bool.and_false, Bool.false_and]
    have ha : (tl x).all digB = true := by
      have z := of_decide_eq_false hg
      rw [len_tl x] at z
      refine fl.2.mp ?_
      have := fl.1
      omega
    rw [he, ha, decide_eq_true h5', Bool.not_false, Bool.true_and, Bool.true_and, if_pos rfl] at q'
    have hint : intText? x = some ((NumText.digitsVal (tl x) : Nat) : Int) := PySem.intText_digits (allDig ha) (by
      show tl x ≠ []
      rw [hl]
      exact List.cons_ne_nil _ _) (by rw [len_tl]; omega)
    have h0 : x.cps[0]? = some c := by
      have : x.cps.toList[0]? = some c := by
        show (tl x)[0]? = some c
        rw [hl]
        rfl
      simpa using this
    have hpl : x.length = r.length + 1 := by
      rw [len_tl, hl]
      rfl
    have good : ∀ {B : Prop}, ¬ ((tl x).head? = some 48 ∧ tl x ≠ [48]) → Q (.int ((NumText.digitsVal (tl x) : Nat) : Int)) H1 := fun h => by
      rw [if_neg h] at q'
      exact q'
    refine ⟨_, rfl, _, rfl, hline, _, _, rfl, rfl, _, rfl, ifB (fun h1 => ?_) (fun h1 => ?_)⟩
    · have h1' := of_decide_eq_true h1
      refine ⟨_, rfl, _, 0, c, rfl, rfl, by decide, by decide, by omega, h0, rfl, _, rfl, ifB (fun hc => ?_) (fun hc => ?_)⟩
      · have hc' := (one_inj c).mp (of_decide_eq_true hc)
        rw [if_pos ⟨by rw [hl, hc'] <;> rfl, fun z => by
          have := congrArg List.length z
          rw [hl, List.length_cons] at this
          show False
          have h3 : r.length = 0 := by simpa using this
          omega⟩] at q'
        exact q'
      · have hc' : ¬ c = 48 := fun z => of_decide_eq_false hc ((one_inj c).mpr z)
        exact ⟨_, rfl, _, _, rfl, hint, by rw [len_tl]; omega, good (B := True) (fun z => by
          have z1 := z.1
          rw [hl] at z1
          exact hc' (Option.some.inj z1))⟩
    · have h1' := of_decide_eq_false h1
      have hr0 : r = [] := List.length_eq_zero_iff.mp (by omega)
      exact ⟨_, rfl, _, _, rfl, hint, by rw [len_tl]; omega, good (B := True) (fun z => z.2 (by
        have z1 := z.1
        rw [hl, hr0] at z1 ⊢
        rw [Option.some.inj z1]))⟩
end
end Bh

/-! The law's stand: what stands in its dict. -/
namespace Bh
open PySem PySem.Spec PyProof.Rows L2
open TL
theorem look_has (x : Str) : ∀ ns : List (Str × Int), (look ns x).isSome = hasN ns x := fun ns => by
  have a := valV_nmK x ns
  rw [valV_look] at a
  rw [← a]
  cases look ns x <;> rfl
theorem look_snoc {x : Str} {n : Int} (y : Str) : ∀ {ns : List (Str × Int)}, hasN ns x = false → look (ns ++ [(x, n)]) y = if y = x then some n else look ns y
  | [], _ => by
    unfold look
    by_cases e : y = x
    · rw [if_pos e, e]
      simp
    · rw [if_neg e]
      have e2 : (x == y) = false := by
        have : ¬ x = y := fun q => e q.symm
        simpa using this
      simp [e2]
  | (z, m) :: r, h => by
    have hz : (z == x) = false ∧ hasN r x = false := by
      unfold hasN at h ⊢
      rw [List.any_cons, Bool.or_eq_false_iff] at h
      exact h
    have ih := look_snoc (x := x) (n := n) y hz.2
    unfold look at ih ⊢
    rw [List.cons_append, List.find?_cons, List.find?_cons]
    by_cases e : z = y
    · have e1 : (z == y) = true := by simpa using e
      have e2 : ¬ y = x := fun q => by
        have : z = x := e.trans q
        have h1 := hz.1
        rw [this] at h1
        simp at h1
      rw [e1, if_neg e2]
    · have e1 : (z == y) = false := by simpa using e
      rw [e1]
      exact ih
theorem hasN_mem {x : Str} {ns : List (Str × Int)} : hasN ns x = true ↔ x ∈ ns.map (·.1) := by
  unfold hasN
  rw [List.any_eq_true, List.mem_map]
  constructor
  · rintro ⟨p, hp, e⟩
    exact ⟨p, hp, eq_of_beq e⟩
  · rintro ⟨p, hp, e⟩
    exact ⟨p, hp, by rw [e]; exact beq_self_eq_true x⟩
theorem hasN_not {x : Str} {ns : List (Str × Int)} (h : x ∉ ns.map (·.1)) : hasN ns x = false := by
  cases e : hasN ns x with
  | false => rfl
  | true => exact absurd (hasN_mem.mp e) h
theorem look_mem {x : Str} {ns : List (Str × Int)} (h : x ∈ ns.map (·.1)) : ∃ n, look ns x = some n := by
  have q := look_has x ns
  rw [hasN_mem.mpr h] at q
  cases e : look ns x with
  | none => rw [e] at q; cases q
  | some n => exact ⟨n, rfl⟩
theorem look_nodup : ∀ {ns : List (Str × Int)}, (ns.map (·.1)).Nodup → ∀ p ∈ ns, look ns p.1 = some p.2
  | [], _, p, hp => by cases hp
  | (z, m) :: r, hn, p, hp => by
    rw [List.map_cons, List.nodup_cons] at hn
    unfold look
    rw [List.find?_cons]
    rcases List.mem_cons.mp hp with e | e
    · rw [e]
      simp
    · have ne : ¬ z = p.1 := fun q => hn.1 (by
        rw [q]
        exact List.mem_map.mpr ⟨p, e, rfl⟩)
      have e1 : (z == p.1) = false := by simpa using ne
      rw [e1]
      exact look_nodup hn.2 p e
theorem look_map (f : Str → Int) : ∀ {N : List Str} {x : Str}, x ∈ N → look (N.map fun y => (y, f y)) x = some (f x)
  | [], x, h => by cases h
  | y :: N, x, h => by
    unfold look
    rw [List.map_cons, List.find?_cons]
    by_cases e : y = x
    · rw [e]
      simp
    · have e1 : (y == x) = false := by simpa using e
      rw [e1]
      rcases List.mem_cons.mp h with q | q
      · exact absurd q.symm e
      · exact look_map f q
theorem merge_nodup : ∀ (b a : List (Str × Int)), ((a ++ b).map (·.1)).Nodup → mergeK (nmK a) (nmK b) = nmK (a ++ b)
  | [], a, _ => by rw [List.append_nil]; rfl
  | p :: r, a, h => by
    have hp : hasN a p.1 = false := hasN_not fun m => by
      rw [List.map_append, List.nodup_append] at h
      exact h.2.2 p.1 m p.1 (by simp) rfl
    have e : mergeK (nmK a) (nmK (p :: r)) = mergeK (putK (nmK a) (Sum.inr p.1) (.int p.2)) (nmK r) := rfl
    rw [e, putK_nmK hp, merge_nodup r (a ++ [(p.1, p.2)]) (by simpa using h)]
    simp
section
variable {X : Cx}
/-- d.update(e) -/
def rDUpd : V → List V → Hp → VK → Prop := fun x vs H Q => ∃ (a b : Addr) (ks ls : List (Key × V)), x = .ref a ∧ vs = [.ref b] ∧ a ≠ b ∧ H a = some (.dK ks) ∧ H b = some (.dK ls) ∧ ks.length + ls.length ≤ sizeLine ∧ Q .non (upd H a (.dK (mergeK ks ls)))
theorem mtd_update : MtR X "dict.update" rDUpd := by
  intro pins s σ H x vs v us Q I rx rv h
  obtain ⟨a, b, ks, ls, rfl, rfl, hab, ha, hb, hsz, q⟩ := h
  cases rx
  cases rv with
  | cons r1 rr =>
    cases rr
    cases r1
    obtain ⟨z1, d1, va, ra, da⟩ := dk_of I.hok ha
    obtain ⟨z2, d2, vb, rb, db⟩ := dk_of I.hok hb
    refine call_meetsIn PySem.F.slot_dict_update da.typeIs PySem.F.entry_dict_update (PySem.F.args_dict_update_2 _ _) (meets_dict_update (mixKind X.prog X.w) a b hab d2) ⟨va, vb, da, db, by rw [← ra.length, ← rb.length]; exact hsz, fun h' da' db' hs => ?_⟩
    have he : ∃ q, h'.get? a = some q := let ⟨q, _, _, hq, _⟩ := da'; ⟨q, hq⟩
    exact ⟨.non, _, d_write (t' := s.toks) I (by rw [ha]; exact True.intro) hs he (dk_new (Nat.le_trans (length_mergeK ls ks) hsz) d1 (KV.merge rb ra) da'), rfl, q⟩
end
theorem nm_low {x : Str} (h : isNm x = true) : (∀ c ∈ tl x, lowB c = true) ∧ tl x ≠ [] ∧ (tl x).length ≤ 8 := by
  unfold isNm at h
  simp only [Bool.and_eq_true, decide_eq_true_eq] at h
  refine ⟨fun c hm => List.all_eq_true.mp h.1.2 c hm, fun e => ?_, h.2⟩
  rw [e] at h
  exact absurd h.1.1 (by decide)
theorem low_bounds {c : Nat} (h : lowB c = true) : 97 ≤ c ∧ c ≤ 122 := by
  unfold lowB at h
  simpa using h
theorem nm_free {x : Str} (h : isNm x = true) {c : Nat} (hc : c < 97 ∨ 122 < c) : c ∉ tl x := fun hm => by
  have := low_bounds ((nm_low h).1 c hm)
  omega
theorem cut_last (l : List Nat) (c : Nat) : cutS (sS (l ++ [c])) none (some (-1)) = sS l := by
  apply ext_tl
  show (((l ++ [c]).drop (HT.sIx (sS (l ++ [c])).length 0 none)).take (HT.sIx (sS (l ++ [c])).length (sS (l ++ [c])).length (some (-1)) - HT.sIx (sS (l ++ [c])).length 0 none)) = l
  rw [len_sS, List.length_append, List.length_singleton]
  have e0 : HT.sIx (l.length + 1) 0 none = 0 := HT.sIx_none ..
  have e1 : HT.sIx (l.length + 1) (l.length + 1) (some (-1)) = l.length := by
    unfold HT.sIx
    simp
    try omega
  rw [e0, e1, List.drop_zero, Nat.sub_zero, List.take_append_of_le_length (Nat.le_refl _), List.take_length]
/-! ### the tables -/
def withA : List (Str × Int) := [("lit", 1), ("get", 2), ("put", 3), ("add", 4), ("sub", 5), ("and", 6), ("xor", 7), ("getb", 8), ("putb", 9), ("go", 12)]
def withB : List (Str × Int) := [("ifz", 13), ("ifn", 14), ("call", 15), ("let", 20), ("word", 0)]
def bareL : List (Str × Int) := [("mark", 0), ("tob", 10), ("swap", 11), ("ret", 16), ("push", 17), ("pop", 18), ("sleep", 19), ("back", 21), ("half", 22)]
theorem look_in {L : List (Str × Int)} {x : Str} (h : x ∈ L.map (·.1)) : look L x ≠ none := fun e => by
  obtain ⟨n, hn⟩ := look_mem h
  rw [hn] at e
  cases e
theorem look_out {L : List (Str × Int)} {x : Str} (h : x ∉ L.map (·.1)) : look L x = none := by
  have q := look_has x L
  rw [hasN_not h] at q
  cases e : look L x with
  | none => rfl
  | some n => rw [e] at q; cases q
theorem bare_all : ∀ y ∈ bareL.map (·.1), y ∈ opN ∧ y ∉ opX ∧ look bareL y = some (posN y : Int) ∧ y ≠ ("" : Str) ∧ Txt.endswith y ":" = false ∧ Txt.split y " " = [y] := by decide +kernel
theorem bare_has : ∀ y ∈ opN, y ∈ opX ∨ y ∈ bareL.map (·.1) := by decide +kernel
theorem with_all : ∀ y ∈ (withA ++ withB).map (·.1), (y ∈ opX ∧ y ≠ ("word" : Str) ∧ look (withA ++ withB) y = some (posN y : Int)) ∨ (y = ("word" : Str) ∧ look (withA ++ withB) y = some 0) := by decide +kernel
theorem with_has : ∀ y ∈ opX, y ∈ (withA ++ withB).map (·.1) := by decide +kernel
theorem with_word : ("word" : Str) ∈ (withA ++ withB).map (·.1) := by decide +kernel
theorem not_x_at : ("at" : Str) ∉ (withA ++ withB).map (·.1) := by decide +kernel
theorem withA_merge : mergeK [] (nmK withA) = nmK withA := merge_nodup withA [] (by decide +kernel)
theorem withB_merge : mergeK [] (nmK withB) = nmK withB := merge_nodup withB [] (by decide +kernel)
theorem with_merge : mergeK (nmK withA) (nmK withB) = nmK (withA ++ withB) := merge_nodup withB withA (by decide +kernel)
theorem bare_merge : mergeK [] (nmK bareL) = nmK bareL := merge_nodup bareL [] (by decide +kernel)
theorem take_bareX {i : Int} {x : Str} {s : Sh} (h : x ∈ bareL.map (·.1)) : takeM i x s = layM ((posN x : Int) * 1024) 1 s := by
  obtain ⟨h1, h2, h3, h4, h5, h6⟩ := bare_all x h
  unfold takeM
  rw [if_neg h4, h5, if_neg Bool.false_ne_true, h6]
  show bareM x s = _
  unfold bareM
  rw [if_neg (fun q => q.elim (fun q => q h1) h2)]
theorem not_bare {x : Str} {s : Sh} (h : x ∉ bareL.map (·.1)) : bareM x s = (false, s) := by
  unfold bareM
  rw [if_pos]
  by_cases h1 : x ∈ opN
  · rcases bare_has x h1 with q | q
    · exact .inr q
    · exact absurd q h
  · exact .inl h1
/-! ### parts of a row -/
theorem join_spl (l : List Nat) : ∀ acc : List Nat, joinL [32] (spl [32] 0 acc l) = acc ++ l ∧ spl [32] 0 acc l ≠ [] := by
  induction l with
  | nil => intro acc; rw [spl_nil]; exact ⟨by simp [joinL], List.cons_ne_nil _ _⟩
  | cons c r ih =>
    intro acc
    cases e : pre [32] (c :: r) with
    | true =>
      rw [spl_hit e]
      have hc : c = 32 := by
        unfold pre at e
        have e' := eq_of_beq e
        have : [c] = [32] := by simpa using e'
        exact List.head_eq_of_cons_eq this
      obtain ⟨h1, h2⟩ := ih []
      refine ⟨?_, List.cons_ne_nil _ _⟩
      show joinL [32] (acc :: spl [32] 0 [] r) = _
      cases es : spl [32] 0 [] r with
      | nil => exact absurd es h2
      | cons a b =>
        rw [es] at h1
        show acc ++ ([32] ++ joinL [32] (a :: b)) = _
        rw [h1, hc]
        rfl
    | false =>
      rw [spl_miss e]
      obtain ⟨h1, h2⟩ := ih (acc ++ [c])
      refine ⟨?_, h2⟩
      rw [h1, List.append_assoc]
      rfl
theorem split_parts (x : Str) : joinL [32] ((Txt.split x " ").map tl) = tl x := by
  rw [split_spl x " " (by rw [sp_tl]; exact List.cons_ne_nil _ _) (kind_ok sp_k), sp_tl]
  have := (join_spl (tl x) []).1
  simpa using this
theorem split_nil (x : Str) : Txt.split x " " ≠ [] := fun e => by
  have h := (join_spl (tl x) []).2
  have q := split_spl x " " (by rw [sp_tl]; exact List.cons_ne_nil _ _) (kind_ok sp_k)
  rw [sp_tl, e] at q
  exact h q.symm
theorem many_blank {x a b : Str} {r : List Str} (h : Txt.split x " " = a :: b :: r) : 32 ∈ tl x := by
  have q := split_parts x
  rw [h] at q
  have q' : tl a ++ ([32] ++ joinL [32] ((b :: r).map tl)) = tl x := q
  rw [← q']
  simp
theorem colon_cut {x : Str} (he : Txt.endswith x ":" = true) (h : 32 ∈ tl x) : isNm (cutS x none (some (-1))) = false := by
  have hl := (ends_colon x).mp he
  obtain ⟨p, hp⟩ : ∃ p, tl x = p ++ [58] := by
    have := List.getLast?_eq_some_iff.mp hl
    exact this
  have ex : x = sS (p ++ [58]) := eq_sS hp
  have h32 : 32 ∈ p := by
    rw [hp] at h
    rcases List.mem_append.mp h with q | q
    · exact q
    · exact absurd q (by decide)
  rw [ex, cut_last]
  cases e : isNm (sS p) with
  | false => rfl
  | true => exact absurd h32 (nm_free (x := sS p) e (.inl (by decide)))
theorem colon_two {x a b : Str} (he : Txt.endswith x ":" = true) (h : Txt.split x " " = [a, b]) : numOf b = none ∧ isNm b = false := by
  have q := split_parts x
  rw [h] at q
  have q' : tl a ++ ([32] ++ tl b) = tl x := q
  have hl := (ends_colon x).mp he
  rw [← q', List.getLast?_append, List.getLast?_append] at hl
  have hb : 58 ∈ tl b := by
    cases e : (tl b).getLast? with
    | none =>
      rw [e] at hl
      have hl' : some 32 = some 58 := hl
      cases hl'
    | some c =>
      rw [e] at hl
      have hl' : some c = some 58 := hl
      have m := List.mem_of_getLast? e
      rw [Option.some.inj hl'] at m
      exact m
  constructor
  · unfold numOf
    rw [if_neg]
    intro h1
    simp only [Bool.and_eq_true] at h1
    have := List.all_eq_true.mp h1.1.2 58 hb
    exact absurd this (by decide)
  · cases e : isNm b with
    | false => rfl
    | true => exact absurd hb (nm_free e (.inl (by decide)))
end Bh

/-! The law's stand, its rows taken. -/
namespace Bh
open PySem PySem.Spec PyProof.Rows L2
open TL
def stD (a b c : Addr) : List (Key × V) := [(Sum.inr "image", .ref a), (Sum.inr "named", .ref b), (Sum.inr "wanted", .ref c)]
theorem stD_i (a b c : Addr) : valV (stD a b c) (Sum.inr "image") = some (.ref a) := valV_pos rfl
theorem in_ : ¬ ((Sum.inr ("image" : Str) : Key) = (Sum.inr ("named" : Str) : Key)) := by decide +kernel
theorem iw_ : ¬ ((Sum.inr ("image" : Str) : Key) = (Sum.inr ("wanted" : Str) : Key)) := by decide +kernel
theorem nw2_ : ¬ ((Sum.inr ("named" : Str) : Key) = (Sum.inr ("wanted" : Str) : Key)) := by decide +kernel
theorem stD_n (a b c : Addr) : valV (stD a b c) (Sum.inr "named") = some (.ref b) := by
  unfold stD
  rw [valV_neg in_]
  exact valV_pos rfl
theorem stD_w (a b c : Addr) : valV (stD a b c) (Sum.inr "wanted") = some (.ref c) := by
  unfold stD
  rw [valV_neg iw_, valV_neg nw2_]
  exact valV_pos rfl
theorem stD_merge (a b c : Addr) : mergeK ([] : List (Key × V)) (stD a b c) = stD a b c := by
  show putK (putK (putK ([] : List (Key × V)) (Sum.inr ("image" : Str) : Key) (.ref a)) (Sum.inr ("named" : Str) : Key) (.ref b)) (Sum.inr ("wanted" : Str) : Key) (.ref c) = stD a b c
  rw [putK_new (kvs := []) _ rfl, List.nil_append, putK_new (kvs := [((Sum.inr "image" : Key), V.ref a)]) _ (by rw [valV_neg in_]; rfl), putK_new _ (by
    show valV [((Sum.inr "image" : Key), V.ref a), ((Sum.inr "named" : Key), V.ref b)] (Sum.inr "wanted") = none
    rw [valV_neg iw_, valV_neg nw2_]
    rfl)]
  rfl
structure Stp (H0 H : Hp) (p a b c : Addr) (us : List V) (s : Sh) : Prop where
  sm : Same H0 H
  fp : H0 p = none
  fa : H0 a = none
  fb : H0 b = none
  fc : H0 c = none
  hp : H p = some (.dK (stD a b c))
  ha : H a = some (.lst (s.words.map V.int))
  hb : H b = some (.dK (nmK s.names))
  hc : H c = some (.lst us)
  ac : a ≠ c
  pb : p ≠ b
  hu : UsesAt H us s.uses
  lw : s.words.length ≤ 512
def StandAt (H0 H : Hp) (p : Addr) (s : Sh) : Prop := ∃ a b c us, Stp H0 H p a b c us s
section
variable {H0 H : Hp} {p a b c : Addr} {us : List V} {s : Sh}
theorem Stp.pa (h : Stp H0 H p a b c us s) : p ≠ a := ne_of h.hp h.ha (by intro q; cases q)
theorem Stp.pc (h : Stp H0 H p a b c us s) : p ≠ c := ne_of h.hp h.hc (by intro q; cases q)
theorem Stp.ab (h : Stp H0 H p a b c us s) : a ≠ b := ne_of h.ha h.hb (by intro q; cases q)
theorem Stp.bc (h : Stp H0 H p a b c us s) : b ≠ c := ne_of h.hb h.hc (by intro q; cases q)
theorem Stp.words (h : Stp H0 H p a b c us s) (ws : List Int) (hl : ws.length ≤ 512) : Stp H0 (upd H a (.lst (ws.map V.int))) p a b c us { s with words := ws } where
  sm := same_of h.sm h.fa
  fp := h.fp
  fa := h.fa
  fb := h.fb
  fc := h.fc
  hp := by rw [upd_ne h.pa]; exact h.hp
  ha := upd_same
  hb := by rw [upd_ne h.ab.symm]; exact h.hb
  hc := by rw [upd_ne h.ac.symm]; exact h.hc
  ac := h.ac
  pb := h.pb
  hu := h.hu.mono fun t xs e => by rw [upd_ne (ne_of e h.ha (by intro q; cases q))]; exact e
  lw := hl
theorem Stp.named (h : Stp H0 H p a b c us s) (ns : List (Str × Int)) : Stp H0 (upd H b (.dK (nmK ns))) p a b c us { s with names := ns } where
  sm := same_of h.sm h.fb
  fp := h.fp
  fa := h.fa
  fb := h.fb
  fc := h.fc
  hp := by rw [upd_ne h.pb]; exact h.hp
  ha := by rw [upd_ne h.ab]; exact h.ha
  hb := upd_same
  hc := by rw [upd_ne h.bc.symm]; exact h.hc
  ac := h.ac
  pb := h.pb
  hu := h.hu.mono fun t xs e => by rw [upd_ne (ne_of e h.hb (by intro q; cases q))]; exact e
  lw := h.lw
theorem Stp.same (h : Stp H0 H p a b c us s) {H' : Hp} (sm : Same H H') : Stp H0 H' p a b c us s where
  sm := h.sm.trans sm
  fp := h.fp
  fa := h.fa
  fb := h.fb
  fc := h.fc
  hp := sm _ _ h.hp
  ha := sm _ _ h.ha
  hb := sm _ _ h.hb
  hc := sm _ _ h.hc
  ac := h.ac
  pb := h.pb
  hu := h.hu.mono fun t xs e => sm _ _ e
  lw := h.lw
theorem Stp.more (h : Stp H0 H p a b c us s) {x : Addr} {o : HO} (hx : H x = none) : Stp H0 (upd H x o) p a b c us s := h.same (same_upd' hx)
theorem Stp.used (h : Stp H0 H p a b c us s) {t : Addr} {u : Int × Int × Str} (ht : H t = some (useT u)) : Stp H0 (upd H c (.lst (us ++ [.ref t]))) p a b c (us ++ [.ref t]) { s with uses := s.uses ++ [u] } where
  sm := same_of h.sm h.fc
  fp := h.fp
  fa := h.fa
  fb := h.fb
  fc := h.fc
  hp := by rw [upd_ne h.pc]; exact h.hp
  ha := by rw [upd_ne h.ac]; exact h.ha
  hb := by rw [upd_ne h.bc]; exact h.hb
  hc := upd_same
  ac := h.ac
  pb := h.pb
  hu := (UsesAt.snoc ht h.hu).mono fun t xs e => by rw [upd_ne (ne_of e h.hc (by intro q; cases q))]; exact e
  lw := h.lw
theorem Stp.di (h : Stp H0 H p a b c us s) : DGet H p (.str "image") (some (.ref a)) := by
  rw [← stD_i a b c]
  exact DGet.k (k := Sum.inr "image") h.hp
theorem Stp.dn (h : Stp H0 H p a b c us s) : DGet H p (.str "named") (some (.ref b)) := by
  rw [← stD_n a b c]
  exact DGet.k (k := Sum.inr "named") h.hp
theorem Stp.dw (h : Stp H0 H p a b c us s) : DGet H p (.str "wanted") (some (.ref c)) := by
  rw [← stD_w a b c]
  exact DGet.k (k := Sum.inr "wanted") h.hp
end
section
variable {P : Program} {w : World} {K : PySem.W.Frag} {mg : Str → Option Value} {base : Heap} {aN aX C : Addr}
def spSized : Sp := fun vs H Q _ => ∃ (H0 : Hp) (p : Addr) (s : Sh) (m wd : Int), vs = [.ref p, .int m, .int wd] ∧ 0 ≤ m ∧ m < 100000 ∧ StandAt H0 H p s ∧ ∀ H' : Hp, StandAt H0 H' p (layM wd m s).2 → Q (.bl (layM wd m s).1) H'
theorem scSized : FnScope ["_law_stand", "_law_many", "_law_word"] ["_law_stand", "_law_many", "_law_word"] (defScope sSized) := ⟨rfl, rfl, rfl, by decide +kernel, rfl, by decide +kernel, by decide +kernel⟩
theorem ok_sized {f : Addr} {fd : FuncData} (F : Fun K "_law_sized" "_law_sized" sSized f fd) (gl : mg "len" = none) : FnOk P w K mg base CX0 2 f fd ["_law_stand", "_law_many", "_law_word"] spSized := by
  refine F.ok scSized (fun vs H Q E h => by obtain ⟨H0, p, s, m, wd, rfl, _⟩ := h; rfl) (fun cdv A outer s H vs Q E hr h => ?_)
  obtain ⟨H0, p, z, m, wd, rfl, m0, m1, ⟨a, b, c, us, S⟩, k⟩ := h
  have hu := hu_of hr
  refine ⟨_, pss_cons (ps_if (pt_cmpR op_gt (pe_op op_add (pe_callB call_len_seq (by rfl) gl PySem.boot_len (pa_cons (pe_dget hu (pv 0) pe_str (fun _ _ => rfl)) pa_nil)) (pv 1)) pe_int (nomark _)) (pss_one (ps_ret pe_bl)) pss_nil)
    (pss_cons (ps_expr (pe_bm PySem.F.plainAttrs_list PySem.F.slot_list_extend PySem.F.type_list_extend mt_extend (pe_dget hu (pv 0) pe_str (fun _ _ => rfl)) (pa_cons (pe_op op_rep (pe_lst (pa_cons (pv 2) pa_nil)) (pv 1)) pa_nil)))
    (pss_one (ps_ret pe_bl))), ?_⟩
  refine ⟨_, rfl, p, _, rfl, S.di, a, _, rfl, .inl (SqL.of S.ha), _, rfl, _, _, rfl, rfl, _, _, rfl, rfl, _, rfl, ?_⟩
  rw [List.length_map]
  unfold layM at k
  refine ifB (fun h => ?_) (fun h => ?_)
  · have h' : (z.words.length : Int) + m > 512 := of_decide_eq_true h
    rw [if_pos h'] at k
    exact k _ ⟨a, b, c, us, S⟩
  · have h' : ¬ (z.words.length : Int) + m > 512 := of_decide_eq_false h
    rw [if_neg h'] at k
    refine ⟨_, rfl, p, _, rfl, S.di, .inl ⟨rfl, _, SqL.of S.ha⟩, ?_⟩
    refine ⟨_, rfl, by show 1 ≤ sizeLine; decide, fun l nl => ?_⟩
    have S1 := S.more (o := .lst [.int wd]) nl
    refine ⟨_, rfl, l, m, [.int wd], rfl, rfl, upd_same, by omega, by omega, (by show 1 * m.toNat ≤ sizeLine; exact fits_small (by omega)), fun q nq => ?_⟩
    have ef : (List.replicate m.toNat [V.int wd]).flatten = (List.replicate m.toNat wd).map V.int := by
      induction m.toNat with
      | zero => rfl
      | succ n ih => rw [List.replicate_succ, List.flatten_cons, ih, List.replicate_succ, List.map_cons]; rfl
    rw [ef]
    have S2 := S1.more (o := .lst ((List.replicate m.toNat wd).map V.int)) nq
    refine ⟨a, q, z.words.map V.int, _, rfl, rfl, S2.ha, upd_same, ?_, ?_⟩
    · rw [List.length_map, List.length_map, List.length_replicate]
      exact fits_small (by omega)
    · rw [← List.map_append]
      exact k _ ⟨a, b, c, us, (S2.words (z.words ++ List.replicate m.toNat wd) (by rw [List.length_append, List.length_replicate]; omega))⟩
end
end Bh

/-! The law's rows taken. -/
namespace Bh
open PySem PySem.Spec PyProof.Rows L2
open TL
theorem last_at {x : Str} (h : tl x ≠ []) : ∃ c, (tl x).getLast? = some c ∧ atI x.cps.toList (-1) = some c := by
  have e : x.cps.toList = tl x := rfl
  have hl : 0 < (tl x).length := List.length_pos_iff.mpr h
  have h1 : (tl x).getLast? = (tl x)[(tl x).length - 1]? := List.getLast?_eq_getElem? ..
  refine ⟨(tl x)[(tl x).length - 1]'(by omega), ?_, ?_⟩
  · rw [h1, List.getElem?_eq_getElem (by omega)]
  · rw [e]
    unfold atI
    have e2 : ixN (tl x).length (-1) = some ((tl x).length - 1) := by
      unfold ixN
      rw [if_neg (by decide), if_pos (by omega)]
      congr 1
      omega
    rw [e2]
    show (tl x)[(tl x).length - 1]? = _
    rw [List.getElem?_eq_getElem (by omega)]
theorem one_inj2 (c : Nat) : (V.str ⟨#[c]⟩ = V.str (":" : Str)) ↔ c = 58 := by
  constructor
  · intro h
    have z2 := congrArg tl (V.str.inj h)
    have z3 : [c] = [58] := z2
    exact List.head_eq_of_cons_eq z3
  · intro h
    rw [h]
    rfl
theorem tl_nil {x : Str} (h : tl x = []) : x = ("" : Str) := ext_tl (by rw [h] <;> decide +kernel)
theorem len3 : ∀ L : List Str, 2 < L.length → ∃ q1 q2 q3 r, L = q1 :: q2 :: q3 :: r
  | [], h => absurd h (by decide)
  | [_], h => absurd h (by simp)
  | [_, _], h => absurd h (by simp)
  | q1 :: q2 :: q3 :: r, _ => ⟨q1, q2, q3, r, rfl⟩
theorem len2 : ∀ L : List Str, L ≠ [] → L.length ≠ 1 → ¬ 2 < L.length → ∃ q1 q2, L = [q1, q2]
  | [], h, _, _ => absurd rfl h
  | [_], _, h, _ => absurd rfl h
  | [q1, q2], _, _, _ => ⟨q1, q2, rfl⟩
  | q1 :: q2 :: q3 :: r, _, _, h => absurd (by simp) h
section
variable {P : Program} {w : World} {K : PySem.W.Frag} {mg : Str → Option Value} {base : Heap} {aN aX C : Addr}
def spTaken : Sp := fun vs H Q _ => ∃ (H0 : Hp) (p : Addr) (s : Sh) (i : Int) (x : Str), vs = [.ref p, .int i, .str x] ∧ StandAt H0 H p s ∧ x.length ≤ 90000 ∧ s.names.length < 100000 ∧ s.uses.length < 100000 ∧
  ∀ H' : Hp, Same H0 H' → ((takeM i x s).1 = true → StandAt H0 H' p (takeM i x s).2) → Q (.bl (takeM i x s).1) H'
theorem scTaken : FnScope ["_law_stand", "_law_number_here", "_law_row", "_law_with_x", "_law_bare", "_law_at", "_law_words", "_law_name_here", "_law_good", "_law_number_of"] ["_law_stand", "_law_number_here", "_law_row"] (defScope sTaken) := ⟨rfl, rfl, rfl, by decide +kernel, rfl, by decide +kernel, by decide +kernel⟩
theorem ok_taken {f fS fN fM : Addr} {fd fdS fdN fdM : FuncData} (F : Fun K "_law_taken" "_law_taken" sTaken f fd) (SZ : CalF P w K mg base 2 "_law_sized" ["_law_stand", "_law_many", "_law_word"] spSized fS fdS) (N : CalF P w K mg base 2 "_law_name" ["_law_text_here"] spLName fN fdN)
    (M : CalF P w K mg base 2 "_law_number" ["_law_text_here"] spLNum fM fdM) (gl : mg "len" = none) (gi : mg "int" = none) : FnOk P w K mg base CX0 3 f fd ["_law_stand", "_law_number_here", "_law_row"] spTaken := by
  refine F.ok scTaken (fun vs H Q E h => by obtain ⟨H0, p, s, i, x, rfl, _⟩ := h; rfl) (fun cdv A outer s H vs Q E hr h => ?_)
  obtain ⟨H0, p, z, i, x, rfl, ⟨a, b, c, us, S⟩, hx, hns, hus, k⟩ := h
  have hu := hu_of hr
  refine ⟨_, pss_cons (ps_set (i := 3) scTaken.nd rfl (.inl rfl) (pe_disp (pps_cons pe_str pe_int (pps_cons pe_str pe_int (pps_cons pe_str pe_int (pps_cons pe_str pe_int (pps_cons pe_str pe_int (pps_cons pe_str pe_int (pps_cons pe_str pe_int (pps_cons pe_str pe_int (pps_cons pe_str pe_int (pps_cons pe_str pe_int pps_nil)))))))))) (by rfl) (by rfl) (fun z => by cases z) (by decide)))
    (pss_cons (ps_expr (pe_bm PySem.F.plainAttrs_dict PySem.F.slot_dict_update PySem.F.type_dict_update mtd_update (pv 3) (pa_cons (pe_disp (pps_cons pe_str pe_int (pps_cons pe_str pe_int (pps_cons pe_str pe_int (pps_cons pe_str pe_int (pps_cons pe_str pe_int pps_nil))))) (by rfl) (by rfl) (fun z => by cases z) (by decide)) pa_nil)))
    (pss_cons (ps_set (i := 4) scTaken.nd rfl (.inl rfl) (pe_disp (pps_cons pe_str pe_int (pps_cons pe_str pe_int (pps_cons pe_str pe_int (pps_cons pe_str pe_int (pps_cons pe_str pe_int (pps_cons pe_str pe_int (pps_cons pe_str pe_int (pps_cons pe_str pe_int (pps_cons pe_str pe_int pps_nil))))))))) (by rfl) (by rfl) (fun z => by cases z) (by decide)))
    (pss_cons (ps_set (i := 5) scTaken.nd rfl (.inl rfl) (pe_callB call_len_seq (by rfl) gl PySem.boot_len (pa_cons (pe_dget hu (pv 0) pe_str (fun _ _ => rfl)) pa_nil)))
    (pss_cons (ps_set (i := 6) scTaken.nd rfl (.inl rfl) (pe_split (pv 2) pe_str))
    (pss_cons (ps_if (PW.pt (pw_or (pt_cmpR op_eq (pv 2) pe_str (nomark _)) (pw_or1 (pt_cmp (pc_din hu (pv 2) (pv 4))))))
      (pss_one (ps_ret (pe_or (pe_cmpR op_eq (pv 2) pe_str (nomark _)) (pe_one (pe_call SZ.G hr (by rfl) SZ.g SZ.kp SZ.b .nil pass0 (pa_cons (pv 0) (pa_cons pe_int (pa_cons (pe_op op_mul pe_int (pe_dget hu (pv 4) (pv 2) (fun _ _ => rfl))) pa_nil)))))))) pss_nil)
    (pss_cons (ps_if (pt_cmpR op_eq (pe_callB call_len_seq (by rfl) gl PySem.boot_len (pa_cons (pv 6) pa_nil)) pe_int (nomark _))
      (pss_cons (ps_set (i := 7) scTaken.nd rfl (.inl rfl) (pe_slice sl_str (pv 2) po_none (po_some (pe_un un_neg pe_int))))
      (pss_cons (ps_set (i := 8) scTaken.nd rfl (.inl rfl) (pe_and (pe_cmpR op_eq (pe_ix ix_str (pv 2) (pe_un un_neg pe_int) (fun _ _ => rfl)) pe_str (nomark _)) (pe_and (pe_call N.G hr (by rfl) N.g N.kp N.b .nil pass0 (pa_cons (pv 7) pa_nil)) (pe_one (pe_cmp (pc_dnotin hu (pv 7) (pe_dget hu (pv 0) pe_str (fun _ _ => rfl))) (by rfl))))))
      (pss_cons (ps_expr (pe_dsetd (pe_dget hu (pv 0) pe_str (fun _ _ => rfl)) (pv 7) (pv 5) ⟨rfl, rfl, rfl, rfl⟩))
      (pss_one (ps_ret (pv 8)))))) pss_nil)
    (pss_cons (ps_if (pt_cmpR op_gt (pe_callB call_len_seq (by rfl) gl PySem.boot_len (pa_cons (pv 6) pa_nil)) pe_int (nomark _)) (pss_one (ps_ret pe_bl)) pss_nil)
    (pss_cons (ps_set (i := 9) scTaken.nd rfl (.inl rfl) (pe_call M.G hr (by rfl) M.g M.kp M.b .nil pass0 (pa_cons (pe_ix ix_list (pv 6) pe_int (fun _ _ => rfl)) pa_nil)))
    (pss_cons (ps_if (pt_cmpR op_eq (pe_ix ix_list (pv 6) pe_int (fun _ _ => rfl)) pe_str (nomark _))
      (pss_one (ps_ret (pe_and (pe_cmp (pc_notN (pv 9)) rfl) (pe_and (pe_cmpR op_ge (pv 9) (pv 5) (nomark _)) (pe_one (pe_call SZ.G hr (by rfl) SZ.g SZ.kp SZ.b .nil pass0 (pa_cons (pv 0) (pa_cons (pe_op op_sub (pv 9) (pv 5)) (pa_cons pe_int pa_nil))))))))) pss_nil)
    (pss_cons (ps_if (pt_cmpR op_eq (pe_ix ix_list (pv 6) pe_int (fun _ _ => rfl)) pe_str (nomark _))
      (pss_one (ps_ret (pe_and (pe_cmp (pc_notN (pv 9)) rfl) (pe_one (pe_call SZ.G hr (by rfl) SZ.g SZ.kp SZ.b .nil pass0 (pa_cons (pv 0) (pa_cons (pv 9) (pa_cons pe_int pa_nil)))))))) pss_nil)
    (pss_cons (ps_if (pt_cmp (pc_dnotin hu (pe_ix ix_list (pv 6) pe_int (fun _ _ => rfl)) (pv 3))) (pss_one (ps_ret pe_bl)) pss_nil)
    (pss_cons (ps_if (pt_val (pe_call N.G hr (by rfl) N.g N.kp N.b .nil pass0 (pa_cons (pe_ix ix_list (pv 6) pe_int (fun _ _ => rfl)) pa_nil)))
      (pss_cons (ps_expr (pe_bm PySem.F.plainAttrs_list PySem.F.slot_list_append PySem.F.type_list_append mt_append (pe_dget hu (pv 0) pe_str (fun _ _ => rfl)) (pa_cons (pe_tup (pa_cons (pv 1) (pa_cons (pv 5) (pa_cons (pe_ix ix_list (pv 6) pe_int (fun _ _ => rfl)) pa_nil)))) pa_nil)))
      (pss_one (ps_ret (pe_call SZ.G hr (by rfl) SZ.g SZ.kp SZ.b .nil pass0 (pa_cons (pv 0) (pa_cons pe_int (pa_cons (pe_op op_mul pe_int (pe_dget hu (pv 3) (pe_ix ix_list (pv 6) pe_int (fun _ _ => rfl)) (fun _ _ => rfl))) pa_nil))))))) pss_nil)
    (pss_cons (ps_if (PW.pt (pw_or (pt_cmp (pc_isN (pv 9))) (pw_or1 (pt_cmpR op_gt (pv 9) (pe_ix ix_list (pe_lst (pa_cons pe_int (pa_cons pe_int pa_nil))) (pe_callTy call_int1 (by rfl) gi (by decide +kernel) (pa_cons (pe_cmpR op_eq (pe_ix ix_list (pv 6) pe_int (fun _ _ => rfl)) pe_str (nomark _)) pa_nil)) (fun _ _ => rfl)) (nomark _)))))
      (pss_one (ps_ret pe_bl)) pss_nil)
    (pss_one (ps_ret (pe_call SZ.G hr (by rfl) SZ.g SZ.kp SZ.b .nil pass0 (pa_cons (pv 0) (pa_cons pe_int (pa_cons (pe_op op_add (pe_op op_mul pe_int (pe_dget hu (pv 3) (pe_ix ix_list (pv 6) pe_int (fun _ _ => rfl)) (fun _ _ => rfl))) (pv 9)) pa_nil))))))))))))))))))), ?_⟩
  have bad : (takeM i x z).1 = false → ∀ H' : Hp, Same H0 H' → Q (.bl false) H' := fun e H' sm => by
    have := k H' sm (fun e2 => by rw [e] at e2; cases e2)
    rw [e] at this
    exact this
  have kl : ∀ r : Bool × Sh, takeM i x z = r → ∀ H' : Hp, StandAt H0 H' p r.2 → Q (.bl r.1) H' := fun r e H' R => by
    subst e
    obtain ⟨_, _, _, _, R'⟩ := R
    exact k H' R'.sm (fun _ => ⟨_, _, _, _, R'⟩)
  have hline : x.length ≤ sizeLine := fits_small (by omega)
  intro p1 n1
  refine ⟨upd_same, nmK withA, rfl, by decide, ?_⟩
  rw [withA_merge]
  have sm1 : Same H (upd (upd H p1 (.dK [])) p1 (.dK (nmK withA))) := same_of (same_upd' n1) n1
  have d1 : (upd (upd H p1 (.dK [])) p1 (.dK (nmK withA))) p1 = some (.dK (nmK withA)) := upd_same
  generalize upd (upd H p1 (.dK [])) p1 (.dK (nmK withA)) = G1 at sm1 d1 ⊢
  refine ⟨_, rfl, .inr (.inr (.inl ⟨rfl, .inl ⟨_, d1⟩⟩)), fun p2 n2 => ⟨upd_same, nmK withB, rfl, by decide, ?_⟩⟩
  rw [withB_merge]
  have n12 : p1 ≠ p2 := ne_of_none d1 n2
  refine ⟨p1, p2, nmK withA, nmK withB, rfl, rfl, n12, by rw [upd_ne n12, upd_ne n12]; exact d1, upd_same, by decide, ?_⟩
  rw [with_merge]
  have sm2 : Same H (upd (upd (upd G1 p2 (.dK [])) p2 (.dK (nmK withB))) p1 (.dK (nmK (withA ++ withB)))) := same_of (sm1.trans (same_of (same_upd' n2) n2)) n1
  have d2 : (upd (upd (upd G1 p2 (.dK [])) p2 (.dK (nmK withB))) p1 (.dK (nmK (withA ++ withB)))) p1 = some (.dK (nmK (withA ++ withB))) := upd_same
  generalize upd (upd (upd G1 p2 (.dK [])) p2 (.dK (nmK withB))) p1 (.dK (nmK (withA ++ withB))) = G2 at sm2 d2 ⊢
  intro p3 n3
  refine ⟨upd_same, nmK bareL, rfl, by decide, ?_⟩
  rw [bare_merge]
  have sm3 : Same H (upd (upd G2 p3 (.dK [])) p3 (.dK (nmK bareL))) := sm2.trans (same_of (same_upd' n3) n3)
  have d3 : (upd (upd G2 p3 (.dK [])) p3 (.dK (nmK bareL))) p3 = some (.dK (nmK bareL)) := upd_same
  have d3' : (upd (upd G2 p3 (.dK [])) p3 (.dK (nmK bareL))) p1 = some (.dK (nmK (withA ++ withB))) := by
    rw [upd_ne (ne_of_none d2 n3), upd_ne (ne_of_none d2 n3)]
    exact d2
  generalize upd (upd G2 p3 (.dK [])) p3 (.dK (nmK bareL)) = G3 at sm3 d3 d3' ⊢
  have S3 := S.same sm3
  refine ⟨_, rfl, p, _, rfl, S3.di, a, _, rfl, .inl (SqL.of S3.ha), ?_⟩
  rw [List.length_map]
  refine ⟨_, rfl, ⟨_, rfl⟩, _, _, rfl, rfl, rfl, (by
    have : 90002 ≤ sizeLine := by decide
    omega), fun l nl => ?_⟩
  have lc : l ≠ c := (ne_of_none S3.hc nl).symm
  have S4 := S3.more (o := .lst ((Txt.split x " ").map V.str)) nl
  have d4 := same_upd' (o := .lst ((Txt.split x " ").map V.str)) nl _ _ d3
  have d4' := same_upd' (o := .lst ((Txt.split x " ").map V.str)) nl _ _ d3'
  have dl : (upd G3 l (.lst ((Txt.split x " ").map V.str))) l = some (.lst ((Txt.split x " ").map V.str)) := upd_same
  have hl : SqL K (upd G3 l (.lst ((Txt.split x " ").map V.str))) l ((Txt.split x " ").map V.str) := .inl (.inl upd_same)
  have hle : ∀ q ∈ Txt.split x " ", q.length ≤ 100000 := fun q hq => Nat.le_trans (split_le (by decide +kernel) (by decide +kernel) hq) (by omega)
  have hmany : ∀ (u v : Str) (r : List Str), Txt.split x " " = u :: v :: r → 32 ∈ tl x := fun u v r e => many_blank e
  have hcol : Txt.endswith x ":" = true → ∀ u v : Str, Txt.split x " " = [u, v] → numOf v = none ∧ isNm v = false := fun h u v e => colon_two h e
  have hnn : Txt.split x " " ≠ [] := split_nil x
  generalize upd G3 l (.lst ((Txt.split x " ").map V.str)) = G4 at S4 d4 d4' dl hl ⊢
  refine ⟨_, rfl, rfl, _, rfl, ?_⟩
  have hempty : x = ("" : Str) → takeM i x z = (true, z) := fun e => by
    unfold takeM
    rw [if_pos e]
  refine ifB (fun h1 => ?_) (fun h1 => ?_)
  · have e1 := hempty (V.str.inj (of_decide_eq_true h1))
    refine ⟨_, rfl, rfl, _, rfl, ifB (fun _ => ?_) (fun h => by rw [h1] at h; cases h)⟩
    exact kl _ e1 _ ⟨a, b, c, us, S4⟩
  have x0 : ¬ x = ("" : Str) := fun e => of_decide_eq_false h1 (congrArg V.str e)
  refine ⟨_, rfl, _, rfl, p3, _, rfl, DGet.k (k := Sum.inr x) d4, _, rfl, ?_⟩
  rw [valV_nmK]
  refine ifB (fun h2 => ?_) (fun h2 => ?_)
  · have hm := hasN_mem.mp h2
    have e1 := take_bareX (i := i) (s := z) hm
    obtain ⟨_, _, hlk, _⟩ := bare_all x hm
    refine ⟨_, rfl, rfl, _, rfl, ifB (fun h => by rw [h1] at h; cases h) (fun _ => ?_)⟩
    have ev : valV (nmK bareL) (Sum.inr x) = some (.int (posN x : Int)) := by
      rw [valV_look, hlk]
      rfl
    refine ⟨_, rfl, _, rfl, _, rfl, p3, _, rfl, (by rw [← ev]; exact DGet.k (k := Sum.inr x) d4), _, _, rfl, rfl, .inl ⟨by decide, by decide⟩, H0, p, z, 1, _, rfl, by decide, by decide, ⟨a, b, c, us, S4⟩, fun H' R => ?_⟩
    rw [Int.mul_comm 1024] at R ⊢
    exact kl _ e1 _ R
  have hnb : x ∉ bareL.map (·.1) := fun hm => by
    rw [hasN_mem.mpr hm] at h2
    cases h2
  refine ⟨_, rfl, l, _, rfl, .inl hl, rfl, _, rfl, ?_⟩
  rw [List.length_map]
  refine ifB (fun h3 => ?_) (fun h3 => ?_)
  · have e1 : (Txt.split x " ").length = 1 := by
      have z1 := V.int.inj (of_decide_eq_true h3)
      omega
    obtain ⟨q, hq⟩ : ∃ q, Txt.split x " " = [q] := by
      generalize Txt.split x " " = parts at *
      match parts, e1 with
      | [q], _ => exact ⟨q, rfl⟩
    have hx0 : tl x ≠ [] := fun e => x0 (tl_nil e)
    obtain ⟨c', hc1, hc2⟩ := last_at hx0
    have hcl := cutS_length x none (some (-1))
    refine ⟨_, rfl, 1, rfl, _, rfl, _, rfl, hline, ?_⟩
    refine ⟨_, rfl, 1, rfl, x, -1, c', rfl, rfl, hline, hc2, rfl, _, rfl, ?_⟩
    have badH : ∀ (G : Hp), Stp H0 G p a b c us z → (takeM i x z).1 = false → ∀ D : L2.St, True := fun _ _ _ _ => True.intro
    have lim : (nmK z.names).length < sizeLine := by
      rw [nmK_len]
      exact Nat.lt_of_lt_of_le hns (by decide)
    refine ifB (fun h4 => ?_) (fun h4 => ?_)
    · have hc58 : c' = 58 := (one_inj2 c').mp (of_decide_eq_true h4)
      have he : Txt.endswith x ":" = true := (ends_colon x).mpr (by rw [hc1, hc58])
      have et : takeM i x z = nameM (cutS x none (some (-1))) z := by
        unfold takeM
        rw [if_neg x0, if_pos he]
      refine ⟨_, rfl, _, rfl, by omega, fun G5 sm5 => ⟨_, rfl, ?_⟩⟩
      have S5 := S4.same sm5
      refine ifB (fun h5 => ?_) (fun h5 => ?_)
      · refine ⟨_, rfl, _, rfl, p, _, rfl, S5.dn, b, _, rfl, DGet.k (k := Sum.inr (cutS x none (some (-1)))) S5.hb, ?_⟩
        rw [valV_nmK]
        cases h6 : hasN z.names (cutS x none (some (-1))) with
        | true =>
          have eb : (takeM i x z).1 = false := by
            rw [et]
            unfold nameM
            rw [if_pos (Or.inr h6)]
          refine ⟨_, rfl, p, _, rfl, S5.dn, b, rfl, .inl ⟨_, .inl S5.hb⟩, _, rfl, _, rfl, nmK z.names, Sum.inr (cutS x none (some (-1))), S5.hb, rfl, lim, fun v hv => ⟨_, rfl, bad eb _ S5.sm⟩, fun hn => ⟨_, rfl, bad eb _ (same_of S5.sm S5.fb)⟩⟩
        | false =>
          have eg : takeM i x z = (true, { z with names := z.names ++ [(cutS x none (some (-1)), (z.words.length : Int))] }) := by
            rw [et]
            unfold nameM
            rw [if_neg (fun q => q.elim (fun q => by rw [h5] at q; cases q) (fun q => by rw [h6] at q; cases q))]
          refine ⟨_, rfl, p, _, rfl, S5.dn, b, rfl, .inl ⟨_, .inl S5.hb⟩, _, rfl, _, rfl, nmK z.names, Sum.inr (cutS x none (some (-1))), S5.hb, rfl, lim, fun v hv => ?_, fun hn => ⟨_, rfl, ?_⟩⟩
          · have z1 := valV_nmK (cutS x none (some (-1))) z.names
            rw [hv, h6] at z1
            cases z1
          · rw [putK_nmK h6]
            exact kl _ eg _ ⟨a, b, c, us, S5.named _⟩
      · have eb : (takeM i x z).1 = false := by
          rw [et]
          unfold nameM
          rw [if_pos (Or.inl h5)]
        refine ⟨_, rfl, p, _, rfl, S5.dn, b, rfl, .inl ⟨_, .inl S5.hb⟩, _, rfl, _, rfl, nmK z.names, Sum.inr (cutS x none (some (-1))), S5.hb, rfl, lim, fun v hv => ⟨_, rfl, bad eb _ S5.sm⟩, fun hn => ⟨_, rfl, bad eb _ (same_of S5.sm S5.fb)⟩⟩
    · have he : Txt.endswith x ":" = false := by
        cases e : Txt.endswith x ":" with
        | false => rfl
        | true =>
          have z1 := (ends_colon x).mp e
          rw [hc1] at z1
          exact absurd ((one_inj2 c').mpr (Option.some.inj z1)) (of_decide_eq_false h4)
      have eb : (takeM i x z).1 = false := by
        unfold takeM
        rw [if_neg x0, he, if_neg Bool.false_ne_true, hq]
        show (bareM x z).1 = false
        rw [not_bare hnb]
      refine ⟨_, rfl, p, _, rfl, S4.dn, b, rfl, .inl ⟨_, .inl S4.hb⟩, _, rfl, _, rfl, nmK z.names, Sum.inr (cutS x none (some (-1))), S4.hb, rfl, lim, fun v hv => ⟨_, rfl, bad eb _ S4.sm⟩, fun hn => ⟨_, rfl, bad eb _ (same_of S4.sm S4.fb)⟩⟩
  have n1' : (Txt.split x " ").length ≠ 1 := fun e => of_decide_eq_false h3 (by rw [e] <;> rfl)
  refine ⟨_, rfl, l, _, rfl, .inl hl, _, _, rfl, rfl, _, rfl, ?_⟩
  rw [List.length_map]
  refine ifB (fun h4 => ?_) (fun h4 => ?_)
  · have h4' : 2 < (Txt.split x " ").length := by
      have := of_decide_eq_true h4
      omega
    obtain ⟨q1, q2, q3, r, hq⟩ := len3 _ h4'
    have h32 := hmany _ _ _ hq
    have eb : (takeM i x z).1 = false := by
      unfold takeM
      rw [if_neg x0]
      cases he : Txt.endswith x ":" with
      | true =>
        rw [if_pos rfl]
        unfold nameM
        rw [if_pos (Or.inl (colon_cut he h32))]
      | false =>
        rw [if_neg Bool.false_ne_true, hq]
    exact bad eb _ S4.sm
  have h4' : ¬ 2 < (Txt.split x " ").length := by
    have := of_decide_eq_false h4
    omega
  obtain ⟨q1, q2, hq⟩ := len2 _ hnn n1' h4'
  have h32 := hmany _ _ _ hq
  have hq2 : q2.length ≤ 100000 := hle q2 (by rw [hq]; simp)
  rw [hq] at hl dl
  have hl' : SqL K G4 l [.str q1, .str q2] := hl
  -- what a row of two parts does
  have ecol : Txt.endswith x ":" = true → (takeM i x z).1 = false ∧ numOf q2 = none ∧ isNm q2 = false := fun he => by
    refine ⟨?_, hcol he q1 q2 hq⟩
    unfold takeM
    rw [if_neg x0, if_pos he]
    unfold nameM
    rw [if_pos (Or.inl (colon_cut he h32))]
  have epair : Txt.endswith x ":" = false → takeM i x z = pairM i q1 q2 z := fun he => by
    unfold takeM
    rw [if_neg x0, he, if_neg Bool.false_ne_true, hq]
  have enone : numOf q2 = none → isNm q2 = false → (takeM i x z).1 = false := fun hn hm => by
    have ha : atM (numOf q2) z = (false, z) := by rw [hn]; rfl
    have hk : keepM (numOf q2) z = (false, z) := by rw [hn]; rfl
    have hw : ∀ bs m, worthM i bs q2 m z = (false, z) := fun bs m => by
      unfold worthM
      rw [hn, hm, if_neg Bool.false_ne_true]
    cases he : Txt.endswith x ":" with
    | true => exact (ecol he).1
    | false =>
      rw [epair he]
      unfold pairM
      rw [ha, hk, hw, hw]
      by_cases c1 : q1 = ("at" : Str)
      · rw [if_pos c1]
      rw [if_neg c1]
      by_cases c2 : q1 = ("keep" : Str)
      · rw [if_pos c2]
      rw [if_neg c2]
      by_cases c3 : q1 = ("word" : Str)
      · rw [if_pos c3]
      rw [if_neg c3]
      by_cases c4 : q1 ∈ opX
      · rw [if_pos c4]
      · rw [if_neg c4]
  have esome : ∀ n, numOf q2 = some n → takeM i x z = pairM i q1 q2 z := fun n hn => by
    cases he : Txt.endswith x ":" with
    | true =>
      have := (ecol he).2.1
      rw [hn] at this
      cases this
    | false => exact epair he
  have ename : isNm q2 = true → takeM i x z = pairM i q1 q2 z := fun hn => by
    cases he : Txt.endswith x ":" with
    | true =>
      have := (ecol he).2.2
      rw [hn] at this
      cases this
    | false => exact epair he
  have nmnum : isNm q2 = true → numOf q2 = none := fun hn => by
    unfold numOf
    rw [if_neg]
    intro h1
    simp only [Bool.and_eq_true] at h1
    obtain ⟨c0, hc0⟩ : ∃ c0, c0 ∈ tl q2 := List.exists_mem_of_ne_nil _ (nm_low hn).2.1
    have a1 := (nm_low hn).1 c0 hc0
    have a2 := List.all_eq_true.mp h1.1.2 c0 hc0
    have b1 := low_bounds a1
    unfold digB at a2
    simp at a2
    omega
  refine ⟨_, rfl, l, _, 1, .str q2, rfl, rfl, hl', atI_nat (j := 1) rfl, q2, rfl, hq2, fun G5 sm5 => ?_⟩
  have S5 := S4.same sm5
  have d5 := sm5 _ _ d4'
  have dl5 : G5 l = some (.lst [.str q1, .str q2]) := sm5 _ _ dl
  have hl5 : SqL K G5 l [.str q1, .str q2] := SqL.of dl5
  have efalse : (pairM i q1 q2 z).1 = false → (takeM i x z).1 = false := fun h => by
    cases he : Txt.endswith x ":" with
    | true => exact (ecol he).1
    | false => rw [epair he]; exact h
  refine ⟨_, rfl, l, _, 0, .str q1, rfl, rfl, hl5, atI_nat (j := 0) rfl, rfl, _, rfl, ifB (fun h5 => ?_) (fun h5 => ?_)⟩
  · have hat : q1 = ("at" : Str) := V.str.inj (of_decide_eq_true h5)
    have ep : pairM i q1 q2 z = atM (numOf q2) z := by
      unfold pairM
      rw [if_pos hat]
    cases hn : numOf q2 with
    | none =>
      have eb := efalse (by rw [ep, hn]; rfl)
      exact ⟨_, rfl, _, rfl, bad eb _ S5.sm⟩
    | some n =>
      have et := (esome n hn).trans ep
      rw [hn] at et
      have et' : takeM i x z = if n < (z.words.length : Int) then (false, z) else layM 65535 (n - z.words.length) z := et
      have hn0 := numOf_nonneg hn
      have hn1 := numOf_lt hn
      refine ⟨_, rfl, _, rfl, ?_⟩
      refine ⟨_, rfl, _, rfl, _, _, rfl, rfl, _, rfl, ifB (fun h7 => ?_) (fun h7 => ?_)⟩
      · have h7' := of_decide_eq_true h7
        rw [if_neg (by omega)] at et'
        exact ⟨_, rfl, _, rfl, _, rfl, _, _, rfl, rfl, H0, p, z, _, _, rfl, by omega, by omega, ⟨a, b, c, us, S5⟩, kl _ et'⟩
      · have h7' := of_decide_eq_false h7
        rw [if_pos (by omega)] at et'
        exact bad (by rw [et']) _ S5.sm
  have nat_ : ¬ q1 = ("at" : Str) := fun e => of_decide_eq_false h5 (congrArg V.str e)
  refine ⟨_, rfl, l, _, 0, .str q1, rfl, rfl, hl5, atI_nat (j := 0) rfl, rfl, _, rfl, ifB (fun h6 => ?_) (fun h6 => ?_)⟩
  · have hat : q1 = ("keep" : Str) := V.str.inj (of_decide_eq_true h6)
    have ep : pairM i q1 q2 z = keepM (numOf q2) z := by
      unfold pairM
      rw [if_neg nat_, if_pos hat]
    cases hn : numOf q2 with
    | none =>
      have eb := efalse (by rw [ep, hn]; rfl)
      exact ⟨_, rfl, _, rfl, bad eb _ S5.sm⟩
    | some n =>
      have et := (esome n hn).trans ep
      rw [hn] at et
      have et' : takeM i x z = layM 0 n z := et
      have hn0 := numOf_nonneg hn
      have hn1 := numOf_lt hn
      refine ⟨_, rfl, _, rfl, ?_⟩
      exact ⟨_, rfl, _, rfl, H0, p, z, _, _, rfl, by omega, by omega, ⟨a, b, c, us, S5⟩, kl _ et'⟩
  have nkeep : ¬ q1 = ("keep" : Str) := fun e => of_decide_eq_false h6 (congrArg V.str e)
  refine ⟨_, rfl, l, _, 0, .str q1, rfl, rfl, hl5, atI_nat (j := 0) rfl, _, rfl, p1, _, rfl, DGet.k (k := Sum.inr q1) d5, _, rfl, ?_⟩
  rw [valV_nmK]
  refine ifN (fun h7 => ?_) (fun h7 => ?_)
  · have hno : q1 ∉ (withA ++ withB).map (·.1) := fun hm => by
      rw [hasN_mem.mpr hm] at h7
      cases h7
    have eb : (pairM i q1 q2 z).1 = false := by
      unfold pairM
      rw [if_neg nat_, if_neg nkeep, if_neg (fun e => hno (by rw [e]; exact with_word)), if_neg (fun e => hno (with_has q1 e))]
    exact bad (efalse eb) _ S5.sm
  have hin := hasN_mem.mp h7
  obtain ⟨kv, most, hlk, epw, hm1, hm2⟩ : ∃ kv most : Int, look (withA ++ withB) q1 = some kv ∧ pairM i q1 q2 z = worthM i (1024 * kv) q2 most z ∧ (q1 = ("word" : Str) → most = 65535) ∧ (¬ q1 = ("word" : Str) → most = 1023) := by
    rcases with_all q1 hin with ⟨c1, c2, c3⟩ | ⟨c1, c2⟩
    · refine ⟨_, 1023, c3, ?_, fun e => absurd e c2, fun _ => rfl⟩
      unfold pairM
      rw [if_neg nat_, if_neg nkeep, if_neg c2, if_pos c1, Int.mul_comm]
    · refine ⟨0, 65535, c2, ?_, fun _ => rfl, fun e => absurd c1 e⟩
      unfold pairM
      rw [if_neg nat_, if_neg nkeep, if_pos c1]
      rfl
  have ev : valV (nmK (withA ++ withB)) (Sum.inr q1) = some (.int kv) := by
    rw [valV_look, hlk]
    rfl
  refine ⟨_, rfl, l, _, 1, .str q2, rfl, rfl, hl5, atI_nat (j := 1) rfl, q2, rfl, hq2, fun G6 sm6 => ⟨_, rfl, ?_⟩⟩
  have S6 := S5.same sm6
  have dl6 := sm6 _ _ dl5
  have hl6 : SqL K G6 l [.str q1, .str q2] := SqL.of dl6
  have d6 := sm6 _ _ d5
  have p1c : p1 ≠ c := (ne_of_none S.hc n1).symm
  refine ifB (fun h8 => ?_) (fun h8 => ?_)
  · have et : takeM i x z = layM (1024 * kv) 1 { z with uses := z.uses ++ [(i, (z.words.length : Int), q2)] } := by
      rw [ename h8, epw]
      unfold worthM
      rw [if_pos h8]
    refine ⟨_, rfl, p, _, rfl, S6.dw, .inl ⟨rfl, _, SqL.of S6.hc⟩, ?_⟩
    refine ⟨_, rfl, _, rfl, _, rfl, l, _, 1, .str q2, rfl, rfl, hl6, atI_nat (j := 1) rfl, (by show 3 ≤ sizeLine; decide), fun t nt => ?_⟩
    have S7 := S6.more (o := useT (i, (z.words.length : Int), q2)) nt
    refine ⟨c, us, _, rfl, rfl, S7.hc, ?_, ?_⟩
    · rw [UsesAt.len S6.hu]
      exact Nat.lt_of_lt_of_le hus (by decide)
    · have S8 := S7.used (u := (i, (z.words.length : Int), q2)) upd_same
      have d8 : upd (upd G6 t (useT (i, (z.words.length : Int), q2))) c (.lst (us ++ [.ref t])) p1 = some (.dK (nmK (withA ++ withB))) := by
        rw [upd_ne p1c, upd_ne (ne_of_none d6 nt)]
        exact d6
      have dl8 : upd (upd G6 t (useT (i, (z.words.length : Int), q2))) c (.lst (us ++ [.ref t])) l = some (.lst [.str q1, .str q2]) := by
        rw [upd_ne lc, upd_ne (ne_of_none dl6 nt)]
        exact dl6
      refine ⟨_, rfl, _, rfl, _, rfl, l, _, 0, .str q1, rfl, rfl, SqL.of dl8, atI_nat (j := 0) rfl, p1, _, rfl, (by rw [← ev]; exact DGet.k (k := Sum.inr q1) d8), _, _, rfl, rfl, .inl ⟨by decide, by decide⟩, H0, p, _, 1, _, rfl, by decide, by decide, ⟨a, b, c, _, S8⟩, kl _ et⟩
  cases hn : numOf q2 with
  | none => exact ⟨_, rfl, _, rfl, bad (enone hn h8) _ S6.sm⟩
  | some n =>
    have et : takeM i x z = if n > most then (false, z) else layM (1024 * kv + n) 1 z := by
      rw [esome n hn, epw]
      unfold worthM
      rw [h8, if_neg Bool.false_ne_true, hn]
    refine ⟨_, rfl, _, rfl, ?_⟩
    refine ⟨_, rfl, (by show 2 ≤ sizeLine; decide), fun q nq => ?_⟩
    have S7 := S6.more (o := .lst [.int 1023, .int 65535]) nq
    have dl7 := same_upd' (o := .lst [.int 1023, .int 65535]) nq _ _ dl6
    have d7 := same_upd' (o := .lst [.int 1023, .int 65535]) nq _ _ d6
    obtain ⟨j, hj1, hj2⟩ : ∃ j : Nat, (if decide (V.str q1 = V.str ("word" : Str)) = true then (1 : Int) else 0) = (j : Int) ∧ [V.int 1023, V.int 65535][j]? = some (.int most) := by
      by_cases hw : q1 = ("word" : Str)
      · rw [hm1 hw]
        exact ⟨1, if_pos (decide_eq_true (congrArg V.str hw)), rfl⟩
      · rw [hm2 hw]
        exact ⟨0, if_neg (by rw [decide_eq_false (fun e => hw (V.str.inj e))]; exact Bool.false_ne_true), rfl⟩
    refine ⟨_, rfl, l, _, 0, .str q1, rfl, rfl, SqL.of dl7, atI_nat (j := 0) rfl, rfl, .inr ⟨_, rfl, ?_⟩⟩
    refine ⟨q, _, (j : Int), .int most, rfl, congrArg V.int hj1, SqL.of upd_same, atI_nat (j := j) hj2, _, _, rfl, rfl, _, rfl, ifB (fun h9 => ?_) (fun h9 => ?_)⟩
    · have h9' := of_decide_eq_true h9
      rw [if_pos (by omega)] at et
      exact bad (by rw [et]) _ S7.sm
    · have h9' := of_decide_eq_false h9
      rw [if_neg (by omega)] at et
      refine ⟨_, rfl, _, rfl, _, rfl, l, _, 0, .str q1, rfl, rfl, SqL.of dl7, atI_nat (j := 0) rfl, p1, _, rfl, (by rw [← ev]; exact DGet.k (k := Sum.inr q1) d7), _, _, rfl, rfl, .inl ⟨by decide, by decide⟩, _, rfl, _, _, rfl, rfl, H0, p, z, 1, _, rfl, by decide, by decide, ⟨a, b, c, us, S7⟩, kl _ et⟩
end
end Bh

/-! What is due of a text. -/
namespace Bh
open PySem PySem.Spec PyProof.Rows L2
open TL
theorem Stp.based {H0 H : Hp} {p a b c : Addr} {us : List V} {s : Sh} (h : Stp H0 H p a b c us s) {l : Addr} {o : HO} (nl : H l = none) : Stp (upd H0 l o) (upd H l o) p a b c us s where
  sm := fun y q e => by
    by_cases hy : y = l
    · rw [hy, upd_same] at e ⊢
      exact e
    · rw [upd_ne hy] at e ⊢
      exact h.sm _ _ e
  fp := by rw [upd_ne (ne_of_none h.hp nl)]; exact h.fp
  fa := by rw [upd_ne (ne_of_none h.ha nl)]; exact h.fa
  fb := by rw [upd_ne (ne_of_none h.hb nl)]; exact h.fb
  fc := by rw [upd_ne (ne_of_none h.hc nl)]; exact h.fc
  hp := by rw [upd_ne (ne_of_none h.hp nl)]; exact h.hp
  ha := by rw [upd_ne (ne_of_none h.ha nl)]; exact h.ha
  hb := by rw [upd_ne (ne_of_none h.hb nl)]; exact h.hb
  hc := by rw [upd_ne (ne_of_none h.hc nl)]; exact h.hc
  ac := h.ac
  pb := h.pb
  hu := h.hu.mono fun t xs e => same_upd' nl _ _ e
  lw := h.lw
section
variable {P : Program} {w : World} {K : PySem.W.Frag} {mg : Str → Option Value} {base : Heap} {aN aX C : Addr}
def spDue : Sp := fun vs H Q _ => ∃ x : Str, vs = [.str x] ∧ x.length ≤ 80000 ∧ ∀ (H' : Hp) (t : Addr), Same H H' → H t = none → ToldAt H' t (dueM x) → Q (.ref t) H'
theorem scDue : FnScope ["_law_text_here", "_law_stand", "_law_rows", "_law_number_here", "_law_at", "_law_name_here"] ["_law_text_here"] (defScope sDue) := ⟨rfl, rfl, rfl, by decide +kernel, rfl, by decide +kernel, by decide +kernel⟩
theorem ok_due {f fT : Addr} {fd fdT : FuncData} (F : Fun K "_law_due" "_law_due" sDue f fd) (TK : CalF P w K mg base 3 "_law_taken" ["_law_stand", "_law_number_here", "_law_row"] spTaken fT fdT) (gl : mg "len" = none) (gr : mg "range" = none) : FnOk P w K mg base CX0 4 f fd ["_law_text_here"] spDue := by
  refine F.ok scDue (fun vs H Q E h => by obtain ⟨x, rfl, _⟩ := h; rfl) (fun cdv A outer s H vs Q E hr h => ?_)
  obtain ⟨x, rfl, hx, q⟩ := h
  have hu := hu_of hr
  refine ⟨_, pss_cons (ps_set (i := 1) scDue.nd rfl (.inl rfl) (pe_disp (pps_cons pe_str (pe_lst pa_nil) (pps_cons pe_str pe_dnewK (pps_cons pe_str (pe_lst pa_nil) pps_nil))) (by rfl) (by rfl) (fun z => by cases z) (by decide)))
    (pss_cons (ps_set (i := 2) scDue.nd rfl (.inl rfl) (pe_split (pv 0) pe_str))
    (pss_cons (ps_for PassesOwn.never rfl (pi_range1 (by rfl) gr (pa_cons (pe_callB call_len_seq (by rfl) gl PySem.boot_len (pa_cons (pv 2) pa_nil)) pa_nil)) (pg_name (i := 3) scDue.nd rfl (.inl rfl))
      (pss_one (ps_if (pt_not (pt_val (pe_call TK.G hr (by rfl) TK.g TK.kp TK.b .nil pass0 (pa_cons (pv 1) (pa_cons (pv 3) (pa_cons (pe_ix ix_list (pv 2) (pv 3) (fun _ _ => rfl)) pa_nil)))))) (pss_one (ps_ret (pe_tup (pa_cons pe_str (pa_cons (pv 3) pa_nil))))) pss_nil)))
    (pss_cons (ps_for PassesOwn.never rfl (pi_list (pe_dget hu (pv 1) pe_str (fun _ _ => rfl))) (pg_tup rfl (pgs_cons (pg_name (i := 3) scDue.nd rfl (.inl rfl)) (pgs_cons (pg_name (i := 4) scDue.nd rfl (.inl rfl)) (pgs_cons (pg_name (i := 5) scDue.nd rfl (.inl rfl)) pgs_nil))))
      (pss_cons (ps_if (pt_cmp (pc_dnotin hu (pv 5) (pe_dget hu (pv 1) pe_str (fun _ _ => rfl)))) (pss_one (ps_ret (pe_tup (pa_cons pe_str (pa_cons (pv 3) pa_nil))))) pss_nil)
      (pss_one (ps_asg (pe_op op_add (pe_ix ix_list (pe_dget hu (pv 1) pe_str (fun _ _ => rfl)) (pv 4) (fun _ _ => rfl)) (pe_dget hu (pe_dget hu (pv 1) pe_str (fun _ _ => rfl)) (pv 5) (fun _ _ => rfl))) (pg_sub (pe_dget hu (pv 1) pe_str (fun _ _ => rfl)) (pv 4) set_list)))))
    (pss_one (ps_ret (pe_tup (pa_cons pe_str (pa_cons (pe_dget hu (pv 1) pe_str (fun _ _ => rfl)) (pa_cons (pe_dget hu (pv 1) pe_str (fun _ _ => rfl)) pa_nil))))))))), ?_⟩
  refine fun p np => ⟨Nat.zero_le _, fun a na b nb => ⟨Nat.zero_le _, fun c nc => ?_⟩⟩
  have pa : p ≠ a := ne_of_none upd_same na
  have pb : p ≠ b := ne_of_none (by rw [upd_ne pa]; exact upd_same) nb
  have ab : a ≠ b := ne_of_none upd_same nb
  have bc : b ≠ c := ne_of_none upd_same nc
  have ac : a ≠ c := ne_of_none (by rw [upd_ne ab]; exact upd_same) nc
  have pc : p ≠ c := ne_of_none (by rw [upd_ne pb, upd_ne pa]; exact upd_same) nc
  refine ⟨by rw [upd_ne pc, upd_ne pb, upd_ne pa]; exact upd_same, stD a b c, rfl, (by show 3 ≤ 15; decide), ?_⟩
  rw [stD_merge]
  have fa : H a = none := (same_upd' np).free na
  have fb : H b = none := ((same_upd' np).trans (same_upd' na)).free nb
  have fc : H c = none := (((same_upd' np).trans (same_upd' na)).trans (same_upd' nb)).free nc
  have S : Stp H (upd (upd (upd (upd (upd H p (.dK [])) a (.lst [])) b (.dK [])) c (.lst [])) p (.dK (stD a b c))) p a b c [] sh0 := {
    sm := same_of ((((same_upd' np).trans (same_upd' na)).trans (same_upd' nb)).trans (same_upd' nc)) np
    fp := np
    fa := fa
    fb := fb
    fc := fc
    hp := upd_same
    ha := by rw [upd_ne pa.symm, upd_ne ac, upd_ne ab]; exact upd_same
    hb := by rw [upd_ne pb.symm, upd_ne bc]; exact upd_same
    hc := by rw [upd_ne pc.symm]; exact upd_same
    ac := ac
    pb := pb
    hu := .nil
    lw := Nat.zero_le _ }
  generalize upd (upd (upd (upd (upd H p (.dK [])) a (.lst [])) b (.dK [])) c (.lst [])) p (.dK (stD a b c)) = G at S ⊢
  refine ⟨_, rfl, ⟨_, rfl⟩, _, _, rfl, rfl, rfl, (by
    have : 80002 ≤ sizeLine := by decide
    omega), fun l nl => ?_⟩
  have Sb := S.based (l := l) (o := .lst ((Txt.split x "\n").map V.str)) nl
  have nl0 : H l = none := S.sm.free nl
  have hcount := split_count_le x "\n" (by decide +kernel) (by decide +kernel)
  have hlen : ∀ r ∈ Txt.split x "\n", r.length ≤ 90000 := fun r hm => Nat.le_trans (split_le (by decide +kernel) (by decide +kernel) hm) (by omega)
  unfold dueM at q
  generalize Txt.split x "\n" = rows at *
  have dl : upd H l (.lst (rows.map V.str)) l = some (.lst (rows.map V.str)) := upd_same
  have smB : Same H (upd H l (.lst (rows.map V.str))) := same_upd' nl0
  generalize upd H l (.lst (rows.map V.str)) = B at Sb dl smB
  refine ⟨_, rfl, l, _, rfl, .inl (SqL.of (Sb.sm _ _ dl)), ?_⟩
  rw [List.length_map]
  refine ⟨_, rfl, by omega, by omega, ?_⟩
  refine for_range (lo := 0) (n := ((rows.length : Nat) : Int).toNat) (fun i σ H' => ∃ (s : Sh) (y3 : Option V), σ = [some (.str x), some (.ref p), some (.ref l), y3, none, none] ∧ StandAt B H' p s ∧ runE 0 rows sh0 = runE i (rows.drop i) s ∧ s.names.length ≤ i ∧ s.uses.length ≤ i)
    ⟨sh0, none, rfl, ⟨a, b, c, [], Sb⟩, rfl, Nat.zero_le _, Nat.zero_le _⟩ ?_ ?_
  · rintro i σ H' hi ⟨z, y3, rfl, ⟨a', b', c', us', S'⟩, hrun', hn, hus⟩
    have hil : i < rows.length := by omega
    obtain ⟨r, hr'⟩ : ∃ r, rows[i]? = some r := ⟨_, List.getElem?_eq_getElem hil⟩
    have hdrop : rows.drop i = r :: rows.drop (i + 1) := by
      rw [List.drop_eq_getElem_cons hil]
      have : rows[i] = r := Option.some.inj ((List.getElem?_eq_getElem hil).symm.trans hr')
      rw [this]
    rw [hdrop, runE_cons] at hrun'
    rw [Int.zero_add]
    refine ⟨_, rfl, _, rfl, _, rfl, _, rfl, l, _, (i : Int), .str r, rfl, rfl, SqL.of (S'.sm _ _ dl), atI_nat (j := i) (by rw [List.getElem?_map, hr']; rfl), B, p, z, _, _, rfl, ⟨a', b', c', us', S'⟩, hlen r (List.mem_of_getElem? hr'), by omega, by omega, fun H2 sm2 R2 => ⟨_, rfl, ?_⟩⟩
    have hl2 := takeM_lens (i : Int) r z
    cases e : (takeM (i : Int) r z).1 with
    | false =>
      rw [e, if_neg Bool.false_ne_true] at hrun'
      rw [hrun'] at q
      refine ⟨_, rfl, (by show 2 ≤ sizeLine; decide), fun t nt => ?_⟩
      exact q _ t (smB.trans (sm2.trans (same_upd' nt))) ((smB.trans sm2).free nt) upd_same
    | true =>
      rw [e, if_pos rfl] at hrun'
      exact ⟨_, _, rfl, R2 e, hrun', by omega, by omega⟩
  · rintro σ H' ⟨z, y3, rfl, ⟨a', b', c', us', S'⟩, hrun', hn, hus⟩
    rw [Int.toNat_natCast, List.drop_length] at hrun'
    have hrun : runE 0 rows sh0 = .ok z := hrun'
    rw [hrun] at q
    have hok := uses_run rows 0 sh0 z (fun u h => by cases h) hrun
    have q1 : ∀ (H' : Hp) (t : Addr), Same H H' → H t = none → ToldAt H' t (match putE z.names z.uses z.words with | .error i => .error i | .ok ws => .ok (ws, z.names)) → Q (.ref t) H' := q
    clear q
    refine ⟨_, rfl, p, _, rfl, S'.dw, c', rfl, ⟨_, SqL.of S'.hc⟩, ?_⟩
    refine for_list (K := K) (a := c') (xs := us') (fun i σ H' => ∃ (ws : List Int) (y1 y2 y3 : Option V), σ = [some (.str x), some (.ref p), some (.ref l), y1, y2, y3] ∧ Stp B H' p a' b' c' us' { z with words := ws } ∧ ws.length = z.words.length ∧ putE z.names z.uses z.words = putE z.names (z.uses.drop i) ws)
      ⟨z.words, _, _, _, rfl, S', rfl, rfl⟩ (fun i σ H' _ h => by obtain ⟨ws, y1, y2, y3, _, S', _⟩ := h; exact SqL.of S'.hc) ?_ ?_
    · rintro i v σ H' hi ⟨ws, y1, y2, y3, rfl, S', hwl, hq⟩
      have hul := UsesAt.len S'.hu
      have hil : i < z.uses.length := by
        rw [← hul]
        exact (List.getElem?_eq_some_iff.mp hi).1
      obtain ⟨u, hu1⟩ : ∃ u, z.uses[i]? = some u := ⟨_, List.getElem?_eq_getElem hil⟩
      obtain ⟨v', hv', t, et, ht⟩ := paired_get S'.hu hu1
      have : v = .ref t := by
        rw [← et]
        exact Option.some.inj (hi.symm.trans hv')
      subst this
      have hdrop : z.uses.drop i = u :: z.uses.drop (i + 1) := by
        rw [List.drop_eq_getElem_cons hil]
        have : z.uses[i] = u := Option.some.inj ((List.getElem?_eq_getElem hil).symm.trans hu1)
        rw [this]
      rw [hdrop] at hq
      have hp0 := hok u (List.mem_of_getElem? hu1)
      rw [putE_cons] at hq
      refine ⟨t, _, rfl, SqT.of ht, rfl, _, _, rfl, _, _, rfl, _, _, rfl, rfl, ?_⟩
      cases hl : look z.names u.2.2 with
      | none =>
        rw [hl] at hq
        have hq' : putE z.names z.uses z.words = .error u.1 := hq
        rw [hq'] at q1
        have ev : valV (nmK z.names) (Sum.inr u.2.2) = none := by
          rw [valV_look, hl]
          rfl
        refine ⟨_, rfl, _, rfl, p, _, rfl, S'.dn, b', none, rfl, (by rw [← ev]; exact DGet.k (k := Sum.inr u.2.2) S'.hb), _, rfl, ?_⟩
        refine ⟨_, rfl, (by show 2 ≤ sizeLine; decide), fun t nt => ?_⟩
        exact q1 _ t (smB.trans (S'.sm.trans (same_upd' nt))) ((smB.trans S'.sm).free nt) upd_same
      | some n =>
        rw [hl] at hq
        have hq' : putE z.names z.uses z.words = putE z.names (z.uses.drop (i + 1)) (ws.set u.2.1.toNat (ws.getD u.2.1.toNat 0 + n)) := hq
        have ev : valV (nmK z.names) (Sum.inr u.2.2) = some (.int n) := by
          rw [valV_look, hl]
          rfl
        refine ⟨_, rfl, _, rfl, p, _, rfl, S'.dn, b', some (.int n), rfl, (by rw [← ev]; exact DGet.k (k := Sum.inr u.2.2) S'.hb), _, rfl, ?_⟩
        have eN : u.2.1 = ((u.2.1.toNat : Nat) : Int) := (Int.toNat_of_nonneg hp0.1).symm
        have hlt : u.2.1.toNat < ws.length := by omega
        have hw : ws[u.2.1.toNat]? = some (ws.getD u.2.1.toNat 0) := by
          rw [List.getD_eq_getElem?_getD, List.getElem?_eq_getElem hlt]
          rfl
        have hat : atI (ws.map V.int) u.2.1 = some (.int (ws.getD u.2.1.toNat 0)) := by
          have := atI_nat (xs := ws.map V.int) (j := u.2.1.toNat) (v := .int (ws.getD u.2.1.toNat 0)) (by rw [List.getElem?_map, hw]; rfl)
          rw [← eN] at this
          exact this
        have ei : ixN (ws.map V.int).length u.2.1 = some u.2.1.toNat := by
          unfold ixN
          rw [if_pos hp0.1, List.length_map, if_pos (by omega)]
        refine ⟨_, rfl, p, _, rfl, S'.di, _, rfl, a', _, u.2.1, _, rfl, rfl, SqL.of S'.ha, hat, _, rfl, p, _, rfl, S'.dn, _, rfl, b', .int n, rfl, (by rw [← ev]; exact DGet.k (k := Sum.inr u.2.2) S'.hb), _, _, rfl, rfl, ?_⟩
        refine ⟨_, rfl, p, _, rfl, S'.di, _, rfl, a', _, _, _, rfl, rfl, S'.ha, ei, ws.set u.2.1.toNat (ws.getD u.2.1.toNat 0 + n), _, _, _, rfl, ?_, by rw [List.length_set]; exact hwl, hq'⟩
        rw [set_map]
        exact S'.words _ (by rw [List.length_set]; exact S'.lw)
    · rintro σ H' ⟨ws, y1, y2, y3, rfl, S', hwl, hq⟩
      have hul := UsesAt.len S'.hu
      rw [hul, List.drop_length] at hq
      have hq' : putE z.names z.uses z.words = .ok ws := hq
      rw [hq'] at q1
      refine ⟨_, rfl, p, _, rfl, S'.di, _, rfl, p, _, rfl, S'.dn, (by show 3 ≤ sizeLine; decide), fun t nt => ?_⟩
      exact q1 _ t (smB.trans (S'.sm.trans (same_upd' nt))) ((smB.trans S'.sm).free nt) ⟨S'.lw, a', b', upd_same, same_upd' nt _ _ S'.ha, same_upd' nt _ _ S'.hb⟩
end
end Bh

/-! The law's text. -/
namespace Bh
open PySem PySem.Spec PyProof.Rows L2
open TL
def wt (xs : List Str) : Nat := (xs.map fun r => r.length + 1).sum
theorem wt_le {n : Nat} : ∀ xs : List Str, (∀ x ∈ xs, x.length ≤ n) → wt xs ≤ (n + 1) * xs.length
  | [], _ => Nat.zero_le _
  | x :: r, h => by
    have ih := wt_le r (fun y hy => h y (List.mem_cons_of_mem _ hy))
    have h1 := h x List.mem_cons_self
    unfold wt at ih ⊢
    rw [List.map_cons, List.sum_cons, List.length_cons, Nat.mul_succ]
    omega
theorem ix_listK {X : Cx} {K : PySem.W.Frag} (h : X.K = K := by rfl) : IxR X (rIxL K) := by
  subst h
  exact ix_list
theorem atN {ds : List Int} (hd : DigOk ds) {j : Int} (h0 : 0 ≤ j) (h1 : j < ds.length) : ∃ d, atI (ds.map V.int) j = some (.int d) ∧ 0 ≤ d ∧ d ≤ 1008 := by
  have hj : j.toNat < ds.length := by omega
  have e : j = ((j.toNat : Nat) : Int) := (Int.toNat_of_nonneg h0).symm
  refine ⟨ds[j.toNat], ?_, hd _ (List.getElem_mem hj)⟩
  have q : atI (ds.map V.int) ((j.toNat : Nat) : Int) = some (.int ds[j.toNat]) := atI_nat (by rw [List.getElem?_map, List.getElem?_eq_getElem hj]; rfl)
  rw [← e] at q
  exact q
theorem atS (xs : List Str) {j : Int} (h0 : 0 ≤ j) (h1 : j < xs.length) : ∃ r ∈ xs, atI (xs.map V.str) j = some (.str r) := by
  have hj : j.toNat < xs.length := by omega
  have e : j = ((j.toNat : Nat) : Int) := (Int.toNat_of_nonneg h0).symm
  refine ⟨xs[j.toNat], List.getElem_mem hj, ?_⟩
  have q : atI (xs.map V.str) ((j.toNat : Nat) : Int) = some (.str xs[j.toNat]) := atI_nat (by rw [List.getElem?_map, List.getElem?_eq_getElem hj]; rfl)
  rw [← e] at q
  exact q
def someA : List Str := ["lit 5", "get 768", "one:", "go one", "sleep", "", "keep 3", "at 60", "word 65535", "call two", "word two"]
def someB : List Str := ["half", "put 512", "ifz one", "let 1", "mark"]
theorem some_len : ∀ x ∈ someA ++ someB, x.length ≤ 10 := by decide +kernel
theorem some_size : (someA ++ someB).length = 16 := rfl
section
variable {P : Program} {w : World} {K : PySem.W.Frag} {mg : Str → Option Value} {base : Heap} {aN aX C : Addr}
def spText (K : PySem.W.Frag) : Sp := fun vs H Q _ => ∃ (r : Addr) (ds : List Int), vs = [.ref r] ∧ SqL K H r (ds.map V.int) ∧ ds.length = 40 ∧ DigOk ds ∧ ∀ (H' : Hp) (t : Addr) (xs : List Str), Same H H' → H' t = some (.lst (xs.map V.str)) → wt xs ≤ 400 → Q (.ref t) H'
def textN : List Str := ["_law_row", "_law_some", "_law_rows", "_law_k"]
theorem scText : FnScope textN ["_law_row"] (defScope sText) := ⟨rfl, rfl, rfl, by decide +kernel, rfl, by decide +kernel, by decide +kernel⟩
theorem ok_text {f : Addr} {fd : FuncData} (F : Fun K "_law_text" "_law_text" sText f fd) (gl : mg "len" = none) (gr : mg "range" = none) : FnOk P w K mg base CX0 2 f fd ["_law_row"] (spText K) := by
  refine F.ok scText (fun vs H Q E h => by obtain ⟨r, ds, rfl, _⟩ := h; rfl) (fun cdv A outer s H vs Q E hr h => ?_)
  obtain ⟨r, ds, rfl, hr0, hl, hd, q⟩ := h
  refine ⟨_, pss_cons (ps_set (i := 1) scText.nd rfl (by first | exact .inl rfl | exact .inr rfl) (pe_lst (pa_cons pe_str (pa_cons pe_str (pa_cons pe_str (pa_cons pe_str (pa_cons pe_str (pa_cons pe_str (pa_cons pe_str (pa_cons pe_str (pa_cons pe_str (pa_cons pe_str (pa_cons pe_str pa_nil)))))))))))))
    (pss_cons (ps_set (i := 1) scText.nd rfl (by first | exact .inl rfl | exact .inr rfl) (pe_op op_cat (pv 1) (pe_lst (pa_cons pe_str (pa_cons pe_str (pa_cons pe_str (pa_cons pe_str (pa_cons pe_str pa_nil))))))))
    (pss_cons (ps_set (i := 2) scText.nd rfl (by first | exact .inl rfl | exact .inr rfl) (pe_lc (own := [("_law_k", 3)]) (g := gName 3) (tt := tYes) (by rfl) scText.nd (pi_range1 (by rfl) gr (pa_cons (pe_op op_add pe_int (pe_op op_mod (pe_ix ix_list (pv 0) pe_int (fun _ _ => rfl)) pe_int)) pa_nil)) (blkOk_by (own := [("_law_k", 3)]) (N := textN) (sc := defScope sText) (by decide +kernel))
        (fun _ _ _ _ _ => pg_name (i := 3) scText.nd rfl (Or.inl rfl)) (fun _ _ _ _ _ => pts_nil)
        (fun _ _ _ _ _ => pe_ix (ix_listK (K := K)) (pv 1) (pe_op op_mod (pe_ix (ix_listK (K := K)) (pv 0) (pv 3) (fun _ _ => rfl)) pe_int) (fun _ _ => rfl))))
    (pss_cons (ps_set (i := 2) scText.nd rfl (by first | exact .inl rfl | exact .inr rfl) (pe_lc (own := [("_law_k", 3)]) (g := gName 3) (by rfl) scText.nd (pi_range1 (by rfl) gr (pa_cons (pe_callB call_len_seq (by rfl) gl PySem.boot_len (pa_cons (pv 2) pa_nil)) pa_nil)) (blkOk_by (own := [("_law_k", 3)]) (N := textN) (sc := defScope sText) (by decide +kernel))
        (fun _ _ _ _ _ => pg_name (i := 3) scText.nd rfl (Or.inl rfl))
        (fun _ _ _ _ _ => pts_one (PW.pt (pw_and (pt_cmpR op_ne (pe_ix (ix_listK (K := K)) (pv 2) (pv 3) (fun _ _ => rfl)) pe_str (by rfl)) (pw_and1 (pt_cmpR op_ne (pe_ix (ix_listK (K := K)) (pv 2) (pv 3) (fun _ _ => rfl)) pe_str (by rfl))))))
        (fun _ _ _ _ _ => pe_ix (ix_listK (K := K)) (pv 2) (pv 3) (fun _ _ => rfl))))
    (pss_cons (ps_expr (pe_bm PySem.F.plainAttrs_list PySem.F.slot_list_insert PySem.F.type_list_insert mt_insert (pv 2) (pa_cons (pe_op op_mod (pe_ix ix_list (pv 0) pe_int (fun _ _ => rfl)) (pe_op op_add (pe_callB call_len_seq (by rfl) gl PySem.boot_len (pa_cons (pv 2) pa_nil)) pe_int)) (pa_cons pe_str pa_nil))))
    (pss_one (ps_ret (pe_op op_cat (pv 2) (pe_lst (pa_cons pe_str (pa_cons pe_str pa_nil)))))))))), ?_⟩
  refine ⟨(by show 11 ≤ sizeLine; decide), fun p1 n1 => ?_⟩
  refine ⟨_, rfl, (by show 5 ≤ sizeLine; decide), fun p2 n2 => ⟨p1, p2, [V.str "lit 5", V.str "get 768", V.str "one:", V.str "go one", V.str "sleep", V.str "", V.str "keep 3", V.str "at 60", V.str "word 65535", V.str "call two", V.str "word two"], [V.str "half", V.str "put 512", V.str "ifz one", V.str "let 1", V.str "mark"], rfl, rfl, (by rw [upd_ne (ne_of_none upd_same n2)]; exact upd_same), upd_same, (by show 16 ≤ sizeLine; decide), fun p3 n3 => ?_⟩⟩
  have sm3 : Same H (upd (upd (upd H p1 (.lst [V.str "lit 5", V.str "get 768", V.str "one:", V.str "go one", V.str "sleep", V.str "", V.str "keep 3", V.str "at 60", V.str "word 65535", V.str "call two", V.str "word two"])) p2 (.lst [V.str "half", V.str "put 512", V.str "ifz one", V.str "let 1", V.str "mark"])) p3 (.lst ([V.str "lit 5", V.str "get 768", V.str "one:", V.str "go one", V.str "sleep", V.str "", V.str "keep 3", V.str "at 60", V.str "word 65535", V.str "call two", V.str "word two"] ++ [V.str "half", V.str "put 512", V.str "ifz one", V.str "let 1", V.str "mark"]))) := ((same_upd' n1).trans (same_upd' n2)).trans (same_upd' n3)
  have h3 : (upd (upd (upd H p1 (.lst [V.str "lit 5", V.str "get 768", V.str "one:", V.str "go one", V.str "sleep", V.str "", V.str "keep 3", V.str "at 60", V.str "word 65535", V.str "call two", V.str "word two"])) p2 (.lst [V.str "half", V.str "put 512", V.str "ifz one", V.str "let 1", V.str "mark"])) p3 (.lst ([V.str "lit 5", V.str "get 768", V.str "one:", V.str "go one", V.str "sleep", V.str "", V.str "keep 3", V.str "at 60", V.str "word 65535", V.str "call two", V.str "word two"] ++ [V.str "half", V.str "put 512", V.str "ifz one", V.str "let 1", V.str "mark"]))) p3 = some (.lst ((someA ++ someB).map V.str)) := upd_same
  generalize (upd (upd (upd H p1 (.lst [V.str "lit 5", V.str "get 768", V.str "one:", V.str "go one", V.str "sleep", V.str "", V.str "keep 3", V.str "at 60", V.str "word 65535", V.str "call two", V.str "word two"])) p2 (.lst [V.str "half", V.str "put 512", V.str "ifz one", V.str "let 1", V.str "mark"])) p3 (.lst ([V.str "lit 5", V.str "get 768", V.str "one:", V.str "go one", V.str "sleep", V.str "", V.str "keep 3", V.str "at 60", V.str "word 65535", V.str "call two", V.str "word two"] ++ [V.str "half", V.str "put 512", V.str "ifz one", V.str "let 1", V.str "mark"]))) = H3 at sm3 h3 ⊢
  have hr3 := sm3.seq hr0
  obtain ⟨d20, e20, b20, c20⟩ := atN hd (j := 20) (by omega) (by omega)
  obtain ⟨d21, e21, b21, c21⟩ := atN hd (j := 21) (by omega) (by omega)
  have m0 := Int.emod_nonneg d20 (show (12 : Int) ≠ 0 by decide)
  have m1 := Int.emod_lt_of_pos d20 (show (0 : Int) < 12 by decide)
  refine ⟨_, rfl, r, _, 20, _, rfl, rfl, hr3, e20, _, _, rfl, rfl, (by show (0 : Int) < 12; decide), _, _, rfl, rfl, _, rfl, by omega, by omega, fun D nD => ?_⟩
  refine lc_range (lo := 0) (n := (2 + d20 % 12).toNat) (fun i H' => Same H3 H' ∧ ∃ xs : List Str, xs.length = i ∧ (∀ x ∈ xs, x.length ≤ 10) ∧ H' D = some (.lst (xs.map V.str)))
    ⟨same_upd' nD, [], rfl, (fun _ h => by cases h), upd_same⟩ ?_ ?_
  · rintro j H' hj ⟨sm4, xs, hxl, hxb, hD⟩
    obtain ⟨dj, ej, bj, cj⟩ := atN hd (j := 0 + (j : Int)) (by omega) (by omega)
    have k0 := Int.emod_nonneg dj (show (16 : Int) ≠ 0 by decide)
    have k1 := Int.emod_lt_of_pos dj (show (0 : Int) < 16 by decide)
    obtain ⟨y, hy, ey⟩ := atS (someA ++ someB) (j := dj % 16) k0 (by rw [some_size]; omega)
    refine ⟨rfl, ?_⟩
    refine ⟨_, rfl, _, rfl, _, rfl, r, _, _, _, rfl, rfl, sm4.seq hr3, ej, _, _, rfl, rfl, (by show (0 : Int) < 16; decide), p3, _, _, _, rfl, rfl, SqL.of (sm4 _ _ h3), ey, ?_⟩
    refine ⟨_, hD, ?_, same_of sm4 nD, xs ++ [y], ?_, ?_, ?_⟩
    · rw [List.length_map, hxl]
      exact small1000 (by omega)
    · rw [List.length_append, hxl]
      rfl
    · intro v hv
      rcases List.mem_append.mp hv with h | h
      · exact hxb v h
      · rw [List.mem_singleton.mp h]
        exact some_len y hy
    · rw [upd_same, List.map_append]
      rfl
  · rintro H4 ⟨sm4, xs, hxl, hxb, hD⟩
    have hxl13 : xs.length ≤ 13 := by omega
    refine ⟨_, rfl, D, _, rfl, .inl (SqL.of hD), ?_⟩
    rw [List.length_map]
    refine ⟨_, rfl, by omega, by omega, fun G nG => ?_⟩
    refine lc_range (lo := 0) (n := ((xs.length : Nat) : Int).toNat) (fun i H' => Same H4 H' ∧ ∃ ys : List Str, ys.length ≤ i ∧ (∀ y ∈ ys, y.length ≤ 10) ∧ H' G = some (.lst (ys.map V.str)))
      ⟨same_upd' nG, [], Nat.le_refl _, (fun _ h => by cases h), upd_same⟩ ?_ ?_
    · rintro j H' hj ⟨sm5, ys, hyl, hyb, hG⟩
      obtain ⟨y, hy, ey⟩ := atS xs (j := 0 + (j : Int)) (by omega) (by omega)
      have hD5 := SqL.of (K := K) (sm5 _ _ hD)
      have skip : Same H4 H' ∧ ∃ zs : List Str, zs.length ≤ j + 1 ∧ (∀ y ∈ zs, y.length ≤ 10) ∧ H' G = some (.lst (zs.map V.str)) := ⟨sm5, ys, by omega, hyb, hG⟩
      refine ⟨rfl, ?_⟩
      refine ⟨_, rfl, _, rfl, D, _, _, _, rfl, rfl, hD5, ey, rfl, _, rfl, ifN (fun h1 => ?_) (fun h1 => skip)⟩
      refine ⟨_, rfl, _, rfl, D, _, _, _, rfl, rfl, hD5, ey, rfl, _, rfl, ifN (fun h2 => ?_) (fun h2 => skip)⟩
      refine ⟨_, rfl, _, rfl, D, _, _, _, rfl, rfl, hD5, ey, ?_⟩
      refine ⟨_, hG, ?_, same_of sm5 nG, ys ++ [y], ?_, ?_, ?_⟩
      · rw [List.length_map]
        exact small1000 (by omega)
      · rw [List.length_append, List.length_singleton]
        omega
      · intro v hv
        rcases List.mem_append.mp hv with h | h
        · exact hyb v h
        · rw [List.mem_singleton.mp h]
          exact hxb y hy
      · rw [upd_same, List.map_append]
        rfl
    · rintro H5 ⟨sm5, ys, hyl, hyb, hG⟩
      rw [Int.toNat_natCast] at hyl
      have hr5 := sm5.seq (sm4.seq hr3)
      have nG0 : H G = none := (sm3.trans sm4).free nG
      have g0 := Int.emod_nonneg d21 (show ((ys.map V.str).length : Int) + 1 ≠ 0 by omega)
      have g1 := Int.emod_lt_of_pos d21 (show (0 : Int) < ((ys.map V.str).length : Int) + 1 by omega)
      have eL : (ys.map V.str).length = ys.length := List.length_map ..
      refine ⟨_, rfl, .inl ⟨rfl, _, SqL.of hG⟩, _, rfl, r, _, 21, _, rfl, rfl, hr5, e21, _, rfl, G, _, rfl, .inl (SqL.of hG), _, _, rfl, rfl, _, _, rfl, rfl, (by show (0 : Int) < ((ys.map V.str).length : Int) + 1; omega), G, _, _, _, rfl, rfl, hG, small1000 (by omega), g0, by omega, ?_⟩
      generalize (d21 % (((ys.map V.str).length : Int) + 1)).toNat = kk
      have sm6 : Same H (upd H5 G (.lst ((ys.map V.str).take kk ++ [.str "one:"] ++ (ys.map V.str).drop kk))) := same_of ((sm3.trans sm4).trans sm5) nG0
      refine ⟨_, rfl, (by show 2 ≤ sizeLine; decide), fun p5 n5 => ⟨G, p5, _, _, rfl, rfl, (by rw [upd_ne (ne_of_none upd_same n5)]; exact upd_same), upd_same, ?_, fun p6 n6 => ?_⟩⟩
      · refine Nat.le_of_lt (small1000 ?_)
        simp only [List.length_append, List.length_take, List.length_drop, List.length_map, List.length_cons, List.length_nil]
        omega
      refine q _ p6 (ys.take kk ++ [("one:" : Str)] ++ ys.drop kk ++ [("at 60" : Str), ("two:" : Str)]) ((sm6.trans (same_upd' n5)).trans (same_upd' n6)) ?_ ?_
      · rw [upd_same]
        simp only [List.map_append, List.map_take, List.map_drop, List.map_cons, List.map_nil]
      · refine Nat.le_trans (wt_le (n := 10) _ ?_) ?_
        · intro v hv
          have two : ∀ v ∈ (["one:", "at 60", "two:"] : List Str), v.length ≤ 10 := by decide +kernel
          rcases List.mem_append.mp hv with h | h
          · rcases List.mem_append.mp h with h | h
            · rcases List.mem_append.mp h with h | h
              · exact hyb v (List.mem_of_mem_take h)
              · exact two v (List.mem_cons.mpr (.inl (List.mem_singleton.mp h)))
            · exact hyb v (List.mem_of_mem_drop h)
          · exact two v (List.mem_cons_of_mem _ h)
        · simp only [List.length_append, List.length_take, List.length_drop, List.length_cons, List.length_nil]
          omega
end
end Bh

/-! The law's change of a text. -/
namespace Bh
open PySem PySem.Spec PyProof.Rows L2
open TL
theorem wt_app (a b : List Str) : wt (a ++ b) = wt a + wt b := by
  unfold wt
  rw [List.map_append, List.sum_append]
theorem wt_take (n : Nat) (a : List Str) : wt (a.take n) ≤ wt a := by
  have := wt_app (a.take n) (a.drop n)
  rw [List.take_append_drop] at this
  omega
theorem wt_drop (n : Nat) (a : List Str) : wt (a.drop n) ≤ wt a := by
  have := wt_app (a.take n) (a.drop n)
  rw [List.take_append_drop] at this
  omega
theorem cutT (xs : List Str) (lo hi : Option Int) : ∃ ys : List Str, cutV (xs.map V.str) lo hi = ys.map V.str ∧ wt ys ≤ wt xs := by
  unfold cutV
  rw [← List.map_drop, ← List.map_take]
  exact ⟨_, rfl, Nat.le_trans (wt_take _ _) (wt_drop _ _)⟩
theorem wt_len : ∀ xs : List Str, xs.length ≤ wt xs
  | [] => Nat.zero_le _
  | x :: r => by
    have ih := wt_len r
    unfold wt at ih ⊢
    rw [List.map_cons, List.sum_cons, List.length_cons]
    omega
theorem wt_sum : ∀ xs : List Str, (xs.map (·.length)).sum + xs.length = wt xs
  | [] => rfl
  | x :: r => by
    have ih := wt_sum r
    unfold wt at ih ⊢
    rw [List.map_cons, List.sum_cons, List.map_cons, List.sum_cons, List.length_cons]
    omega
theorem wt_split (x y : Str) (hy : tl y ≠ []) (hk : y.cps.all (· < 256) = true) : wt (Txt.split x y) ≤ x.length + 1 := by
  have key : ∀ (S l : List Nat) (k : Nat) (acc : List Nat), ((spl S k acc l).map fun r => r.length + 1).sum ≤ acc.length + l.length + 1 := by
    intro S l
    induction l with
    | nil =>
      intro k acc
      rw [spl_nil]
      show acc.length + 1 + 0 ≤ acc.length + 0 + 1
      omega
    | cons c r ih =>
      intro k acc
      cases k with
      | zero =>
        cases e : pre S (c :: r) with
        | true =>
          rw [spl_hit e, List.map_cons, List.sum_cons, List.length_cons]
          have := ih (S.length - 1) []
          rw [List.length_nil] at this
          omega
        | false =>
          rw [spl_miss e, List.length_cons]
          have := ih 0 (acc ++ [c])
          rw [List.length_append, List.length_singleton] at this
          omega
      | succ k =>
        have := ih k acc
        rw [List.length_cons]
        show ((spl S k acc r).map fun r => r.length + 1).sum ≤ _
        omega
  have e := split_spl x y hy (kind_ok hk)
  have q := key (tl y) (tl x) 0 []
  rw [← e, List.map_map] at q
  have e2 : ((fun r : List Nat => r.length + 1) ∘ tl) = fun r : Str => r.length + 1 := by
    funext r
    show (tl r).length + 1 = r.length + 1
    rw [len_tl]
  rw [e2, List.length_nil, ← len_tl] at q
  unfold wt
  omega
def oddA : List Str := ["one:", "at 3", "lit 1024", "lit 01", "lit  5", "lit 5 6", "go none", "half 3", "lit", "word 65536", "One:"]
def oddB : List Str := ["abcdefghi:", ":", "keep 513", "at 512", "at 513", "keep 500", "wait", " half", "half ", "lit -1", "x"]
theorem odd_len : ∀ x ∈ oddA ++ oddB, x.length ≤ 10 := by decide +kernel
theorem odd_size : (oddA ++ oddB).length = 22 := rfl
theorem app_len (a b : Str) : (a ++ b).length = a.length + b.length := by
  rw [len_tl, len_tl, len_tl, tl_append, List.length_append]
def signT : Str := " 0159:abeglmnoqtwxyzA-\n"
theorem sign_len : signT.length = 23 := by decide +kernel
section
variable {P : Program} {w : World} {K : PySem.W.Frag} {mg : Str → Option Value} {base : Heap} {aN aX C : Addr}
def spChg : Sp := fun vs H Q _ => ∃ (a : Addr) (xs : List Str) (way one oth : Int), vs = [.ref a, .int way, .int one, .int oth] ∧ H a = some (.lst (xs.map V.str)) ∧ xs ≠ [] ∧ wt xs ≤ 5000 ∧ 0 ≤ way ∧ way ≤ 9 ∧ 0 ≤ one ∧ one ≤ 1000000 ∧ 0 ≤ oth ∧ oth ≤ 1000000 ∧
  ∀ (H' : Hp) (t : Addr) (ys : List Str), Same H H' → H' t = some (.lst (ys.map V.str)) → wt ys ≤ 2 * wt xs + 11 → Q (.ref t) H'
def chgN : List Str := ["_law_rows", "_law_way", "_law_one", "_law_other", "_law_at", "_law_odd", "_law_signs", "_law_text_here"]
theorem scChg : FnScope chgN ["_law_rows", "_law_way", "_law_one", "_law_other"] (defScope sChanged) := ⟨rfl, rfl, rfl, by decide +kernel, rfl, by decide +kernel, by decide +kernel⟩
theorem ok_chg {f : Addr} {fd : FuncData} (F : Fun K "_law_changed" "_law_changed" sChanged f fd) (gl : mg "len" = none) (gi : mg "int" = none) : FnOk P w K mg base CX0 2 f fd ["_law_rows", "_law_way", "_law_one", "_law_other"] spChg := by
  refine F.ok scChg (fun vs H Q E h => by obtain ⟨a, xs, way, one, oth, rfl, _⟩ := h; rfl) (fun cdv A outer s H vs Q E hr h => ?_)
  obtain ⟨a, xs, way, one, oth, rfl, ha, hne, hwt, w0, w1, o0, o1, t0, t1, q⟩ := h
  refine ⟨_, pss_cons (ps_set (i := 4) scChg.nd rfl (.inl rfl) (pe_op op_mod (pv 2) (pe_callB call_len_seq (by rfl) gl PySem.boot_len (pa_cons (pv 0) pa_nil))))
    (pss_cons (ps_set (i := 5) scChg.nd rfl (.inl rfl) (pe_lst (pa_cons pe_str (pa_cons pe_str (pa_cons pe_str (pa_cons pe_str (pa_cons pe_str (pa_cons pe_str (pa_cons pe_str (pa_cons pe_str (pa_cons pe_str (pa_cons pe_str (pa_cons pe_str pa_nil)))))))))))))
    (pss_cons (ps_set (i := 5) scChg.nd rfl (.inl rfl) (pe_op op_cat (pv 5) (pe_lst (pa_cons pe_str (pa_cons pe_str (pa_cons pe_str (pa_cons pe_str (pa_cons pe_str (pa_cons pe_str (pa_cons pe_str (pa_cons pe_str (pa_cons pe_str (pa_cons pe_str (pa_cons pe_str pa_nil))))))))))))))
    (pss_cons (ps_if (pt_cmpR op_lt (pv 1) pe_int (nomark _)) (pss_one (ps_ret (pe_op op_cat (pe_op op_cat (pe_slice sl_list (pv 0) po_none (po_some (pv 4))) (pe_lst (pa_cons (pe_ix ix_list (pv 5) (pe_op op_mod (pv 3) pe_int) (fun _ _ => rfl)) pa_nil))) (pe_slice sl_list (pv 0) (po_some (pe_op op_add (pv 4) (pe_op op_mod (pv 1) pe_int))) po_none)))) pss_nil)
    (pss_cons (ps_if (pt_cmpR op_eq (pv 1) pe_int (nomark _)) (pss_one (ps_ret (pe_op op_cat (pe_slice sl_list (pv 0) po_none (po_some (pv 4))) (pe_slice sl_list (pv 0) (po_some (pe_op op_add (pv 4) pe_int)) po_none)))) pss_nil)
    (pss_cons (ps_if (pt_cmpR op_eq (pv 1) pe_int (nomark _)) (pss_one (ps_ret (pe_op op_cat (pe_slice sl_list (pv 0) po_none (po_some (pe_op op_add (pv 4) pe_int))) (pe_slice sl_list (pv 0) (po_some (pv 4)) po_none)))) pss_nil)
    (pss_cons (ps_set (i := 6) scChg.nd rfl (.inl rfl) pe_str)
    (pss_cons (ps_set (i := 7) scChg.nd rfl (.inl rfl) (pe_join pe_str (pv 0)))
    (pss_cons (ps_set (i := 4) scChg.nd rfl (.inl rfl) (pe_op op_mod (pv 2) (pe_op op_add (pe_callB call_len_str (by rfl) gl PySem.boot_len (pa_cons (pv 7) pa_nil)) pe_int)))
    (pss_cons (ps_set (i := 7) scChg.nd rfl (.inl rfl) (pe_op op_add_str (pe_op op_add_str (pe_slice sl_str (pv 7) po_none (po_some (pv 4)))
        (pe_ix ix_list (pe_lst (pa_cons pe_str (pa_cons (pe_item_str (pv 6) (pe_op op_mod (pv 3) (pe_callB call_len_str (by rfl) gl PySem.boot_len (pa_cons (pv 6) pa_nil))) (fun _ _ => rfl)) pa_nil))) (pe_callTy call_int1 (by rfl) gi (by decide +kernel) (pa_cons (pe_cmpR op_gt (pv 1) pe_int (nomark _)) pa_nil)) (fun _ _ => rfl)))
        (pe_slice sl_str (pv 7) (po_some (pe_op op_add (pv 4) (pe_callTy call_int1 (by rfl) gi (by decide +kernel) (pa_cons (pe_cmpR op_lt (pv 1) pe_int (nomark _)) pa_nil)))) po_none)))
    (pss_one (ps_ret (pe_split (pv 7) pe_str)))))))))))), ?_⟩
  have hlen : xs.length ≤ 5000 := Nat.le_trans (wt_len xs) hwt
  have hpos : 0 < xs.length := List.length_pos_iff.mpr hne
  have line : ∀ {n : Nat}, n ≤ 100000 → n ≤ sizeLine := fun h => fits_small h
  refine ⟨_, rfl, _, rfl, a, _, rfl, .inl (SqL.of ha), ?_⟩
  rw [List.length_map]
  refine ⟨_, _, rfl, rfl, (by show (0 : Int) < (xs.length : Int); omega), ?_⟩
  have m0 := Int.emod_nonneg one (show (xs.length : Int) ≠ 0 by omega)
  have m1 := Int.emod_lt_of_pos one (show (0 : Int) < (xs.length : Int) by omega)
  refine ⟨(by show 11 ≤ sizeLine; decide), fun p1 n1 => ?_⟩
  refine ⟨_, rfl, (by show 11 ≤ sizeLine; decide), fun p2 n2 => ⟨p1, p2, [V.str "one:", V.str "at 3", V.str "lit 1024", V.str "lit 01", V.str "lit  5", V.str "lit 5 6", V.str "go none", V.str "half 3", V.str "lit", V.str "word 65536", V.str "One:"], [V.str "abcdefghi:", V.str ":", V.str "keep 513", V.str "at 512", V.str "at 513", V.str "keep 500", V.str "wait", V.str " half", V.str "half ", V.str "lit -1", V.str "x"], rfl, rfl, (by rw [upd_ne (ne_of_none upd_same n2)]; exact upd_same), upd_same, (by show 22 ≤ sizeLine; decide), fun p3 n3 => ?_⟩⟩
  have sm3 : Same H (upd (upd (upd H p1 (.lst [V.str "one:", V.str "at 3", V.str "lit 1024", V.str "lit 01", V.str "lit  5", V.str "lit 5 6", V.str "go none", V.str "half 3", V.str "lit", V.str "word 65536", V.str "One:"])) p2 (.lst [V.str "abcdefghi:", V.str ":", V.str "keep 513", V.str "at 512", V.str "at 513", V.str "keep 500", V.str "wait", V.str " half", V.str "half ", V.str "lit -1", V.str "x"])) p3 (.lst ([V.str "one:", V.str "at 3", V.str "lit 1024", V.str "lit 01", V.str "lit  5", V.str "lit 5 6", V.str "go none", V.str "half 3", V.str "lit", V.str "word 65536", V.str "One:"] ++ [V.str "abcdefghi:", V.str ":", V.str "keep 513", V.str "at 512", V.str "at 513", V.str "keep 500", V.str "wait", V.str " half", V.str "half ", V.str "lit -1", V.str "x"]))) := ((same_upd' n1).trans (same_upd' n2)).trans (same_upd' n3)
  have h3 : (upd (upd (upd H p1 (.lst [V.str "one:", V.str "at 3", V.str "lit 1024", V.str "lit 01", V.str "lit  5", V.str "lit 5 6", V.str "go none", V.str "half 3", V.str "lit", V.str "word 65536", V.str "One:"])) p2 (.lst [V.str "abcdefghi:", V.str ":", V.str "keep 513", V.str "at 512", V.str "at 513", V.str "keep 500", V.str "wait", V.str " half", V.str "half ", V.str "lit -1", V.str "x"])) p3 (.lst ([V.str "one:", V.str "at 3", V.str "lit 1024", V.str "lit 01", V.str "lit  5", V.str "lit 5 6", V.str "go none", V.str "half 3", V.str "lit", V.str "word 65536", V.str "One:"] ++ [V.str "abcdefghi:", V.str ":", V.str "keep 513", V.str "at 512", V.str "at 513", V.str "keep 500", V.str "wait", V.str " half", V.str "half ", V.str "lit -1", V.str "x"]))) p3 = some (.lst ((oddA ++ oddB).map V.str)) := upd_same
  generalize (upd (upd (upd H p1 (.lst [V.str "one:", V.str "at 3", V.str "lit 1024", V.str "lit 01", V.str "lit  5", V.str "lit 5 6", V.str "go none", V.str "half 3", V.str "lit", V.str "word 65536", V.str "One:"])) p2 (.lst [V.str "abcdefghi:", V.str ":", V.str "keep 513", V.str "at 512", V.str "at 513", V.str "keep 500", V.str "wait", V.str " half", V.str "half ", V.str "lit -1", V.str "x"])) p3 (.lst ([V.str "one:", V.str "at 3", V.str "lit 1024", V.str "lit 01", V.str "lit  5", V.str "lit 5 6", V.str "go none", V.str "half 3", V.str "lit", V.str "word 65536", V.str "One:"] ++ [V.str "abcdefghi:", V.str ":", V.str "keep 513", V.str "at 512", V.str "at 513", V.str "keep 500", V.str "wait", V.str " half", V.str "half ", V.str "lit -1", V.str "x"]))) = H3 at sm3 h3 ⊢
  have ha3 := sm3 _ _ ha
  have hs3 : SqL K H3 a (xs.map V.str) := SqL.of ha3
  have two0 := Int.emod_nonneg way (show (2 : Int) ≠ 0 by decide)
  refine ⟨_, rfl, _, _, rfl, rfl, _, rfl, ifB (fun h4 => ?_) (fun h4 => ?_)⟩
  · obtain ⟨y1, e1, u1⟩ := cutT xs none (some (one % (xs.length : Int)))
    obtain ⟨y2, e2, u2⟩ := cutT xs (some ((one % (xs.length : Int)) + way % 2)) none
    have c1 : y1.length ≤ 5000 := Nat.le_trans (wt_len y1) (Nat.le_trans u1 hwt)
    have c2 : y2.length ≤ 5000 := Nat.le_trans (wt_len y2) (Nat.le_trans u2 hwt)
    have k0 := Int.emod_nonneg oth (show (22 : Int) ≠ 0 by decide)
    have k1 := Int.emod_lt_of_pos oth (show (0 : Int) < 22 by decide)
    obtain ⟨o, ho, eo⟩ := atS (oddA ++ oddB) (j := oth % 22) k0 (by rw [odd_size]; omega)
    refine ⟨_, rfl, _, rfl, _, rfl, a, _, rfl, hs3, fun p4 n4 => ?_⟩
    rw [e1]
    refine ⟨_, rfl, _, rfl, _, _, rfl, rfl, (by show (0 : Int) < 22; decide), p3, _, _, _, rfl, rfl, SqL.of (same_upd' n4 _ _ h3), eo, (by show 1 ≤ sizeLine; decide), fun p5 n5 => ?_⟩
    refine ⟨p4, p5, _, _, rfl, rfl, same_upd' n5 _ _ upd_same, upd_same, ?_, fun p6 n6 => ?_⟩
    · refine line ?_
      rw [List.length_map]
      show y1.length + 1 ≤ 100000
      omega
    have sm6 := ((same_upd' (o := .lst (y1.map V.str)) n4).trans (same_upd' (o := .lst [V.str o]) n5)).trans (same_upd' (o := .lst (y1.map V.str ++ [V.str o])) n6)
    refine ⟨_, rfl, _, rfl, _, rfl, _, _, rfl, rfl, (by show (0 : Int) < 2; decide), _, _, rfl, rfl, _, rfl, a, _, rfl, SqL.of (sm6 _ _ ha3), fun p7 n7 => ?_⟩
    rw [e2]
    refine ⟨p6, p7, _, _, rfl, rfl, same_upd' n7 _ _ upd_same, upd_same, ?_, fun p8 n8 => ?_⟩
    · refine line ?_
      rw [List.length_append, List.length_map, List.length_map]
      show y1.length + 1 + y2.length ≤ 100000
      omega
    refine q _ p8 (y1 ++ [o] ++ y2) (((sm3.trans sm6).trans (same_upd' n7)).trans (same_upd' n8)) ?_ ?_
    · rw [upd_same]
      simp only [List.map_append, List.map_cons, List.map_nil]
    · rw [wt_app, wt_app]
      have := odd_len o ho
      have w1 : wt [o] = o.length + 1 := rfl
      omega
  refine ⟨_, rfl, rfl, _, rfl, ifB (fun h5 => ?_) (fun h5 => ?_)⟩
  · obtain ⟨y1, e1, u1⟩ := cutT xs none (some (one % (xs.length : Int)))
    obtain ⟨y2, e2, u2⟩ := cutT xs (some ((one % (xs.length : Int)) + 1)) none
    have c1 : y1.length ≤ 5000 := Nat.le_trans (wt_len y1) (Nat.le_trans u1 hwt)
    have c2 : y2.length ≤ 5000 := Nat.le_trans (wt_len y2) (Nat.le_trans u2 hwt)
    refine ⟨_, rfl, _, rfl, _, rfl, a, _, rfl, hs3, fun p4 n4 => ?_⟩
    rw [e1]
    have sm4 := same_upd' (o := .lst (y1.map V.str)) n4
    refine ⟨_, rfl, _, rfl, _, _, rfl, rfl, _, rfl, a, _, rfl, SqL.of (sm4 _ _ ha3), fun p7 n7 => ?_⟩
    rw [e2]
    refine ⟨p4, p7, _, _, rfl, rfl, same_upd' n7 _ _ upd_same, upd_same, ?_, fun p8 n8 => ?_⟩
    · refine line ?_
      rw [List.length_map, List.length_map]
      omega
    refine q _ p8 (y1 ++ y2) (((sm3.trans sm4).trans (same_upd' n7)).trans (same_upd' n8)) ?_ ?_
    · rw [upd_same, List.map_append]
    · rw [wt_app]
      omega
  refine ⟨_, rfl, rfl, _, rfl, ifB (fun h6 => ?_) (fun h6 => ?_)⟩
  · obtain ⟨y1, e1, u1⟩ := cutT xs none (some ((one % (xs.length : Int)) + 1))
    obtain ⟨y2, e2, u2⟩ := cutT xs (some (one % (xs.length : Int))) none
    have c1 : y1.length ≤ 5000 := Nat.le_trans (wt_len y1) (Nat.le_trans u1 hwt)
    have c2 : y2.length ≤ 5000 := Nat.le_trans (wt_len y2) (Nat.le_trans u2 hwt)
    refine ⟨_, rfl, _, rfl, _, _, rfl, rfl, _, rfl, a, _, rfl, hs3, fun p4 n4 => ?_⟩
    rw [e1]
    have sm4 := same_upd' (o := .lst (y1.map V.str)) n4
    refine ⟨_, rfl, _, rfl, _, rfl, a, _, rfl, SqL.of (sm4 _ _ ha3), fun p7 n7 => ?_⟩
    rw [e2]
    refine ⟨p4, p7, _, _, rfl, rfl, same_upd' n7 _ _ upd_same, upd_same, ?_, fun p8 n8 => ?_⟩
    · refine line ?_
      rw [List.length_map, List.length_map]
      omega
    refine q _ p8 (y1 ++ y2) (((sm3.trans sm4).trans (same_upd' n7)).trans (same_upd' n8)) ?_ ?_
    · rw [upd_same, List.map_append]
    · rw [wt_app]
      omega
  have hsum := wt_sum xs
  refine ⟨⟨_, rfl⟩, _, rfl, ?_⟩
  refine ⟨_, a, xs, rfl, rfl, .inl hs3, ?_, ?_⟩
  · have : (("\n" : Str)).length = 1 := rfl
    rw [this]
    omega
  have hj := StrLaws.join_length_le ("\n" : Str) xs
  rw [← join_eq] at hj
  have h1 : (("\n" : Str)).length = 1 := rfl
  rw [h1] at hj
  have hT : (Txt.join "\n" xs).length ≤ wt xs := by omega
  clear hj
  generalize Txt.join "\n" xs = T at hT ⊢
  have hT5 : T.length ≤ 5000 := Nat.le_trans hT hwt
  refine ⟨_, rfl, _, rfl, _, rfl, line (by omega), _, _, rfl, rfl, _, _, rfl, rfl, (by show (0 : Int) < (T.length : Int) + 1; omega), ?_⟩
  have g0 := Int.emod_nonneg oth (show (23 : Int) ≠ 0 by decide)
  have g1 := Int.emod_lt_of_pos oth (show (0 : Int) < 23 by decide)
  obtain ⟨c0, hc0⟩ : ∃ c0, signT.cps[(oth % 23).toNat]? = some c0 := ⟨_, Array.getElem?_eq_getElem (by
    have e : signT.cps.size = 23 := sign_len
    omega)⟩
  have cl1 := cutS_length T none (some (one % ((T.length : Int) + 1)))
  refine ⟨_, rfl, _, rfl, _, rfl, _, rfl, line (by omega), ?_⟩
  refine ⟨_, rfl, _, rfl, _, rfl, _, rfl, (by rw [show (" 0159:abeglmnoqtwxyzA-\n" : Str).length = 23 from sign_len]; exact line (by decide)), ?_⟩
  refine ⟨_, _, rfl, rfl, (by show (0 : Int) < ((" 0159:abeglmnoqtwxyzA-\n" : Str).length : Int); rw [show (" 0159:abeglmnoqtwxyzA-\n" : Str).length = 23 from sign_len]; decide), ?_⟩
  rw [show (" 0159:abeglmnoqtwxyzA-\n" : Str).length = 23 from sign_len]
  refine ⟨_, _, c0, rfl, rfl, g0, by show oth % 23 < 2 ^ 63; omega, (by rw [show (" 0159:abeglmnoqtwxyzA-\n" : Str).length = 23 from sign_len]; exact g1), hc0, (by show 2 ≤ sizeLine; decide), fun p4 n4 => ?_⟩
  obtain ⟨j, mid, hj1, hj2, hm⟩ : ∃ (j : Nat) (mid : Str), (if decide ((6 : Int) < way) = true then (1 : Int) else 0) = (j : Int) ∧ [V.str "", V.str ⟨#[c0]⟩][j]? = some (.str mid) ∧ mid.length ≤ 1 := by
    by_cases hw : (6 : Int) < way
    · exact ⟨1, _, if_pos (decide_eq_true hw), rfl, Nat.le_refl _⟩
    · exact ⟨0, _, if_neg (by rw [decide_eq_false hw]; exact Bool.false_ne_true), rfl, Nat.zero_le _⟩
  refine ⟨_, rfl, _, _, rfl, rfl, .inr ⟨_, rfl, ?_⟩⟩
  refine ⟨p4, _, (j : Int), .str mid, rfl, congrArg V.int hj1, SqL.of upd_same, atI_nat (j := j) hj2, ?_⟩
  refine ⟨_, _, rfl, rfl, line (by omega), ?_⟩
  refine ⟨_, rfl, _, rfl, _, rfl, _, _, rfl, rfl, .inr ⟨_, rfl, ?_⟩⟩
  refine ⟨_, _, rfl, rfl, _, rfl, _, rfl, line (by omega), ?_⟩
  have cl2 := cutS_length T (some (one % ((T.length : Int) + 1) + if decide (way < 8) = true then 1 else 0)) none
  have al : (cutS T none (some (one % ((T.length : Int) + 1))) ++ mid).length = (cutS T none (some (one % ((T.length : Int) + 1)))).length + mid.length := app_len _ _
  refine ⟨_, _, rfl, rfl, line (by omega), ?_⟩
  have hend : ((cutS T none (some (one % ((T.length : Int) + 1))) ++ mid) ++ cutS T (some (one % ((T.length : Int) + 1) + if decide (way < 8) = true then 1 else 0)) none).length ≤ 2 * T.length + 1 := by
    rw [app_len, al]
    omega
  generalize ((cutS T none (some (one % ((T.length : Int) + 1))) ++ mid) ++ cutS T (some (one % ((T.length : Int) + 1) + if decide (way < 8) = true then 1 else 0)) none) = T2 at hend ⊢
  refine ⟨_, rfl, ⟨_, rfl⟩, _, _, rfl, rfl, rfl, line (by omega), fun p5 n5 => ?_⟩
  have hw := wt_split T2 "\n" (by decide +kernel) (by decide +kernel)
  refine q _ p5 (Txt.split T2 "\n") ((sm3.trans (same_upd' n4)).trans (same_upd' n5)) upd_same (by omega)
end
end Bh

/-! The law. -/
namespace Bh
open PySem PySem.Spec PyProof.Rows L2
open TL
/-! ### what a sheet never loses -/
def Good (s : Sh) : Prop := s.words.length ≤ 512 ∧ (s.names.map (·.1)).Nodup
theorem good_lay {w m : Int} {s : Sh} (h : Good s) (hm : 0 ≤ m) : Good (layM w m s).2 := by
  refine ⟨lay_len h.1 hm, ?_⟩
  unfold layM
  split
  · exact h.2
  · exact h.2
theorem good_name {x : Str} {s : Sh} (h : Good s) : Good (nameM x s).2 := by
  unfold nameM
  by_cases c : isNm x = false ∨ hasN s.names x = true
  · rw [if_pos c]
    exact h
  · rw [if_neg c]
    refine ⟨h.1, ?_⟩
    show ((s.names ++ [(x, (s.words.length : Int))]).map (·.1)).Nodup
    rw [List.map_append, List.nodup_append]
    refine ⟨h.2, by simp, fun y hy z hz e => ?_⟩
    have hz' : z = x := by simpa using hz
    rw [e, hz'] at hy
    exact c (.inr (hasN_mem.mpr hy))
theorem good_bare {x : Str} {s : Sh} (h : Good s) : Good (bareM x s).2 := by
  unfold bareM
  by_cases c : x ∉ opN ∨ x ∈ opX
  · rw [if_pos c]
    exact h
  · rw [if_neg c]
    exact good_lay h (by decide)
theorem good_worth {i b : Int} {p : Str} {m : Int} {s : Sh} (h : Good s) : Good (worthM i b p m s).2 := by
  unfold worthM
  by_cases c : isNm p = true
  · rw [if_pos c]
    exact good_lay (s := { s with uses := s.uses ++ [(i, (s.words.length : Int), p)] }) h (by decide)
  · rw [if_neg c]
    cases e : numOf p with
    | none => exact h
    | some n =>
      show Good (if n > m then (false, s) else layM (b + n) 1 s).2
      by_cases c2 : n > m
      · rw [if_pos c2]
        exact h
      · rw [if_neg c2]
        exact good_lay h (by decide)
theorem good_pair {i : Int} {a b : Str} {s : Sh} (h : Good s) : Good (pairM i a b s).2 := by
  unfold pairM
  by_cases c1 : a = ("at" : Str)
  · rw [if_pos c1]
    unfold atM
    cases e : numOf b with
    | none => exact h
    | some n =>
      show Good (if n < (s.words.length : Int) then (false, s) else layM 65535 (n - s.words.length) s).2
      by_cases c2 : n < (s.words.length : Int)
      · rw [if_pos c2]
        exact h
      · rw [if_neg c2]
        exact good_lay h (by omega)
  rw [if_neg c1]
  by_cases c2 : a = ("keep" : Str)
  · rw [if_pos c2]
    unfold keepM
    cases e : numOf b with
    | none => exact h
    | some n => exact good_lay h (numOf_nonneg e)
  rw [if_neg c2]
  by_cases c3 : a = ("word" : Str)
  · rw [if_pos c3]
    exact good_worth h
  rw [if_neg c3]
  by_cases c4 : a ∈ opX
  · rw [if_pos c4]
    exact good_worth h
  · rw [if_neg c4]
    exact h
theorem good_take {i : Int} {r : Str} {s : Sh} (h : Good s) : Good (takeM i r s).2 := by
  unfold takeM
  by_cases c1 : r = ("" : Str)
  · rw [if_pos c1]
    exact h
  rw [if_neg c1]
  by_cases c2 : Txt.endswith r ":" = true
  · rw [if_pos c2]
    exact good_name h
  rw [if_neg c2]
  generalize Txt.split r " " = ps
  match ps with
  | [] => exact h
  | [_] => exact good_bare h
  | [a, b] => exact good_pair h
  | _ :: _ :: _ :: _ => exact h
theorem good_run : ∀ (rs : List Str) (i : Int) (s s' : Sh), Good s → runE i rs s = .ok s' → Good s'
  | [], i, s, s', h, e => by
    cases e
    exact h
  | r :: rs, i, s, s', h, e => by
    rw [runE_cons] at e
    by_cases c : (takeM i r s).1 = true
    · rw [if_pos c] at e
      exact good_run rs (i + 1) _ s' (good_take h) e
    · rw [if_neg c] at e
      cases e
theorem due_good {x : Str} {ws : List Int} {ns : List (Str × Int)} (h : dueM x = .ok (ws, ns)) : ws.length ≤ 512 ∧ (ns.map (·.1)).Nodup := by
  unfold dueM at h
  cases e : runE 0 (Txt.split x "\n") sh0 with
  | error i =>
    rw [e] at h
    cases h
  | ok s =>
    rw [e] at h
    have h' : (match putE s.names s.uses s.words with | .error i => Except.error i | .ok ws => .ok (ws, s.names)) = .ok (ws, ns) := h
    cases e2 : putE s.names s.uses s.words with
    | error i =>
      rw [e2] at h'
      cases h'
    | ok ws' =>
      rw [e2] at h'
      have h2 := Except.ok.inj h'
      have h3 : ws' = ws := congrArg Prod.fst h2
      have h4 : s.names = ns := congrArg Prod.snd h2
      have g := good_run _ 0 sh0 s ⟨Nat.zero_le _, by simp [sh0]⟩ e
      have l := put_len _ _ _ _ e2
      rw [← h3, ← h4, l]
      exact g
/-! ### told and due, held against each other -/
theorem pair_ints {K : PySem.W.Frag} {H : Hp} : ∀ ws : List Int, Paired (EqV K H 1) (ws.map V.int) (ws.map V.int)
  | [] => .nil
  | n :: r => .cons (.inl ⟨rfl, rfl⟩) (pair_ints r)
theorem told_due {K : PySem.W.Frag} {H : Hp} {t u : Addr} {r : Except Int (List Int × List (Str × Int))} (hn : ∀ ws ns, r = .ok (ws, ns) → (ns.map (·.1)).Nodup) (ht : ToldAt H t r) (hu : ToldAt H u r) : ∃ xs ys, SqT K H t xs ∧ SqT K H u ys ∧ Paired (EqV K H 2) xs ys := by
  match r, hn, ht, hu with
  | .error i, _, ht, hu => exact ⟨_, _, SqT.of ht, SqT.of hu, .cons (.inl ⟨rfl, rfl⟩) (.cons (.inl ⟨rfl, rfl⟩) .nil)⟩
  | .ok (ws, ns), hn, ⟨_, a, b, h1, h2, h3⟩, ⟨_, c, d, k1, k2, k3⟩ =>
    have hnd := hn ws ns rfl
    refine ⟨_, _, SqT.of h1, SqT.of k1, .cons (.inl ⟨rfl, rfl⟩) (.cons (.inr (.inr (.inl ⟨a, c, _, _, rfl, rfl, SqL.of h2, SqL.of k2, pair_ints ws⟩)))
      (.cons (.inr (.inr (.inr ⟨b, d, _, _, rfl, rfl, h3, k3, rfl, fun p hp => ?_⟩))) .nil))⟩
    obtain ⟨q, hq, rfl⟩ := List.mem_map.mp hp
    refine ⟨.int q.2, ?_, .inl ⟨rfl, rfl⟩⟩
    show valV (nmK ns) (Sum.inr q.1) = some (.int q.2)
    rw [valV_look, look_nodup hnd q hq]
    rfl
theorem ToldAt.same {H H' : Hp} {t : Addr} {r : Except Int (List Int × List (Str × Int))} (h : ToldAt H t r) (sm : Same H H') : ToldAt H' t r := by
  match r, h with
  | .error i, h => exact sm _ _ h
  | .ok (ws, ns), ⟨l, a, b, h1, h2, h3⟩ => exact ⟨l, a, b, sm _ _ h1, sm _ _ h2, sm _ _ h3⟩
/-! ### lists of texts -/
theorem plain_strs : ∀ ns : List Str, PyData.plainAll (ns.map PyData.str) = true
  | [] => rfl
  | n :: r => by
    show (PyData.plain (.str n) && PyData.plainAll (r.map PyData.str)) = true
    rw [plain_strs r]
    rfl
theorem dep_strs : ∀ ns : List Str, PyData.depthAll (ns.map PyData.str) ≤ 1
  | [] => by decide
  | n :: r => by
    have ih := dep_strs r
    show max (PyData.depth (.str n)) (PyData.depthAll (r.map PyData.str)) ≤ 1
    exact Nat.max_le.mpr ⟨Nat.zero_le _, ih⟩
theorem dp_strs {K : PySem.W.Frag} {H : Hp} : ∀ ns : List Str, DpAll K H (ns.map V.str) (ns.map PyData.str)
  | [] => .nil
  | n :: r => .cons (.str n) (dp_strs r)
/-- xs != ys, lists of texts -/
def rNeS : R2 := fun x y H Q => ∃ (a b : Addr) (xs ys : List Str), x = .ref a ∧ y = .ref b ∧ H a = some (.lst (xs.map V.str)) ∧ H b = some (.lst (ys.map V.str)) ∧ Q (.bl (!PyData.eqv (.list (xs.map PyData.str)) (.list (ys.map PyData.str)))) H
theorem op_neS {X : Cx} (hu : X.A.units + 64 < cLine) : OpR X (compareOp .NotEq) rNeS := by
  intro pins s σ H x y v u Q I rx ry h
  obtain ⟨a, b, xs, ys, rfl, rfl, ha, hb, q⟩ := h
  obtain ⟨as, r1⟩ := Dp.reads I (.list (xs.map PyData.str)) (.ref a) v (.lst (SqL.of ha) (dp_strs xs)) rx
  obtain ⟨bs, r2⟩ := Dp.reads I (.list (ys.map PyData.str)) (.ref b) u (.lst (SqL.of hb) (dp_strs ys)) ry
  refine PySem.SeqAt.ne_plain r1 r2 (plain_strs xs) (plain_strs ys) ?_ ⟨.bl _, H, I, rfl, q⟩
  have h1 := dep_strs xs
  show X.A.units + min (PyData.depthAll (xs.map PyData.str) + 1) (PyData.depthAll (ys.map PyData.str) + 1) < cLine
  omega
theorem eqv_nil : PyData.eqv (.list ([] : List PyData)) (.list []) = true := SeqAt.eqv_refl _ rfl
section
variable {P : Program} {w : World} {K : PySem.W.Frag} {mg : Str → Option Value} {base : Heap} {aN aX C : Addr}
def lawN : List Str := ["_law_script", "_law_cells", "_law_cell_here", "_law_row", "_law_rows", "_law_k", "_law_text_here"]
theorem scLaw : FnScope lawN ["_law_script"] (defScope sLaw) := ⟨rfl, rfl, rfl, by decide +kernel, rfl, by decide +kernel, by decide +kernel⟩
theorem ok_law {f fD fX fG fT fU : Addr} {fd fdD fdX fdG fdT fdU : FuncData} (F : Fun K "law" "law" sLaw f fd) (D : CalF P w K mg base 2 "_law_digits" ["_law_cell_here", "_law_many"] spDig fD fdD)
    (TX : CalF P w K mg base 2 "_law_text" ["_law_row"] (spText K) fX fdX) (CG : CalF P w K mg base 2 "_law_changed" ["_law_rows", "_law_way", "_law_one", "_law_other"] spChg fG fdG)
    (TO : CalF P w K mg base 7 "_law_told" ["_law_text_here"] spTold fT fdT) (DU : CalF P w K mg base 4 "_law_due" ["_law_text_here"] spDue fU fdU) (gr : mg "range" = none) : FnOk P w K mg base CX0 8 f fd ["_law_script"] (spLaw K) := by
  refine F.ok scLaw (fun vs H Q E h => by obtain ⟨a, ns, rfl, _⟩ := h; rfl) (fun cdv A outer s H vs Q E hr h => ?_)
  obtain ⟨a, ns, rfl, hS, hlen, k⟩ := h
  have hr1 : Room 2 _ := hr.mono (by decide)
  have hr3 : Room 4 _ := hr.mono (by decide)
  have hu := hr.units
  refine ⟨_, pss_cons (ps_set (i := 1) scLaw.nd rfl (.inl rfl) (pe_slice sl_list (pv 0) po_none (po_some pe_int)))
    (pss_cons (ps_if (pt_cmpR (op_eqD hu) (pv 1) (pe_lst pa_nil) (nomark _)) (pss_one (ps_set (i := 1) scLaw.nd rfl (.inl rfl) (pe_lst (pa_cons pe_int (pa_cons pe_int (pa_cons pe_int pa_nil)))))) pss_nil)
    (pss_cons (ps_for PassesOwn.never rfl (pi_list (pv 1)) (pg_name (i := 2) scLaw.nd rfl (.inl rfl))
      (pss_cons (ps_set (i := 3) scLaw.nd rfl (.inl rfl) (pe_call D.G hr1 (by rfl) D.g D.kp D.b .nil pass0 (pa_cons (pv 2) (pa_cons pe_int pa_nil))))
      (pss_cons (ps_set (i := 4) scLaw.nd rfl (.inl rfl) (pe_call TX.G hr1 (by rfl) TX.g TX.kp TX.b .nil pass0 (pa_cons (pv 3) pa_nil)))
      (pss_cons (ps_for PassesOwn.never rfl (pi_range1 (by rfl) gr (pa_cons (pe_op op_mod (pe_ix ix_list (pv 3) pe_int (fun _ _ => rfl)) pe_int) pa_nil)) (pg_name (i := 5) scLaw.nd rfl (.inl rfl))
        (pss_one (ps_if (pt_cmpR (op_neS hu) (pv 4) (pe_lst pa_nil) (nomark _))
          (pss_one (ps_set (i := 4) scLaw.nd rfl (.inl rfl) (pe_call CG.G hr1 (by rfl) CG.g CG.kp CG.b .nil pass0 (pa_cons (pv 4) (pa_cons (pe_op op_mod (pe_ix ix_list (pv 3) (pe_op op_add pe_int (pv 5)) (fun _ _ => rfl)) pe_int)
            (pa_cons (pe_op op_add (pe_op op_mul (pe_ix ix_list (pv 3) (pe_op op_add pe_int (pv 5)) (fun _ _ => rfl)) pe_int) (pe_ix ix_list (pv 3) (pe_op op_add pe_int (pv 5)) (fun _ _ => rfl))) (pa_cons (pe_ix ix_list (pv 3) (pe_op op_add pe_int (pv 5)) (fun _ _ => rfl)) pa_nil))))))) pss_nil)))
      (pss_cons (ps_set (i := 6) scLaw.nd rfl (.inl rfl) (pe_join pe_str (pv 4)))
      (pss_one (ps_if (pt_cmpR (op_neT hu) (pe_call TO.G hr (by rfl) TO.g TO.kp TO.b .nil pass0 (pa_cons (pv 6) pa_nil)) (pe_call DU.G hr3 (by rfl) DU.g DU.kp DU.b .nil pass0 (pa_cons (pv 6) pa_nil)) (nomark _)) (pss_one (ps_ret pe_bl)) pss_nil)))))))
    (pss_one (ps_ret pe_bl)))), ?_⟩
  obtain ⟨ms, ems, hms⟩ := cut_ints ns none (some 8)
  refine ⟨_, rfl, _, rfl, a, _, rfl, hS, fun c nc => ?_⟩
  rw [ems]
  have hc0 : SqL K (upd H c (.lst (ms.map V.int))) c (ms.map V.int) := .inl (.inl upd_same)
  refine ⟨_, rfl, Nat.zero_le _, fun e0 ne0 => ?_⟩
  have hc1 : SqL K (upd (upd H c (.lst (ms.map V.int))) e0 (.lst [])) c (ms.map V.int) := (same_upd' ne0).seq hc0
  refine ⟨_, _, .lst hc1 (dp_ints ms), .lst (.inl (.inl upd_same)) .nil, shaped_ints ms, shaped_ints [], _, rfl, ifB (fun _ => ⟨(by show 3 ≤ sizeLine; decide), fun ca nca => ?_⟩) (fun _ => ?_)⟩
  · obtain ⟨ms', hca⟩ : ∃ ms' : List Int, SqL K (upd (upd (upd H c (.lst (ms.map V.int))) e0 (.lst [])) ca (.lst [.int 4, .int 19, .int 300])) ca (ms'.map V.int) := ⟨[4, 19, 300], .inl (.inl upd_same)⟩
    refine ⟨_, rfl, ca, rfl, ⟨_, hca⟩, ?_⟩
    refine for_list (K := K) (a := ca) (xs := ms'.map V.int) (fun i σ H' => SqL K H' ca (ms'.map V.int) ∧ ∃ y2 y3 y4 y5 y6 : Option V, σ = [some (.ref a), some (.ref ca), y2, y3, y4, y5, y6]) ⟨hca, none, none, none, none, none, rfl⟩ (fun _ _ _ _ h => h.1) ?_ ?_
    · rintro i v σ H1 hi ⟨hca, y2, y3, y4, y5, y6, rfl⟩
      obtain ⟨cell, _, rfl⟩ : ∃ n, ms'[i]? = some n ∧ V.int n = v := by
        rw [List.getElem?_map] at hi
        cases e : ms'[i]? with
        | none => rw [e] at hi; cases hi
        | some n => rw [e] at hi; exact ⟨n, rfl, Option.some.inj hi⟩
      refine ⟨_, rfl, cell, 40, rfl, by decide, fun H2 pd ds hl hd sm2 npd hpd => ?_⟩
      refine ⟨_, rfl, pd, ds, rfl, SqL.of hpd, hl, hd, fun H3 rr xs sm3 hrr hw => ?_⟩
      have hp3 : SqL K H3 pd (ds.map V.int) := SqL.of (sm3 _ _ hpd)
      obtain ⟨d30, e30, b30, c30⟩ := atN hd (j := 30) (by omega) (by omega)
      have m0 := Int.emod_nonneg d30 (show (3 : Int) ≠ 0 by decide)
      have m1 := Int.emod_lt_of_pos d30 (show (0 : Int) < 3 by decide)
      refine ⟨_, rfl, pd, _, 30, _, rfl, rfl, hp3, e30, _, _, rfl, rfl, (by show (0 : Int) < 3; decide), _, rfl, by omega, by omega, ?_⟩
      refine for_range (lo := 0) (n := (d30 % 3).toNat) (fun i σ H' => Same H3 H' ∧ ∃ (q : Addr) (ys : List Str) (z5 : Option V), σ = [some (.ref a), some (.ref ca), some (.int cell), some (.ref pd), some (.ref q), z5, y6] ∧ H' q = some (.lst (ys.map V.str)) ∧ wt ys + 11 ≤ 411 * 2 ^ i)
        ⟨Same.refl _, rr, xs, _, rfl, hrr, by omega⟩ ?_ ?_
      · rintro j σ H4 hj ⟨sm4, q, ys, z5, rfl, hq, hw4⟩
        have hj2 : j < 2 := by omega
        have hpow : 2 ^ j ≤ 2 ^ 1 := Nat.pow_le_pow_right (by decide) (by omega)
        have hpow' : (2 : Nat) ^ 1 = 2 := rfl
        have hs : 2 ^ (j + 1) = 2 ^ j * 2 := Nat.pow_succ ..
        refine ⟨_, rfl, Nat.zero_le _, fun e ne => ⟨q, e, ys, [], rfl, rfl, same_upd' ne _ _ hq, upd_same, _, rfl, ifN (fun h1 => ?_) (fun h1 => ?_)⟩⟩
        · have hne : ys ≠ [] := fun e2 => by
            rw [e2] at h1
            have := eqv_nil
            rw [show ([] : List Str).map PyData.str = [] from rfl, this] at h1
            cases h1
          have sm5 := sm4.trans (same_upd' (o := .lst []) ne)
          have hp5 := sm5.seq hp3
          have hq5 := same_upd' (o := .lst []) ne _ _ hq
          obtain ⟨w1, e1, b1, c1⟩ := atN hd (j := 31 + (0 + (j : Int))) (by omega) (by omega)
          obtain ⟨w2, e2, b2, c2⟩ := atN hd (j := 33 + (0 + (j : Int))) (by omega) (by omega)
          obtain ⟨w3, e3, b3, c3⟩ := atN hd (j := 35 + (0 + (j : Int))) (by omega) (by omega)
          obtain ⟨w4, e4, b4, c4⟩ := atN hd (j := 37 + (0 + (j : Int))) (by omega) (by omega)
          have g0 := Int.emod_nonneg w1 (show (10 : Int) ≠ 0 by decide)
          have g1 := Int.emod_lt_of_pos w1 (show (0 : Int) < 10 by decide)
          refine ⟨_, rfl, _, rfl, _, rfl, _, _, rfl, rfl, pd, _, _, _, rfl, rfl, hp5, e1, _, _, rfl, rfl, (by show (0 : Int) < 10; decide), ?_⟩
          refine ⟨_, rfl, _, rfl, _, _, rfl, rfl, pd, _, _, _, rfl, rfl, hp5, e2, _, _, rfl, rfl, .inr ⟨by decide, by decide⟩, ?_⟩
          refine ⟨_, rfl, _, rfl, _, _, rfl, rfl, pd, _, _, _, rfl, rfl, hp5, e3, _, _, rfl, rfl, ?_⟩
          refine ⟨_, rfl, _, rfl, _, _, rfl, rfl, pd, _, _, _, rfl, rfl, hp5, e4, ?_⟩
          refine ⟨q, ys, _, _, _, rfl, hq5, hne, by omega, g0, by omega, by omega, by omega, by omega, by omega, fun H6 q2 zs sm6 hq2 hw6 => ?_⟩
          exact ⟨sm5.trans sm6, q2, zs, _, rfl, hq2, by omega⟩
        · exact ⟨sm4.trans (same_upd' ne), q, ys, _, rfl, same_upd' ne _ _ hq, by omega⟩
      · rintro σ H4 ⟨sm4, q, ys, z5, rfl, hq, hw4⟩
        have hpow : 2 ^ (d30 % 3).toNat ≤ 2 ^ 2 := Nat.pow_le_pow_right (by decide) (by omega)
        have hpow' : (2 : Nat) ^ 2 = 4 := rfl
        have hsum := wt_sum ys
        have hw5 : wt ys ≤ 1644 := by omega
        have h1 : (("\n" : Str)).length = 1 := rfl
        refine ⟨⟨_, rfl⟩, _, rfl, ?_⟩
        refine ⟨_, q, ys, rfl, rfl, .inl (SqL.of hq), ?_, ?_⟩
        · rw [h1]
          omega
        have hjl := StrLaws.join_length_le ("\n" : Str) ys
        rw [← join_eq, h1] at hjl
        have hT : (Txt.join "\n" ys).length ≤ 80000 := by omega
        clear hjl
        generalize Txt.join "\n" ys = T at hT ⊢
        refine ⟨_, rfl, T, rfl, hT, (fun ws ns h => (due_good h).1), fun H7 t sm7 nt ht => ⟨_, rfl, T, rfl, hT, fun H8 u sm8 nu hu8 => ?_⟩⟩
        obtain ⟨xs', ys', k1, k2, kp⟩ := told_due (K := K) (fun ws ns e => (due_good e).2) (ht.same sm8) hu8
        refine ⟨t, u, xs', ys', 2, rfl, rfl, k1, k2, by decide, kp, _, rfl, ?_⟩
        exact ⟨(((((sm2.trans sm3).trans sm4).trans sm7).trans sm8)).seq hca, _, _, _, _, _, rfl⟩
    · intro σ H' _
      exact k _
  · refine ⟨_, rfl, c, rfl, ⟨_, hc1⟩, ?_⟩
    refine for_list (K := K) (a := c) (xs := ms.map V.int) (fun i σ H' => SqL K H' c (ms.map V.int) ∧ ∃ y2 y3 y4 y5 y6 : Option V, σ = [some (.ref a), some (.ref c), y2, y3, y4, y5, y6]) ⟨hc1, none, none, none, none, none, rfl⟩ (fun _ _ _ _ h => h.1) ?_ ?_
    · rintro i v σ H1 hi ⟨hca, y2, y3, y4, y5, y6, rfl⟩
      obtain ⟨cell, _, rfl⟩ : ∃ n, ms[i]? = some n ∧ V.int n = v := by
        rw [List.getElem?_map] at hi
        cases e : ms[i]? with
        | none => rw [e] at hi; cases hi
        | some n => rw [e] at hi; exact ⟨n, rfl, Option.some.inj hi⟩
      refine ⟨_, rfl, cell, 40, rfl, by decide, fun H2 pd ds hl hd sm2 npd hpd => ?_⟩
      refine ⟨_, rfl, pd, ds, rfl, SqL.of hpd, hl, hd, fun H3 rr xs sm3 hrr hw => ?_⟩
      have hp3 : SqL K H3 pd (ds.map V.int) := SqL.of (sm3 _ _ hpd)
      obtain ⟨d30, e30, b30, c30⟩ := atN hd (j := 30) (by omega) (by omega)
      have m0 := Int.emod_nonneg d30 (show (3 : Int) ≠ 0 by decide)
      have m1 := Int.emod_lt_of_pos d30 (show (0 : Int) < 3 by decide)
      refine ⟨_, rfl, pd, _, 30, _, rfl, rfl, hp3, e30, _, _, rfl, rfl, (by show (0 : Int) < 3; decide), _, rfl, by omega, by omega, ?_⟩
      refine for_range (lo := 0) (n := (d30 % 3).toNat) (fun i σ H' => Same H3 H' ∧ ∃ (q : Addr) (ys : List Str) (z5 : Option V), σ = [some (.ref a), some (.ref c), some (.int cell), some (.ref pd), some (.ref q), z5, y6] ∧ H' q = some (.lst (ys.map V.str)) ∧ wt ys + 11 ≤ 411 * 2 ^ i)
        ⟨Same.refl _, rr, xs, _, rfl, hrr, by omega⟩ ?_ ?_
      · rintro j σ H4 hj ⟨sm4, q, ys, z5, rfl, hq, hw4⟩
        have hj2 : j < 2 := by omega
        have hpow : 2 ^ j ≤ 2 ^ 1 := Nat.pow_le_pow_right (by decide) (by omega)
        have hpow' : (2 : Nat) ^ 1 = 2 := rfl
        have hs : 2 ^ (j + 1) = 2 ^ j * 2 := Nat.pow_succ ..
        refine ⟨_, rfl, Nat.zero_le _, fun e ne => ⟨q, e, ys, [], rfl, rfl, same_upd' ne _ _ hq, upd_same, _, rfl, ifN (fun h1 => ?_) (fun h1 => ?_)⟩⟩
        · have hne : ys ≠ [] := fun e2 => by
            rw [e2] at h1
            have := eqv_nil
            rw [show ([] : List Str).map PyData.str = [] from rfl, this] at h1
            cases h1
          have sm5 := sm4.trans (same_upd' (o := .lst []) ne)
          have hp5 := sm5.seq hp3
          have hq5 := same_upd' (o := .lst []) ne _ _ hq
          obtain ⟨w1, e1, b1, c1⟩ := atN hd (j := 31 + (0 + (j : Int))) (by omega) (by omega)
          obtain ⟨w2, e2, b2, c2⟩ := atN hd (j := 33 + (0 + (j : Int))) (by omega) (by omega)
          obtain ⟨w3, e3, b3, c3⟩ := atN hd (j := 35 + (0 + (j : Int))) (by omega) (by omega)
          obtain ⟨w4, e4, b4, c4⟩ := atN hd (j := 37 + (0 + (j : Int))) (by omega) (by omega)
          have g0 := Int.emod_nonneg w1 (show (10 : Int) ≠ 0 by decide)
          have g1 := Int.emod_lt_of_pos w1 (show (0 : Int) < 10 by decide)
          refine ⟨_, rfl, _, rfl, _, rfl, _, _, rfl, rfl, pd, _, _, _, rfl, rfl, hp5, e1, _, _, rfl, rfl, (by show (0 : Int) < 10; decide), ?_⟩
          refine ⟨_, rfl, _, rfl, _, _, rfl, rfl, pd, _, _, _, rfl, rfl, hp5, e2, _, _, rfl, rfl, .inr ⟨by decide, by decide⟩, ?_⟩
          refine ⟨_, rfl, _, rfl, _, _, rfl, rfl, pd, _, _, _, rfl, rfl, hp5, e3, _, _, rfl, rfl, ?_⟩
          refine ⟨_, rfl, _, rfl, _, _, rfl, rfl, pd, _, _, _, rfl, rfl, hp5, e4, ?_⟩
          refine ⟨q, ys, _, _, _, rfl, hq5, hne, by omega, g0, by omega, by omega, by omega, by omega, by omega, fun H6 q2 zs sm6 hq2 hw6 => ?_⟩
          exact ⟨sm5.trans sm6, q2, zs, _, rfl, hq2, by omega⟩
        · exact ⟨sm4.trans (same_upd' ne), q, ys, _, rfl, same_upd' ne _ _ hq, by omega⟩
      · rintro σ H4 ⟨sm4, q, ys, z5, rfl, hq, hw4⟩
        have hpow : 2 ^ (d30 % 3).toNat ≤ 2 ^ 2 := Nat.pow_le_pow_right (by decide) (by omega)
        have hpow' : (2 : Nat) ^ 2 = 4 := rfl
        have hsum := wt_sum ys
        have hw5 : wt ys ≤ 1644 := by omega
        have h1 : (("\n" : Str)).length = 1 := rfl
        refine ⟨⟨_, rfl⟩, _, rfl, ?_⟩
        refine ⟨_, q, ys, rfl, rfl, .inl (SqL.of hq), ?_, ?_⟩
        · rw [h1]
          omega
        have hjl := StrLaws.join_length_le ("\n" : Str) ys
        rw [← join_eq, h1] at hjl
        have hT : (Txt.join "\n" ys).length ≤ 80000 := by omega
        clear hjl
        generalize Txt.join "\n" ys = T at hT ⊢
        refine ⟨_, rfl, T, rfl, hT, (fun ws ns h => (due_good h).1), fun H7 t sm7 nt ht => ⟨_, rfl, T, rfl, hT, fun H8 u sm8 nu hu8 => ?_⟩⟩
        obtain ⟨xs', ys', k1, k2, kp⟩ := told_due (K := K) (fun ws ns e => (due_good e).2) (ht.same sm8) hu8
        refine ⟨t, u, xs', ys', 2, rfl, rfl, k1, k2, by decide, kp, _, rfl, ?_⟩
        exact ⟨(((((sm2.trans sm3).trans sm4).trans sm7).trans sm8)).seq hca, _, _, _, _, _, rfl⟩
    · intro σ H' _
      exact k _
end
end Bh

/-! What the top has written; the head. -/
namespace Bh
open PySem PySem.Spec PyProof.Rows L2
def relB : List Str → List Value → Bool
  | [], [] => true
  | x :: xs, u :: us => Value.isStrOf x u && relB xs us
  | _, _ => false
theorem relB_vals : ∀ {xs : List Str} {us : List Value}, relB xs us = true → Vals (xs.map V.str) us
  | [], [], _ => .nil
  | x :: xs, u :: us, h => by
    unfold relB at h
    rw [Bool.and_eq_true] at h
    obtain ⟨t, e⟩ := Value.isStrOf_shape h.1
    exact .cons ⟨t, e⟩ (relB_vals h.2)
  | [], _ :: _, h => by cases h
  | _ :: _, [], h => by cases h
theorem tup_of {K : PySem.W.Frag} {a : Addr} {xs : List Str} {its : Array Value} {n : Nat} {sl : Array (Option Value)} (l : K.lookup a = some ⟨.type "tuple", none, .seq its n, sl⟩) (v : relB xs its.toList = true) (hx : xs.length ≤ 1000) : ∀ H, SqT K H a (xs.map V.str) := fun H => by
  have r := relB_vals v
  have hl := r.length
  rw [List.length_map] at hl
  refine .inr ⟨_, its, n, l, rfl, rfl, ?_, r⟩
  rw [← Array.length_toList, ← hl]
  exact Nat.le_of_lt (small1000 hx)
set_option linter.unusedVariables false in
theorem all_mk {l : PySem.W.OpenLaw} {w : World} {K : PySem.W.Frag} {h : Heap} {mg : Str → Option Value} {fa C : Addr} (X : K.In h) (G : h.Ns mainGlobals mg) (hfa : mg "law" = some (.ref fa))
    {f_numberof f_figured f_isname f_typed f_llawdigits f_llawname f_llawnumber f_llawsized f_llawtaken f_llawdue f_llawtext f_llawchanged f_llawtold f_law f_minit f_mtake f_mtakename f_mtakebare f_mtakepair f_mtakeat f_mtakekeep f_mtakeworth f_mlay f_mputnamesin aN aX CN CB f_ni NN : Addr} {od_numberof an_numberof od_figured an_figured od_isname an_isname od_typed an_typed od_llawdigits an_llawdigits od_llawname an_llawname od_llawnumber an_llawnumber od_llawsized an_llawsized od_llawtaken an_llawtaken od_llawdue an_llawdue od_llawtext an_llawtext od_llawchanged an_llawchanged od_llawtold an_llawtold od_law an_law od_minit an_minit od_mtake an_mtake od_mtakename an_mtakename od_mtakebare an_mtakebare od_mtakepair an_mtakepair od_mtakeat an_mtakeat od_mtakekeep an_mtakekeep od_mtakeworth an_mtakeworth od_mlay an_mlay od_mputnamesin an_mputnamesin od_ni an_ni dd_n : Option Addr} {sl_numberof sl_figured sl_isname sl_typed sl_llawdigits sl_llawname sl_llawnumber sl_llawsized sl_llawtaken sl_llawdue sl_llawtext sl_llawchanged sl_llawtold sl_law sl_minit sl_mtake sl_mtakename sl_mtakebare sl_mtakepair sl_mtakeat sl_mtakekeep sl_mtakeworth sl_mlay sl_mputnamesin sl_aN sl_aX sl_ni : Array (Option Value)} {oc_figured kV_figured dc_figured pm_figured cd_figured ct_figured oc_numberof kV_numberof dc_numberof pm_numberof cd_numberof ct_numberof oc_isname kV_isname dc_isname pm_isname cd_isname ct_isname oc_typed kV_typed dc_typed pm_typed cd_typed ct_typed oc_llawdigits kV_llawdigits dc_llawdigits pm_llawdigits cd_llawdigits ct_llawdigits oc_llawname kV_llawname dc_llawname pm_llawname cd_llawname ct_llawname oc_llawnumber kV_llawnumber dc_llawnumber pm_llawnumber cd_llawnumber ct_llawnumber oc_llawsized kV_llawsized dc_llawsized pm_llawsized cd_llawsized ct_llawsized oc_llawtaken kV_llawtaken dc_llawtaken pm_llawtaken cd_llawtaken ct_llawtaken oc_llawdue kV_llawdue dc_llawdue pm_llawdue cd_llawdue ct_llawdue oc_llawtext kV_llawtext dc_llawtext pm_llawtext cd_llawtext ct_llawtext oc_llawchanged kV_llawchanged dc_llawchanged pm_llawchanged cd_llawchanged ct_llawchanged oc_llawtold kV_llawtold dc_llawtold pm_llawtold cd_llawtold ct_llawtold oc_law kV_law dc_law pm_law cd_law ct_law oc_minit kV_minit dc_minit pm_minit cd_minit ct_minit oc_mtake kV_mtake dc_mtake pm_mtake cd_mtake ct_mtake oc_mtakename kV_mtakename dc_mtakename pm_mtakename cd_mtakename ct_mtakename oc_mtakebare kV_mtakebare dc_mtakebare pm_mtakebare cd_mtakebare ct_mtakebare oc_mtakepair kV_mtakepair dc_mtakepair pm_mtakepair cd_mtakepair ct_mtakepair oc_mtakeat kV_mtakeat dc_mtakeat pm_mtakeat cd_mtakeat ct_mtakeat oc_mtakekeep kV_mtakekeep dc_mtakekeep pm_mtakekeep cd_mtakekeep ct_mtakekeep oc_mtakeworth kV_mtakeworth dc_mtakeworth pm_mtakeworth cd_mtakeworth ct_mtakeworth oc_mlay kV_mlay dc_mlay pm_mlay cd_mlay ct_mlay oc_mputnamesin kV_mputnamesin dc_mputnamesin pm_mputnamesin cd_mputnamesin ct_mputnamesin oc_ni dc_ni pm_ni cd_ni ct_ni : Value} {t_X_SPAN t_FIGURES_MOST t_LETTERS_MOST t_FLASH_END t_WORD_MOST t_ERASED : Tok} {its_aN its_aX : Array Value} {n_aN n_aX : Nat} {nm_n q_n : Str} {bs_n : List Value} {sn_n : List Str} {sub_n : List Value} {ab_n : Bool} {col_n : Option Bool} {k0_n k1_n k2_n k3_n k5_n : Option Value} {p1 p2 q1 q2 q3 q4 : Pos}
    (a_figured : PySem.W.nsIn K mainGlobals "figured" = some (some (.ref f_figured)))
    (l_figured : K.lookup f_figured = some ⟨oc_figured, od_figured, .func (PySem.W.fnOf "figured" "figured" (defArgs sFig) (defBody sFig) (defScope sFig) .none kV_figured dc_figured pm_figured an_figured cd_figured ct_figured), sl_figured⟩)
    (c_figured : PySem.W.codeIn K cd_figured "figured" = true)
    (k_figured : PySem.W.keepIn K (.ref f_figured) = true)
    (a_numberof : PySem.W.nsIn K mainGlobals "number_of" = some (some (.ref f_numberof)))
    (l_numberof : K.lookup f_numberof = some ⟨oc_numberof, od_numberof, .func (PySem.W.fnOf "number_of" "number_of" (defArgs sNum) (defBody sNum) (defScope sNum) .none kV_numberof dc_numberof pm_numberof an_numberof cd_numberof ct_numberof), sl_numberof⟩)
    (c_numberof : PySem.W.codeIn K cd_numberof "number_of" = true)
    (k_numberof : PySem.W.keepIn K (.ref f_numberof) = true)
    (a_isname : PySem.W.nsIn K mainGlobals "is_name" = some (some (.ref f_isname)))
    (l_isname : K.lookup f_isname = some ⟨oc_isname, od_isname, .func (PySem.W.fnOf "is_name" "is_name" (defArgs sNm) (defBody sNm) (defScope sNm) .none kV_isname dc_isname pm_isname an_isname cd_isname ct_isname), sl_isname⟩)
    (c_isname : PySem.W.codeIn K cd_isname "is_name" = true)
    (k_isname : PySem.W.keepIn K (.ref f_isname) = true)
    (a_typed : PySem.W.nsIn K mainGlobals "typed" = some (some (.ref f_typed)))
    (l_typed : K.lookup f_typed = some ⟨oc_typed, od_typed, .func (PySem.W.fnOf "typed" "typed" (defArgs sTyped) (defBody sTyped) (defScope sTyped) .none kV_typed dc_typed pm_typed an_typed cd_typed ct_typed), sl_typed⟩)
    (c_typed : PySem.W.codeIn K cd_typed "typed" = true)
    (k_typed : PySem.W.keepIn K (.ref f_typed) = true)
    (a_llawdigits : PySem.W.nsIn K mainGlobals "_law_digits" = some (some (.ref f_llawdigits)))
    (l_llawdigits : K.lookup f_llawdigits = some ⟨oc_llawdigits, od_llawdigits, .func (PySem.W.fnOf "_law_digits" "_law_digits" (defArgs sDig) (defBody sDig) (defScope sDig) .none kV_llawdigits dc_llawdigits pm_llawdigits an_llawdigits cd_llawdigits ct_llawdigits), sl_llawdigits⟩)
    (c_llawdigits : PySem.W.codeIn K cd_llawdigits "_law_digits" = true)
    (k_llawdigits : PySem.W.keepIn K (.ref f_llawdigits) = true)
    (a_llawname : PySem.W.nsIn K mainGlobals "_law_name" = some (some (.ref f_llawname)))
    (l_llawname : K.lookup f_llawname = some ⟨oc_llawname, od_llawname, .func (PySem.W.fnOf "_law_name" "_law_name" (defArgs sLName) (defBody sLName) (defScope sLName) .none kV_llawname dc_llawname pm_llawname an_llawname cd_llawname ct_llawname), sl_llawname⟩)
    (c_llawname : PySem.W.codeIn K cd_llawname "_law_name" = true)
    (k_llawname : PySem.W.keepIn K (.ref f_llawname) = true)
    (a_llawnumber : PySem.W.nsIn K mainGlobals "_law_number" = some (some (.ref f_llawnumber)))
    (l_llawnumber : K.lookup f_llawnumber = some ⟨oc_llawnumber, od_llawnumber, .func (PySem.W.fnOf "_law_number" "_law_number" (defArgs sLNum) (defBody sLNum) (defScope sLNum) .none kV_llawnumber dc_llawnumber pm_llawnumber an_llawnumber cd_llawnumber ct_llawnumber), sl_llawnumber⟩)
    (c_llawnumber : PySem.W.codeIn K cd_llawnumber "_law_number" = true)
    (k_llawnumber : PySem.W.keepIn K (.ref f_llawnumber) = true)
    (a_llawsized : PySem.W.nsIn K mainGlobals "_law_sized" = some (some (.ref f_llawsized)))
    (l_llawsized : K.lookup f_llawsized = some ⟨oc_llawsized, od_llawsized, .func (PySem.W.fnOf "_law_sized" "_law_sized" (defArgs sSized) (defBody sSized) (defScope sSized) .none kV_llawsized dc_llawsized pm_llawsized an_llawsized cd_llawsized ct_llawsized), sl_llawsized⟩)
    (c_llawsized : PySem.W.codeIn K cd_llawsized "_law_sized" = true)
    (k_llawsized : PySem.W.keepIn K (.ref f_llawsized) = true)
    (a_llawtaken : PySem.W.nsIn K mainGlobals "_law_taken" = some (some (.ref f_llawtaken)))
    (l_llawtaken : K.lookup f_llawtaken = some ⟨oc_llawtaken, od_llawtaken, .func (PySem.W.fnOf "_law_taken" "_law_taken" (defArgs sTaken) (defBody sTaken) (defScope sTaken) .none kV_llawtaken dc_llawtaken pm_llawtaken an_llawtaken cd_llawtaken ct_llawtaken), sl_llawtaken⟩)
    (c_llawtaken : PySem.W.codeIn K cd_llawtaken "_law_taken" = true)
    (k_llawtaken : PySem.W.keepIn K (.ref f_llawtaken) = true)
    (a_llawdue : PySem.W.nsIn K mainGlobals "_law_due" = some (some (.ref f_llawdue)))
    (l_llawdue : K.lookup f_llawdue = some ⟨oc_llawdue, od_llawdue, .func (PySem.W.fnOf "_law_due" "_law_due" (defArgs sDue) (defBody sDue) (defScope sDue) .none kV_llawdue dc_llawdue pm_llawdue an_llawdue cd_llawdue ct_llawdue), sl_llawdue⟩)
    (c_llawdue : PySem.W.codeIn K cd_llawdue "_law_due" = true)
    (k_llawdue : PySem.W.keepIn K (.ref f_llawdue) = true)
    (a_llawtext : PySem.W.nsIn K mainGlobals "_law_text" = some (some (.ref f_llawtext)))
    (l_llawtext : K.lookup f_llawtext = some ⟨oc_llawtext, od_llawtext, .func (PySem.W.fnOf "_law_text" "_law_text" (defArgs sText) (defBody sText) (defScope sText) .none kV_llawtext dc_llawtext pm_llawtext an_llawtext cd_llawtext ct_llawtext), sl_llawtext⟩)
    (c_llawtext : PySem.W.codeIn K cd_llawtext "_law_text" = true)
    (k_llawtext : PySem.W.keepIn K (.ref f_llawtext) = true)
    (a_llawchanged : PySem.W.nsIn K mainGlobals "_law_changed" = some (some (.ref f_llawchanged)))
    (l_llawchanged : K.lookup f_llawchanged = some ⟨oc_llawchanged, od_llawchanged, .func (PySem.W.fnOf "_law_changed" "_law_changed" (defArgs sChanged) (defBody sChanged) (defScope sChanged) .none kV_llawchanged dc_llawchanged pm_llawchanged an_llawchanged cd_llawchanged ct_llawchanged), sl_llawchanged⟩)
    (c_llawchanged : PySem.W.codeIn K cd_llawchanged "_law_changed" = true)
    (k_llawchanged : PySem.W.keepIn K (.ref f_llawchanged) = true)
    (a_llawtold : PySem.W.nsIn K mainGlobals "_law_told" = some (some (.ref f_llawtold)))
    (l_llawtold : K.lookup f_llawtold = some ⟨oc_llawtold, od_llawtold, .func (PySem.W.fnOf "_law_told" "_law_told" (defArgs sTold) (defBody sTold) (defScope sTold) .none kV_llawtold dc_llawtold pm_llawtold an_llawtold cd_llawtold ct_llawtold), sl_llawtold⟩)
    (c_llawtold : PySem.W.codeIn K cd_llawtold "_law_told" = true)
    (k_llawtold : PySem.W.keepIn K (.ref f_llawtold) = true)
    (a_law : PySem.W.nsIn K mainGlobals "law" = some (some (.ref f_law)))
    (l_law : K.lookup f_law = some ⟨oc_law, od_law, .func (PySem.W.fnOf "law" "law" (defArgs sLaw) (defBody sLaw) (defScope sLaw) .none kV_law dc_law pm_law an_law cd_law ct_law), sl_law⟩)
    (c_law : PySem.W.codeIn K cd_law "law" = true)
    (k_law : PySem.W.keepIn K (.ref f_law) = true)
    (aC : PySem.W.nsIn K mainGlobals "Sheet" = some (some (.ref C)))
    (a_minit : PySem.W.findIn K (.ref C) "__init__" = some (some (.ref f_minit)))
    (i_minit : PySem.W.isFn K (.ref f_minit) = true)
    (l_minit : K.lookup f_minit = some ⟨oc_minit, od_minit, .func (PySem.W.fnOf "__init__" "Sheet.__init__" (defArgs sInit) (defBody sInit) (defScope sInit) .none kV_minit dc_minit pm_minit an_minit cd_minit ct_minit), sl_minit⟩)
    (c_minit : PySem.W.codeIn K cd_minit "Sheet.__init__" = true)
    (k_minit : PySem.W.keepIn K (.ref f_minit) = true)
    (a_mtake : PySem.W.findIn K (.ref C) "take" = some (some (.ref f_mtake)))
    (i_mtake : PySem.W.isFn K (.ref f_mtake) = true)
    (l_mtake : K.lookup f_mtake = some ⟨oc_mtake, od_mtake, .func (PySem.W.fnOf "take" "Sheet.take" (defArgs sTake) (defBody sTake) (defScope sTake) .none kV_mtake dc_mtake pm_mtake an_mtake cd_mtake ct_mtake), sl_mtake⟩)
    (c_mtake : PySem.W.codeIn K cd_mtake "Sheet.take" = true)
    (k_mtake : PySem.W.keepIn K (.ref f_mtake) = true)
    (a_mtakename : PySem.W.findIn K (.ref C) "take_name" = some (some (.ref f_mtakename)))
    (i_mtakename : PySem.W.isFn K (.ref f_mtakename) = true)
    (l_mtakename : K.lookup f_mtakename = some ⟨oc_mtakename, od_mtakename, .func (PySem.W.fnOf "take_name" "Sheet.take_name" (defArgs sTName) (defBody sTName) (defScope sTName) .none kV_mtakename dc_mtakename pm_mtakename an_mtakename cd_mtakename ct_mtakename), sl_mtakename⟩)
    (c_mtakename : PySem.W.codeIn K cd_mtakename "Sheet.take_name" = true)
    (k_mtakename : PySem.W.keepIn K (.ref f_mtakename) = true)
    (a_mtakebare : PySem.W.findIn K (.ref C) "take_bare" = some (some (.ref f_mtakebare)))
    (i_mtakebare : PySem.W.isFn K (.ref f_mtakebare) = true)
    (l_mtakebare : K.lookup f_mtakebare = some ⟨oc_mtakebare, od_mtakebare, .func (PySem.W.fnOf "take_bare" "Sheet.take_bare" (defArgs sTBare) (defBody sTBare) (defScope sTBare) .none kV_mtakebare dc_mtakebare pm_mtakebare an_mtakebare cd_mtakebare ct_mtakebare), sl_mtakebare⟩)
    (c_mtakebare : PySem.W.codeIn K cd_mtakebare "Sheet.take_bare" = true)
    (k_mtakebare : PySem.W.keepIn K (.ref f_mtakebare) = true)
    (a_mtakepair : PySem.W.findIn K (.ref C) "take_pair" = some (some (.ref f_mtakepair)))
    (i_mtakepair : PySem.W.isFn K (.ref f_mtakepair) = true)
    (l_mtakepair : K.lookup f_mtakepair = some ⟨oc_mtakepair, od_mtakepair, .func (PySem.W.fnOf "take_pair" "Sheet.take_pair" (defArgs sTPair) (defBody sTPair) (defScope sTPair) .none kV_mtakepair dc_mtakepair pm_mtakepair an_mtakepair cd_mtakepair ct_mtakepair), sl_mtakepair⟩)
    (c_mtakepair : PySem.W.codeIn K cd_mtakepair "Sheet.take_pair" = true)
    (k_mtakepair : PySem.W.keepIn K (.ref f_mtakepair) = true)
    (a_mtakeat : PySem.W.findIn K (.ref C) "take_at" = some (some (.ref f_mtakeat)))
    (i_mtakeat : PySem.W.isFn K (.ref f_mtakeat) = true)
    (l_mtakeat : K.lookup f_mtakeat = some ⟨oc_mtakeat, od_mtakeat, .func (PySem.W.fnOf "take_at" "Sheet.take_at" (defArgs sTAt) (defBody sTAt) (defScope sTAt) .none kV_mtakeat dc_mtakeat pm_mtakeat an_mtakeat cd_mtakeat ct_mtakeat), sl_mtakeat⟩)
    (c_mtakeat : PySem.W.codeIn K cd_mtakeat "Sheet.take_at" = true)
    (k_mtakeat : PySem.W.keepIn K (.ref f_mtakeat) = true)
    (a_mtakekeep : PySem.W.findIn K (.ref C) "take_keep" = some (some (.ref f_mtakekeep)))
    (i_mtakekeep : PySem.W.isFn K (.ref f_mtakekeep) = true)
    (l_mtakekeep : K.lookup f_mtakekeep = some ⟨oc_mtakekeep, od_mtakekeep, .func (PySem.W.fnOf "take_keep" "Sheet.take_keep" (defArgs sTKeep) (defBody sTKeep) (defScope sTKeep) .none kV_mtakekeep dc_mtakekeep pm_mtakekeep an_mtakekeep cd_mtakekeep ct_mtakekeep), sl_mtakekeep⟩)
    (c_mtakekeep : PySem.W.codeIn K cd_mtakekeep "Sheet.take_keep" = true)
    (k_mtakekeep : PySem.W.keepIn K (.ref f_mtakekeep) = true)
    (a_mtakeworth : PySem.W.findIn K (.ref C) "take_worth" = some (some (.ref f_mtakeworth)))
    (i_mtakeworth : PySem.W.isFn K (.ref f_mtakeworth) = true)
    (l_mtakeworth : K.lookup f_mtakeworth = some ⟨oc_mtakeworth, od_mtakeworth, .func (PySem.W.fnOf "take_worth" "Sheet.take_worth" (defArgs sTWorth) (defBody sTWorth) (defScope sTWorth) .none kV_mtakeworth dc_mtakeworth pm_mtakeworth an_mtakeworth cd_mtakeworth ct_mtakeworth), sl_mtakeworth⟩)
    (c_mtakeworth : PySem.W.codeIn K cd_mtakeworth "Sheet.take_worth" = true)
    (k_mtakeworth : PySem.W.keepIn K (.ref f_mtakeworth) = true)
    (a_mlay : PySem.W.findIn K (.ref C) "lay" = some (some (.ref f_mlay)))
    (i_mlay : PySem.W.isFn K (.ref f_mlay) = true)
    (l_mlay : K.lookup f_mlay = some ⟨oc_mlay, od_mlay, .func (PySem.W.fnOf "lay" "Sheet.lay" (defArgs sLay) (defBody sLay) (defScope sLay) .none kV_mlay dc_mlay pm_mlay an_mlay cd_mlay ct_mlay), sl_mlay⟩)
    (c_mlay : PySem.W.codeIn K cd_mlay "Sheet.lay" = true)
    (k_mlay : PySem.W.keepIn K (.ref f_mlay) = true)
    (a_mputnamesin : PySem.W.findIn K (.ref C) "put_names_in" = some (some (.ref f_mputnamesin)))
    (i_mputnamesin : PySem.W.isFn K (.ref f_mputnamesin) = true)
    (l_mputnamesin : K.lookup f_mputnamesin = some ⟨oc_mputnamesin, od_mputnamesin, .func (PySem.W.fnOf "put_names_in" "Sheet.put_names_in" (defArgs sPut) (defBody sPut) (defScope sPut) .none kV_mputnamesin dc_mputnamesin pm_mputnamesin an_mputnamesin cd_mputnamesin ct_mputnamesin), sl_mputnamesin⟩)
    (c_mputnamesin : PySem.W.codeIn K cd_mputnamesin "Sheet.put_names_in" = true)
    (k_mputnamesin : PySem.W.keepIn K (.ref f_mputnamesin) = true)
    (pg : PySem.W.plainGet K C Str.empty = true)
    (hd : PySem.W.hasDictIn K C = true)
    (po : PySem.W.plainOver K C = true)
    (sa : PySem.W.findIn K (.ref C) "__setattr__" = some (some (.builtin "object.__setattr__")))
    (mk : PySem.W.makesIn K C = true)
    (kc : PySem.W.keepIn K (.ref C) = true)
    (n_words : PySem.W.findIn K (.ref C) "words" = some none)
    (n_names : PySem.W.findIn K (.ref C) "names" = some none)
    (n_uses : PySem.W.findIn K (.ref C) "uses" = some none)
    (g_X_SPAN : PySem.W.nsIn K mainGlobals "X_SPAN" = some (some (.int 1024 t_X_SPAN)))
    (g_FIGURES_MOST : PySem.W.nsIn K mainGlobals "FIGURES_MOST" = some (some (.int 5 t_FIGURES_MOST)))
    (g_LETTERS_MOST : PySem.W.nsIn K mainGlobals "LETTERS_MOST" = some (some (.int 8 t_LETTERS_MOST)))
    (g_FLASH_END : PySem.W.nsIn K mainGlobals "FLASH_END" = some (some (.int 512 t_FLASH_END)))
    (g_WORD_MOST : PySem.W.nsIn K mainGlobals "WORD_MOST" = some (some (.int 65535 t_WORD_MOST)))
    (g_ERASED : PySem.W.nsIn K mainGlobals "ERASED" = some (some (.int 65535 t_ERASED)))
    (g_aN : PySem.W.nsIn K mainGlobals "OP_NAMES" = some (some (.ref aN)))
    (l_aN : K.lookup aN = some ⟨.type "tuple", none, .seq its_aN n_aN, sl_aN⟩)
    (v_aN : relB opN its_aN.toList = true)
    (g_aX : PySem.W.nsIn K mainGlobals "OPS_WITH_X" = some (some (.ref aX)))
    (l_aX : K.lookup aX = some ⟨.type "tuple", none, .seq its_aX n_aX, sl_aX⟩)
    (v_aX : relB opX its_aX.toList = true)
    (z_len : PySem.W.nsIn K mainGlobals "len" = some none)
    (z_int : PySem.W.nsIn K mainGlobals "int" = some none)
    (z_enumerate : PySem.W.nsIn K mainGlobals "enumerate" = some none)
    (z_range : PySem.W.nsIn K mainGlobals "range" = some none)
    (z_isinstance : PySem.W.nsIn K mainGlobals "isinstance" = some none)
    (n_g : PySem.W.nsIn K mainGlobals "NoText" = some (some (.ref CN)))
    (n_x : K.lookup CN = some (excClassObj nm_n q_n CN NN bs_n [.ref CB, .type "ValueError", .type "Exception", .type "BaseException", .type "object"] true sn_n sub_n ab_n col_n dd_n k0_n k1_n k2_n k3_n k5_n "ValueError.__new__"))
    (n_sa : PySem.W.findIn K (.ref CN) "__setattr__" = some (some (.builtin "object.__setattr__")))
    (n_ga : PySem.W.findIn K (.ref CN) "__getattribute__" = some (some (.builtin "BaseException.__getattribute__")))
    (n_gg : PySem.W.findIn K (.ref CN) "__getattr__" = some none)
    (n_at : PySem.W.findIn K (.ref CN) "at" = some none)
    (n_i : PySem.W.findIn K (.ref CN) "__init__" = some (some (.ref f_ni)))
    (n_ti : PySem.W.typeIn K (.ref f_ni) = some (.type "function"))
    (n_l : K.lookup f_ni = some ⟨oc_ni, od_ni, .func (PySem.W.fnOf "__init__" "NoText.__init__" (PySem.LowX.iA p1 p2) (PySem.LowX.iB q1 q2 q3 q4) PySem.LowX.iS .none .none dc_ni pm_ni an_ni cd_ni ct_ni), sl_ni⟩)
    (n_c : PySem.W.codeIn K cd_ni "NoText.__init__" = true)
    (n_kC : PySem.W.keepIn K (.ref CN) = true)
    (n_eC : PySem.W.subIn K (.ref CN) (.type "BaseException") = some true)
    (n_tC : PySem.W.typeIn K (.ref CN) = some (.type "type"))
    (n_hC : PySem.W.hasDictIn K CN = true)
    (n_iC : PySem.W.isClsIn K CN = true)
    (n_sC : PySem.W.subIn K (.ref CN) (.ref CN) = some true)
    (n_ha : PySem.W.findIn K (.ref CN) "__class__" = some (some (.builtin "object.__class__")))
    (n_hn : PySem.W.specialIn K (.builtin "object.__class__") "__get__" = some (some (.builtin "getset_descriptor.__get__")))
    (n_ht : PySem.W.takesIn K (.builtin "object.__class__") = some true)
    (n_hm : PySem.W.mroIn K CN (.type "object") = some true)
    (b_g : PySem.W.nsIn K mainGlobals "BoardError" = some (some (.ref CB)))
    (b_e : PySem.W.subIn K (.ref CB) (.type "BaseException") = some true)
    (b_h : PySem.W.hasDictIn K CB = true)
    (b_t : PySem.W.typeIn K (.ref CB) = some (.type "type"))
    (b_s : PySem.W.subIn K (.ref CN) (.ref CB) = some true)
    : ∃ fd : FuncData, (∀ (s : Shared) (v : Value), BindsTo s fd ⟨[v], []⟩ [("_law_script", v)]) ∧ ∀ base : Heap, K.In base → base.Ns mainGlobals mg → FnOk l.prog w K mg base CX0 8 fa fd ["_law_script"] (spLaw K) := by
  have e := hfa.symm.trans (PySem.W.mg_of X G a_law)
  cases e
  have T : Tx K mg aN aX C := {
    xs := ⟨_, PySem.W.mg_of X G g_X_SPAN⟩
    fm := ⟨_, PySem.W.mg_of X G g_FIGURES_MOST⟩
    lm := ⟨_, PySem.W.mg_of X G g_LETTERS_MOST⟩
    fe := ⟨_, PySem.W.mg_of X G g_FLASH_END⟩
    wm := ⟨_, PySem.W.mg_of X G g_WORD_MOST⟩
    er := ⟨_, PySem.W.mg_of X G g_ERASED⟩
    gN := PySem.W.mg_of X G g_aN
    vN := tup_of l_aN v_aN (by decide)
    tN := ⟨_, l_aN, rfl, rfl⟩
    gX := PySem.W.mg_of X G g_aX
    vX := tup_of l_aX v_aX (by decide)
    len := PySem.W.mg_none_of X G z_len
    int := PySem.W.mg_none_of X G z_int
    enu := PySem.W.mg_none_of X G z_enumerate
    cl := ⟨pg, hd, po, sa⟩
    nW := n_words
    nN := n_names
    nU := n_uses
    gC := PySem.W.mg_of X G aC }
  have F_figured := fun_mk (st := sFig) l_figured c_figured k_figured
  have F_numberof := fun_mk (st := sNum) l_numberof c_numberof k_numberof
  have b_figured := F_figured.binds (ps := ["part", "most"]) fun _ _ _ _ _ _ us hl => match us, hl with | [_, _], _ => rfl
  have b_numberof := F_numberof.binds (ps := ["part"]) fun _ _ _ _ _ _ us hl => match us, hl with | [_], _ => rfl
  have F_isname := fun_mk (st := sNm) l_isname c_isname k_isname
  have b_isname := F_isname.binds (ps := ["part"]) fun _ _ _ _ _ _ us hl => match us, hl with | [_], _ => rfl
  have F_typed := fun_mk (st := sTyped) l_typed c_typed k_typed
  have b_typed := F_typed.binds (ps := ["text"]) fun _ _ _ _ _ _ us hl => match us, hl with | [_], _ => rfl
  have F_llawdigits := fun_mk (st := sDig) l_llawdigits c_llawdigits k_llawdigits
  have b_llawdigits := F_llawdigits.binds (ps := ["_law_cell_here", "_law_many"]) fun _ _ _ _ _ _ us hl => match us, hl with | [_, _], _ => rfl
  have F_llawname := fun_mk (st := sLName) l_llawname c_llawname k_llawname
  have b_llawname := F_llawname.binds (ps := ["_law_text_here"]) fun _ _ _ _ _ _ us hl => match us, hl with | [_], _ => rfl
  have F_llawnumber := fun_mk (st := sLNum) l_llawnumber c_llawnumber k_llawnumber
  have b_llawnumber := F_llawnumber.binds (ps := ["_law_text_here"]) fun _ _ _ _ _ _ us hl => match us, hl with | [_], _ => rfl
  have F_llawsized := fun_mk (st := sSized) l_llawsized c_llawsized k_llawsized
  have b_llawsized := F_llawsized.binds (ps := ["_law_stand", "_law_many", "_law_word"]) fun _ _ _ _ _ _ us hl => match us, hl with | [_, _, _], _ => rfl
  have F_llawtaken := fun_mk (st := sTaken) l_llawtaken c_llawtaken k_llawtaken
  have b_llawtaken := F_llawtaken.binds (ps := ["_law_stand", "_law_number_here", "_law_row"]) fun _ _ _ _ _ _ us hl => match us, hl with | [_, _, _], _ => rfl
  have F_llawdue := fun_mk (st := sDue) l_llawdue c_llawdue k_llawdue
  have b_llawdue := F_llawdue.binds (ps := ["_law_text_here"]) fun _ _ _ _ _ _ us hl => match us, hl with | [_], _ => rfl
  have F_llawtext := fun_mk (st := sText) l_llawtext c_llawtext k_llawtext
  have b_llawtext := F_llawtext.binds (ps := ["_law_row"]) fun _ _ _ _ _ _ us hl => match us, hl with | [_], _ => rfl
  have F_llawchanged := fun_mk (st := sChanged) l_llawchanged c_llawchanged k_llawchanged
  have b_llawchanged := F_llawchanged.binds (ps := ["_law_rows", "_law_way", "_law_one", "_law_other"]) fun _ _ _ _ _ _ us hl => match us, hl with | [_, _, _, _], _ => rfl
  have F_llawtold := fun_mk (st := sTold) l_llawtold c_llawtold k_llawtold
  have b_llawtold := F_llawtold.binds (ps := ["_law_text_here"]) fun _ _ _ _ _ _ us hl => match us, hl with | [_], _ => rfl
  have F_law := fun_mk (st := sLaw) l_law c_law k_law
  have F_minit := fun_mk (st := sInit) l_minit c_minit k_minit
  have b_minit := F_minit.binds (ps := ["self"]) fun _ _ _ _ _ _ us hl => match us, hl with | [_], _ => rfl
  have F_mtake := fun_mk (st := sTake) l_mtake c_mtake k_mtake
  have b_mtake := F_mtake.binds (ps := ["self", "at", "row"]) fun _ _ _ _ _ _ us hl => match us, hl with | [_, _, _], _ => rfl
  have F_mtakename := fun_mk (st := sTName) l_mtakename c_mtakename k_mtakename
  have b_mtakename := F_mtakename.binds (ps := ["self", "name"]) fun _ _ _ _ _ _ us hl => match us, hl with | [_, _], _ => rfl
  have F_mtakebare := fun_mk (st := sTBare) l_mtakebare c_mtakebare k_mtakebare
  have b_mtakebare := F_mtakebare.binds (ps := ["self", "op"]) fun _ _ _ _ _ _ us hl => match us, hl with | [_, _], _ => rfl
  have F_mtakepair := fun_mk (st := sTPair) l_mtakepair c_mtakepair k_mtakepair
  have b_mtakepair := F_mtakepair.binds (ps := ["self", "at", "head", "part"]) fun _ _ _ _ _ _ us hl => match us, hl with | [_, _, _, _], _ => rfl
  have F_mtakeat := fun_mk (st := sTAt) l_mtakeat c_mtakeat k_mtakeat
  have b_mtakeat := F_mtakeat.binds (ps := ["self", "address"]) fun _ _ _ _ _ _ us hl => match us, hl with | [_, _], _ => rfl
  have F_mtakekeep := fun_mk (st := sTKeep) l_mtakekeep c_mtakekeep k_mtakekeep
  have b_mtakekeep := F_mtakekeep.binds (ps := ["self", "many"]) fun _ _ _ _ _ _ us hl => match us, hl with | [_, _], _ => rfl
  have F_mtakeworth := fun_mk (st := sTWorth) l_mtakeworth c_mtakeworth k_mtakeworth
  have b_mtakeworth := F_mtakeworth.binds (ps := ["self", "at", "base", "part", "most"]) fun _ _ _ _ _ _ us hl => match us, hl with | [_, _, _, _, _], _ => rfl
  have F_mlay := fun_mk (st := sLay) l_mlay c_mlay k_mlay
  have b_mlay := F_mlay.binds (ps := ["self", "word", "many"]) fun _ _ _ _ _ _ us hl => match us, hl with | [_, _, _], _ => rfl
  have F_mputnamesin := fun_mk (st := sPut) l_mputnamesin c_mputnamesin k_mputnamesin
  have b_mputnamesin := F_mputnamesin.binds (ps := ["self"]) fun _ _ _ _ _ _ us hl => match us, hl with | [_], _ => rfl
  refine ⟨PySem.W.fnOf "law" "law" (defArgs sLaw) (defBody sLaw) (defScope sLaw) .none kV_law dc_law pm_law an_law cd_law ct_law, fun s v => .of_eq rfl, fun base _ _ => ?_⟩
  have C_isname : CalF l.prog w K mg base 2 "is_name" ["part"] spNm _ _ := ⟨PySem.W.mg_of X G a_isname, k_isname, b_isname, ok_nm F_isname T⟩
  have C_numberof : CalF l.prog w K mg base 2 "number_of" ["part"] spNum _ _ := ⟨PySem.W.mg_of X G a_numberof, k_numberof, b_numberof, ok_num F_numberof T F_figured b_figured (PySem.W.mg_of X G a_figured)⟩
  have C_mlay : CalM l.prog w K mg base C 2 "lay" ["self", "word", "many"] (spM C aLay) _ _ := ⟨⟨a_mlay, i_mlay, k_mlay⟩, b_mlay, ok_lay F_mlay T⟩
  have C_mtakename : CalM l.prog w K mg base C 3 "take_name" ["self", "name"] (spM C aName) _ _ := ⟨⟨a_mtakename, i_mtakename, k_mtakename⟩, b_mtakename, ok_tname F_mtakename T C_isname⟩
  have C_mtakebare : CalM l.prog w K mg base C 3 "take_bare" ["self", "op"] (spM C aBare) _ _ := ⟨⟨a_mtakebare, i_mtakebare, k_mtakebare⟩, b_mtakebare, ok_tbare F_mtakebare T C_mlay⟩
  have C_mtakeat : CalM l.prog w K mg base C 3 "take_at" ["self", "address"] (spM C aAt) _ _ := ⟨⟨a_mtakeat, i_mtakeat, k_mtakeat⟩, b_mtakeat, ok_tat F_mtakeat T C_mlay⟩
  have C_mtakekeep : CalM l.prog w K mg base C 3 "take_keep" ["self", "many"] (spM C aKeep) _ _ := ⟨⟨a_mtakekeep, i_mtakekeep, k_mtakekeep⟩, b_mtakekeep, ok_tkeep F_mtakekeep T C_mlay⟩
  have C_mtakeworth : CalM l.prog w K mg base C 3 "take_worth" ["self", "at", "base", "part", "most"] (spM C aWorth) _ _ := ⟨⟨a_mtakeworth, i_mtakeworth, k_mtakeworth⟩, b_mtakeworth, ok_tworth F_mtakeworth T C_mlay C_isname C_numberof⟩
  have C_mtakepair : CalM l.prog w K mg base C 4 "take_pair" ["self", "at", "head", "part"] (spM C aPair) _ _ := ⟨⟨a_mtakepair, i_mtakepair, k_mtakepair⟩, b_mtakepair, ok_tpair F_mtakepair T C_mtakeat C_mtakekeep C_mtakeworth C_numberof⟩
  have C_mtake : CalM l.prog w K mg base C 5 "take" ["self", "at", "row"] (spM C aTake) _ _ := ⟨⟨a_mtake, i_mtake, k_mtake⟩, b_mtake, ok_take F_mtake T C_mtakename C_mtakebare C_mtakepair⟩
  have low : PySem.LowX.LowTxt K mg CN f_ni :=
    { gC := PySem.W.mg_of X G n_g, cls := ⟨nm_n, q_n, NN, bs_n, _, sn_n, sub_n, ab_n, col_n, dd_n, k0_n, k1_n, k2_n, k3_n, k5_n, n_x, by rfl⟩, sa := n_sa, ga := n_ga, gg := n_gg, noN := n_at, iC := n_i, tC := n_ti, kC := n_kC, exC := n_eC, tyC := n_tC, hdC := n_hC, te := PySem.W.exm_ref n_eC n_hC n_tC n_sC,
      fn := ⟨_, _, _, _, _, _, _, _, _, _, _, _, _, _, n_l, n_c⟩ }
  have exc : ExcC K CN := ⟨n_ga, n_gg, n_eC, n_hC, n_ha, n_hn, n_ht, n_hm⟩
  have GP := ok_putX (P := l.prog) (w := w) (base := base) F_mputnamesin T low
  have GT := ok_typedX F_typed T low ⟨mk, a_minit, i_minit, kc⟩ (ok_init F_minit T) b_minit C_mtake ⟨a_mputnamesin, i_mputnamesin, k_mputnamesin⟩ b_mputnamesin GP
  have C_llawdigits : CalF l.prog w K mg base 2 "_law_digits" ["_law_cell_here", "_law_many"] spDig _ _ := ⟨PySem.W.mg_of X G a_llawdigits, k_llawdigits, b_llawdigits, ok_dig F_llawdigits (PySem.W.mg_none_of X G z_range)⟩
  have C_llawname : CalF l.prog w K mg base 2 "_law_name" ["_law_text_here"] spLName _ _ := ⟨PySem.W.mg_of X G a_llawname, k_llawname, b_llawname, ok_lname F_llawname (PySem.W.mg_none_of X G z_len)⟩
  have C_llawnumber : CalF l.prog w K mg base 2 "_law_number" ["_law_text_here"] spLNum _ _ := ⟨PySem.W.mg_of X G a_llawnumber, k_llawnumber, b_llawnumber, ok_lnum F_llawnumber (PySem.W.mg_none_of X G z_len) (PySem.W.mg_none_of X G z_int)⟩
  have C_llawsized : CalF l.prog w K mg base 2 "_law_sized" ["_law_stand", "_law_many", "_law_word"] spSized _ _ := ⟨PySem.W.mg_of X G a_llawsized, k_llawsized, b_llawsized, ok_sized F_llawsized (PySem.W.mg_none_of X G z_len)⟩
  have C_llawtaken : CalF l.prog w K mg base 3 "_law_taken" ["_law_stand", "_law_number_here", "_law_row"] spTaken _ _ := ⟨PySem.W.mg_of X G a_llawtaken, k_llawtaken, b_llawtaken, ok_taken F_llawtaken C_llawsized C_llawname C_llawnumber (PySem.W.mg_none_of X G z_len) (PySem.W.mg_none_of X G z_int)⟩
  have C_llawdue : CalF l.prog w K mg base 4 "_law_due" ["_law_text_here"] spDue _ _ := ⟨PySem.W.mg_of X G a_llawdue, k_llawdue, b_llawdue, ok_due F_llawdue C_llawtaken (PySem.W.mg_none_of X G z_len) (PySem.W.mg_none_of X G z_range)⟩
  have C_llawtext : CalF l.prog w K mg base 2 "_law_text" ["_law_row"] (spText K) _ _ := ⟨PySem.W.mg_of X G a_llawtext, k_llawtext, b_llawtext, ok_text F_llawtext (PySem.W.mg_none_of X G z_len) (PySem.W.mg_none_of X G z_range)⟩
  have C_llawchanged : CalF l.prog w K mg base 2 "_law_changed" ["_law_rows", "_law_way", "_law_one", "_law_other"] spChg _ _ := ⟨PySem.W.mg_of X G a_llawchanged, k_llawchanged, b_llawchanged, ok_chg F_llawchanged (PySem.W.mg_none_of X G z_len) (PySem.W.mg_none_of X G z_int)⟩
  have C_llawtold : CalF l.prog w K mg base 7 "_law_told" ["_law_text_here"] spTold _ _ := ⟨PySem.W.mg_of X G a_llawtold, k_llawtold, b_llawtold, ok_told F_llawtold low exc (PySem.W.mg_of X G b_g) (PySem.W.exm_ref b_e b_h b_t b_s) (PySem.W.mg_none_of X G z_isinstance) (PySem.W.mg_of X G a_typed) k_typed b_typed GT⟩
  exact ok_law F_law C_llawdigits C_llawtext C_llawchanged C_llawtold C_llawdue (PySem.W.mg_none_of X G z_range)
end Bh

open PySem PySem.W PyProof.Rows in
set_option maxRecDepth 100000 in
set_option maxHeartbeats 0 in
theorem PySem.Challenge.cw_boardheld_k04_texts_spoilt_holds : PySem.Challenge.rw_boardheld_k04_texts_spoilt.Holds := by
  w_on; o_law; k_head; (case hw => w_witness2)
  k_fill
  refine L2.walk_of (l := PySem.Challenge.rw_boardheld_k04_texts_spoilt) (n := 63) (k := 8) (x := "_law_script") (CX := fun _ => L2.CX0) (sp := fun w => Bh.spLaw _) rfl (by decide) rfl ⟨rfl, by decide, by decide⟩ (fun w h Y => PySem.W.kIn_of Y) ?F (fun _ _ a ns hl _ hS => ⟨a, ns, rfl, hS, hl, fun _ => rfl⟩) (fun _ _ _ _ _ h => h)
  case F =>
    intro w mg fa h KX G hmg
    refine' Bh.all_mk KX G hmg ?a_figured ?l_figured ?c_figured ?k_figured ?a_numberof ?l_numberof ?c_numberof ?k_numberof ?a_isname ?l_isname ?c_isname ?k_isname ?a_typed ?l_typed ?c_typed ?k_typed ?a_llawdigits ?l_llawdigits ?c_llawdigits ?k_llawdigits ?a_llawname ?l_llawname ?c_llawname ?k_llawname ?a_llawnumber ?l_llawnumber ?c_llawnumber ?k_llawnumber ?a_llawsized ?l_llawsized ?c_llawsized ?k_llawsized ?a_llawtaken ?l_llawtaken ?c_llawtaken ?k_llawtaken ?a_llawdue ?l_llawdue ?c_llawdue ?k_llawdue ?a_llawtext ?l_llawtext ?c_llawtext ?k_llawtext ?a_llawchanged ?l_llawchanged ?c_llawchanged ?k_llawchanged ?a_llawtold ?l_llawtold ?c_llawtold ?k_llawtold ?a_law ?l_law ?c_law ?k_law ?aC ?a_minit ?i_minit ?l_minit ?c_minit ?k_minit ?a_mtake ?i_mtake ?l_mtake ?c_mtake ?k_mtake ?a_mtakename ?i_mtakename ?l_mtakename ?c_mtakename ?k_mtakename ?a_mtakebare ?i_mtakebare ?l_mtakebare ?c_mtakebare ?k_mtakebare ?a_mtakepair ?i_mtakepair ?l_mtakepair ?c_mtakepair ?k_mtakepair ?a_mtakeat ?i_mtakeat ?l_mtakeat ?c_mtakeat ?k_mtakeat ?a_mtakekeep ?i_mtakekeep ?l_mtakekeep ?c_mtakekeep ?k_mtakekeep ?a_mtakeworth ?i_mtakeworth ?l_mtakeworth ?c_mtakeworth ?k_mtakeworth ?a_mlay ?i_mlay ?l_mlay ?c_mlay ?k_mlay ?a_mputnamesin ?i_mputnamesin ?l_mputnamesin ?c_mputnamesin ?k_mputnamesin ?pg ?hd ?po ?sa ?mk ?kc ?n_words ?n_names ?n_uses ?g_X_SPAN ?g_FIGURES_MOST ?g_LETTERS_MOST ?g_FLASH_END ?g_WORD_MOST ?g_ERASED ?g_aN ?l_aN ?v_aN ?g_aX ?l_aX ?v_aX ?z_len ?z_int ?z_enumerate ?z_range ?z_isinstance ?n_g ?n_x ?n_sa ?n_ga ?n_gg ?n_at ?n_i ?n_ti ?n_l ?n_c ?n_kC ?n_eC ?n_tC ?n_hC ?n_iC ?n_sC ?n_ha ?n_hn ?n_ht ?n_hm ?b_g ?b_e ?b_h ?b_t ?b_s
    (case a_figured => k_is)
    (case l_figured => k_is)
    (case c_figured => k_is)
    (case k_figured => k_is)
    (case a_numberof => k_is)
    (case l_numberof => k_is)
    (case c_numberof => k_is)
    (case k_numberof => k_is)
    (case a_isname => k_is)
    (case l_isname => k_is)
    (case c_isname => k_is)
    (case k_isname => k_is)
    (case a_typed => k_is)
    (case l_typed => k_is)
    (case c_typed => k_is)
    (case k_typed => k_is)
    (case a_llawdigits => k_is)
    (case l_llawdigits => k_is)
    (case c_llawdigits => k_is)
    (case k_llawdigits => k_is)
    (case a_llawname => k_is)
    (case l_llawname => k_is)
    (case c_llawname => k_is)
    (case k_llawname => k_is)
    (case a_llawnumber => k_is)
    (case l_llawnumber => k_is)
    (case c_llawnumber => k_is)
    (case k_llawnumber => k_is)
    (case a_llawsized => k_is)
    (case l_llawsized => k_is)
    (case c_llawsized => k_is)
    (case k_llawsized => k_is)
    (case a_llawtaken => k_is)
    (case l_llawtaken => k_is)
    (case c_llawtaken => k_is)
    (case k_llawtaken => k_is)
    (case a_llawdue => k_is)
    (case l_llawdue => k_is)
    (case c_llawdue => k_is)
    (case k_llawdue => k_is)
    (case a_llawtext => k_is)
    (case l_llawtext => k_is)
    (case c_llawtext => k_is)
    (case k_llawtext => k_is)
    (case a_llawchanged => k_is)
    (case l_llawchanged => k_is)
    (case c_llawchanged => k_is)
    (case k_llawchanged => k_is)
    (case a_llawtold => k_is)
    (case l_llawtold => k_is)
    (case c_llawtold => k_is)
    (case k_llawtold => k_is)
    (case a_law => k_is)
    (case l_law => k_is)
    (case c_law => k_is)
    (case k_law => k_is)
    (case aC => k_is)
    (case a_minit => k_is)
    (case i_minit => k_is)
    (case l_minit => k_is)
    (case c_minit => k_is)
    (case k_minit => k_is)
    (case a_mtake => k_is)
    (case i_mtake => k_is)
    (case l_mtake => k_is)
    (case c_mtake => k_is)
    (case k_mtake => k_is)
    (case a_mtakename => k_is)
    (case i_mtakename => k_is)
    (case l_mtakename => k_is)
    (case c_mtakename => k_is)
    (case k_mtakename => k_is)
    (case a_mtakebare => k_is)
    (case i_mtakebare => k_is)
    (case l_mtakebare => k_is)
    (case c_mtakebare => k_is)
    (case k_mtakebare => k_is)
    (case a_mtakepair => k_is)
    (case i_mtakepair => k_is)
    (case l_mtakepair => k_is)
    (case c_mtakepair => k_is)
    (case k_mtakepair => k_is)
    (case a_mtakeat => k_is)
    (case i_mtakeat => k_is)
    (case l_mtakeat => k_is)
    (case c_mtakeat => k_is)
    (case k_mtakeat => k_is)
    (case a_mtakekeep => k_is)
    (case i_mtakekeep => k_is)
    (case l_mtakekeep => k_is)
    (case c_mtakekeep => k_is)
    (case k_mtakekeep => k_is)
    (case a_mtakeworth => k_is)
    (case i_mtakeworth => k_is)
    (case l_mtakeworth => k_is)
    (case c_mtakeworth => k_is)
    (case k_mtakeworth => k_is)
    (case a_mlay => k_is)
    (case i_mlay => k_is)
    (case l_mlay => k_is)
    (case c_mlay => k_is)
    (case k_mlay => k_is)
    (case a_mputnamesin => k_is)
    (case i_mputnamesin => k_is)
    (case l_mputnamesin => k_is)
    (case c_mputnamesin => k_is)
    (case k_mputnamesin => k_is)
    (case pg => k_is)
    (case hd => k_is)
    (case po => k_is)
    (case sa => k_is)
    (case mk => k_is)
    (case kc => k_is)
    (case n_words => k_is)
    (case n_names => k_is)
    (case n_uses => k_is)
    (case g_X_SPAN => k_is)
    (case g_FIGURES_MOST => k_is)
    (case g_LETTERS_MOST => k_is)
    (case g_FLASH_END => k_is)
    (case g_WORD_MOST => k_is)
    (case g_ERASED => k_is)
    (case g_aN => k_is)
    (case l_aN => k_is)
    (case v_aN => decide +kernel)
    (case g_aX => k_is)
    (case l_aX => k_is)
    (case v_aX => decide +kernel)
    (case z_len => k_is)
    (case z_int => k_is)
    (case z_enumerate => k_is)
    (case z_range => k_is)
    (case z_isinstance => k_is)
    (case n_g => k_is)
    (case n_x => k_is)
    (case n_sa => k_is)
    (case n_ga => k_is)
    (case n_gg => k_is)
    (case n_at => k_is)
    (case n_i => k_is)
    (case n_ti => k_is)
    (case n_l => k_is)
    (case n_c => k_is)
    (case n_kC => k_is)
    (case n_eC => k_is)
    (case n_tC => k_is)
    (case n_hC => k_is)
    (case n_iC => k_is)
    (case n_sC => first | rfl | k_is | decide +kernel)
    (case n_ha => k_is)
    (case n_hn => first | rfl | k_is | decide +kernel)
    (case n_ht => first | rfl | k_is | decide +kernel)
    (case n_hm => k_is)
    (case b_g => k_is)
    (case b_e => k_is)
    (case b_h => k_is)
    (case b_t => k_is)
    (case b_s => k_is)

