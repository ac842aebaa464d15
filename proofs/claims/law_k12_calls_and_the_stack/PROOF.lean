import PyProof.Rows.All
import Wide.All
import OpenK.AllK
import Wide.FinOn
import HandS.ForMost
import HandS.IsInst
import HandS.ForExc
import HandS.CallLocal
import HandS.More
import PySem.Challenge.RW_boardheld_k12_calls_and_the_stack
import KE.BitLaws
import HandS.Style
set_option Elab.async false
set_option linter.all false
set_option maxRecDepth 100000
set_option maxHeartbeats 4000000
/-! A board in plain words. -/
namespace Bh
open PySem PySem.Spec PyProof.Rows L2
structure Bd where
  a : Int
  b : Int
  pc : Int
  sp : Int
  zero : Bool
  lets : Bool
  asleep : Bool
  beat : Int
  sent : List (Int × Int)
  mem : List Int
  line : List (Int × Int)
  la : Nat
  stop : Option (Str × List Int)
def rd (m : List Int) (i : Int) : Int := m.getD i.toNat 0
def stM (m : List Int) (i : Int) (v : Int) : List Int := m.set i.toNat v
def takeLineM (v : Int) (m : List Int) : List Int := if rd m 772 % 2 < v % 2 then stM (stM m 772 v) 770 (Builtin.bitOr (rd (stM m 772 v) 770) 2) else stM m 772 v
def goTimerM (m : List Int) : List Int := if rd m 769 = 0 then m else if rd m 769 ≤ rd m 768 + 1 then stM (stM m 770 (Builtin.bitOr (rd m 770) 1)) 768 0 else stM m 768 (rd m 768 + 1)
def putMM (a v : Int) (m : List Int) : List Int := if a = 770 then stM m 770 (Builtin.bitAnd (rd m 770) (65535 - v)) else stM m a v
def comeM (x : Bd) : Bd := if x.la < x.line.length ∧ (x.line.getD x.la (0, 0)).1 = x.beat then { x with mem := takeLineM (x.line.getD x.la (0, 0)).2 x.mem, la := x.la + 1 } else x
def passOneM (x : Bd) : Bd := { comeM { x with beat := x.beat + 1 } with mem := goTimerM (comeM { x with beat := x.beat + 1 }).mem }
def passM : Nat → Bd → Bd
  | 0, x => x
  | n + 1, x => passM n (passOneM x)
def sendM (a v : Int) (x : Bd) : Bd := if a = 773 then { x with sent := x.sent ++ [(x.beat, v)] } else x
def putWM (a v : Int) (x : Bd) : Bd := { sendM a v x with mem := putMM a v x.mem }
def giveM (v : Int) (x : Bd) : Bd := { x with a := v, zero := decide (v = 0) }
/-- what a deed does, its words read; pc leads behind it already -/
def doM (op : Nat) (n : Int) (ws : List Int) (x : Bd) : Bd :=
  match op with
  | 1 => giveM n x
  | 2 => giveM (ws.getD 0 0) x
  | 3 => putWM n x.a x
  | 4 => giveM ((x.a + ws.getD 0 0) % 65536) x
  | 5 => giveM ((x.a - ws.getD 0 0) % 65536) x
  | 6 => giveM (Builtin.bitAnd x.a (ws.getD 0 0)) x
  | 7 => giveM (Builtin.bitXor x.a (ws.getD 0 0)) x
  | 8 => giveM (ws.getD 0 0) x
  | 9 => putWM (n + x.b) x.a x
  | 10 => { x with b := x.a }
  | 11 => { giveM x.b x with b := x.a }
  | 12 => { x with pc := n }
  | 13 => if x.zero = true then { x with pc := n } else x
  | 14 => if 32768 ≤ x.a then { x with pc := n } else x
  | 15 => { putWM x.sp x.pc x with sp := x.sp - 1, pc := n }
  | 16 => { x with sp := x.sp + 1, pc := ws.getD 0 0 }
  | 17 => { putWM x.sp x.a x with sp := x.sp - 1 }
  | 18 => giveM (ws.getD 0 0) { x with sp := x.sp + 1 }
  | 19 => { x with asleep := true }
  | 20 => { x with lets := decide (n % 2 = 1) }
  | 21 => { x with sp := x.sp + 2, zero := decide (ws.getD 0 0 % 2 = 1), pc := ws.getD 1 0, lets := true }
  | 22 => giveM (x.a / 2) x
  | _ => x
/-- what a deed reads (false) and puts (true) -/
def touM (op : Nat) (n b sp : Int) : List (Bool × Int) :=
  match op with
  | 2 => [(false, n)]
  | 3 => [(true, n)]
  | 4 => [(false, n)]
  | 5 => [(false, n)]
  | 6 => [(false, n)]
  | 7 => [(false, n)]
  | 8 => [(false, n + b)]
  | 9 => [(true, n + b)]
  | 15 => [(true, sp)]
  | 16 => [(false, sp + 1)]
  | 17 => [(true, sp)]
  | 18 => [(false, sp + 1)]
  | 21 => [(false, sp + 1), (false, sp + 2)]
  | _ => []
/-- why a word can't be read or put there -/
def barM (t : Bool × Int) : Option Str :=
  if ¬ (0 ≤ t.2 ∧ t.2 < 774) then some "far" else if t.1 = false then none else if t.2 < 512 then some "flash" else if t.2 = 772 then some "still" else none
def firstBad : List (Bool × Int) → Option (Str × Int)
  | [] => none
  | t :: r => match barM t with
    | some w => some (w, t.2)
    | none => firstBad r
def readsM (m : List Int) (ts : List (Bool × Int)) : List Int := (ts.filter fun t => !t.1).map fun t => rd m t.2
def opM (x : Bd) : Nat := (rd x.mem x.pc / 1024).toNat
def xM (x : Bd) : Int := rd x.mem x.pc % 1024
def toM (x : Bd) : List (Bool × Int) := touM (opM x) (xM x) x.b x.sp
/-- the deed at pc, which can be done -/
def doneM (x : Bd) : Bd := passM (1 + (toM x).length) (doM (opM x) (xM x) (readsM x.mem (toM x)) { x with pc := x.pc + 1 })
def stopAt (w : Str) (ns : List Int) (x : Bd) : Str × Bd := ("stopped", { x with stop := some (w, ns) })
def deedM (x : Bd) : Str × Bd :=
  if ¬ (0 ≤ x.pc ∧ x.pc < 768) then stopAt "far" [x.pc, x.pc] x
  else if 23 ≤ opM x then stopAt "none" [x.pc] x
  else if opM x = 0 then stopAt "mark" [x.pc] x
  else match firstBad (toM x) with
    | some r => stopAt r.1 [x.pc, r.2] x
    | none => ("deed", doneM x)
def calledM (x : Bd) : Int := Builtin.bitAnd (rd x.mem 770) (rd x.mem 771)
def b2n (b : Bool) : Int := if b = true then 1 else 0
def begunM (x : Bd) : Bd :=
  let y := putWM (x.sp - 1) (b2n x.zero) (putWM x.sp x.pc x)
  passM 3 { y with sp := x.sp - 2, lets := false, pc := if Builtin.bitAnd (calledM x) 1 ≠ 0 then 1 else 2 }
def intM (x : Bd) : Str × Bd :=
  match firstBad [(true, x.sp), (true, x.sp - 1)] with
  | some r => stopAt r.1 [x.pc, r.2] x
  | none => ("interrupt", begunM x)
def turnM (x : Bd) : Str × Bd :=
  if x.stop ≠ none then ("stopped", x)
  else if x.asleep = true ∧ calledM x = 0 then ("asleep", passM 1 x)
  else if x.lets = true ∧ calledM x ≠ 0 then intM { x with asleep := false }
  else deedM { x with asleep := false }
theorem firstBad_cons (t : Bool × Int) (r : List (Bool × Int)) : firstBad (t :: r) = match barM t with
    | some w => some (w, t.2)
    | none => firstBad r := rfl
theorem barM_ok {t : Bool × Int} (h : barM t = none) : 0 ≤ t.2 ∧ t.2 < 774 := by
  unfold barM at h
  split at h
  · cases h
  · rename_i z
    exact Classical.not_not.mp z
theorem firstBad_ok : ∀ {ts : List (Bool × Int)}, firstBad ts = none → ∀ t ∈ ts, barM t = none
  | [], _, _, h => by cases h
  | t :: r, h, u, hu => by
    unfold firstBad at h
    cases e : barM t with
    | some w => rw [e] at h; cases h
    | none =>
      rw [e] at h
      rcases List.mem_cons.mp hu with rfl | h2
      · exact e
      · exact firstBad_ok h u h2
theorem touM_len (op : Nat) (n b sp : Int) : (touM op n b sp).length ≤ 2 := by
  unfold touM
  split <;> first | exact Nat.le_succ _ | exact Nat.le_refl _ | exact Nat.zero_le _
theorem stM_len (m : List Int) (i v : Int) : (stM m i v).length = m.length := List.length_set
theorem takeLineM_len (v : Int) (m : List Int) : (takeLineM v m).length = m.length := by
  unfold takeLineM
  split
  · rw [stM_len, stM_len]
  · rw [stM_len]
theorem goTimerM_len (m : List Int) : (goTimerM m).length = m.length := by
  unfold goTimerM
  split
  · rfl
  · split
    · rw [stM_len, stM_len]
    · rw [stM_len]
theorem putMM_len (a v : Int) (m : List Int) : (putMM a v m).length = m.length := by
  unfold putMM
  split
  · rw [stM_len]
  · rw [stM_len]
theorem atI_rd {m : List Int} {i : Int} (h0 : 0 ≤ i) (h1 : i < m.length) : atI (m.map V.int) i = some (.int (rd m i)) := by
  have hj : i.toNat < m.length := by omega
  have e : i = ((i.toNat : Nat) : Int) := (Int.toNat_of_nonneg h0).symm
  have q : atI (m.map V.int) ((i.toNat : Nat) : Int) = some (.int (rd m i)) := atI_nat (by
    unfold rd
    rw [List.getElem?_map, List.getElem?_eq_getElem hj, List.getD_eq_getElem?_getD, List.getElem?_eq_getElem hj]
    rfl)
  rw [← e] at q
  exact q
theorem ixN_in {n : Nat} {i : Int} (h0 : 0 ≤ i) (h1 : i < n) : ixN n i = some i.toNat := by
  unfold ixN
  rw [if_pos h0, if_pos h1]
theorem set_map (m : List Int) (i v : Int) : (m.map V.int).set i.toNat (.int v) = (stM m i v).map V.int := by
  unfold stM
  rw [List.map_set]
theorem rd_stM_same {m : List Int} {i v : Int} (h0 : 0 ≤ i) (h1 : i < m.length) : rd (stM m i v) i = v := by
  unfold rd stM
  have : i.toNat < m.length := by omega
  rw [List.getD_eq_getElem?_getD, List.getElem?_set_self this]
  rfl
theorem rd_stM_ne {m : List Int} {i j v : Int} (h0 : 0 ≤ i) (h1 : 0 ≤ j) (h : i ≠ j) : rd (stM m i v) j = rd m j := by
  unfold rd stM
  rw [List.getD_eq_getElem?_getD, List.getElem?_set_ne (by omega), ← List.getD_eq_getElem?_getD]
end Bh

/-! A board in the heap. -/
namespace Bh
open PySem PySem.Spec PyProof.Rows L2
theorem same_upd' {H : Hp} {p : Addr} {o : HO} (h : H p = none) : Same H (upd H p o) := fun b x e => by
  rw [upd_ne (ne_of_none e h)]
  exact e
theorem same_of {H0 H : Hp} {x : Addr} {o : HO} (sm : Same H0 H) (fx : H0 x = none) : Same H0 (upd H x o) := fun b y e => by
  rw [upd_ne (ne_of_none e fx)]
  exact sm _ _ e
theorem upd_upd {H : Hp} {p : Addr} {o o' : HO} : upd (upd H p o) p o' = upd H p o' := by
  funext b
  by_cases h : b = p
  · subst h
    rw [upd_same, upd_same]
  · rw [upd_ne h, upd_ne h, upd_ne h]
theorem upd_id {H : Hp} {p : Addr} {o : HO} (h : H p = some o) : upd H p o = H := by
  funext b
  by_cases e : b = p
  · subst e
    rw [upd_same, h]
  · rw [upd_ne e]
theorem ifN {c : Bool} {A B : Prop} (h1 : c = false → A) (h2 : c = true → B) : if (!c) = true then A else B := by
  cases c with
  | true => exact h2 rfl
  | false => exact h1 rfl
theorem ifJ {c : Bool} {A B : Prop} (h1 : B) (h2 : c = true → B → A) : if c = true then A else B := by
  cases c with
  | true => exact h2 rfl h1
  | false => exact h1
theorem ifB {c : Bool} {A B : Prop} (h1 : c = true → A) (h2 : c = false → B) : if c = true then A else B := by
  cases c with
  | true => exact h1 rfl
  | false => exact h2 rfl
section
variable {X : Cx}
theorem pgI {x : Str} {n : Int} {t : Tok} {pos : Pos} (hm : X.mg x = some (.int n t)) (hg : Gl X x := by rfl) (hd : (x == ("__debug__" : Str)) = false := by decide) : PE X (.Name x pos) (tC (.int n)) := pe_glob (v := .int n) hg hm ⟨t, rfl⟩ hd
theorem pgR {x : Str} {a : Addr} {pos : Pos} (hm : X.mg x = some (.ref a)) (hg : Gl X x := by rfl) (hd : (x == ("__debug__" : Str)) = false := by decide) : PE X (.Name x pos) (tC (.ref a)) := pe_glob (v := .ref a) hg hm rfl hd
theorem ix_listK {K : PySem.W.Frag} (h : X.K = K := by rfl) : IxR X (rIxL K) := by
  subst h
  exact ix_list
theorem ix_tupK {K : PySem.W.Frag} (h : X.K = K := by rfl) : IxR X (rIxT K) := by
  subst h
  exact ix_tup
end
theorem gtK {X : Cx} {K : PySem.W.Frag} {n : Nat} {es : List Expr} {k : Nat} {pos : Pos} {t : TGs} (hK : X.K = K) (hc : X.calm = true) (h : PGs X es t) (hn : (assignEach es X.env).length = n) (hst : (assignEach es X.env).findIdx? (·.1) = none) : PG X (.Tuple es k pos) (gTup K n t) := by
  subst hK
  subst hn
  exact pg_tup hc h rfl hst
theorem pe_fldK {X : Cx} {K : PySem.W.Frag} {e : Expr} {f : Str} {pos : Pos} {ta : TE} (hK : X.K = K) (he : PE X e ta) (hb : attributeBase e f X.env (eval e X.env) = eval e X.env) : PE X (.Attribute e f pos) (tFld K ta f) := by
  subst hK
  exact pe_fld he hb
section
variable (P : Program) (w : World) (K : PySem.W.Frag) (mg : Str → Option Value) (base : Heap)
/-- a def that may be called by its name -/
structure CalF (k : Nat) (nm : Str) (ps : List Str) (sp : Sp) (f : Addr) (fd : FuncData) : Prop where
  g : mg nm = some (.ref f)
  kp : PySem.W.keepIn K (.ref f) = true
  b : Binds K fd ps []
  G : FnOk P w K mg base CX0 k f fd ps sp
structure CalM (C : Addr) (k : Nat) (nm : Str) (ps : List Str) (sp : Sp) (f : Addr) (fd : FuncData) : Prop where
  c : Cls K C
  m : Meth K C nm f
  b : Binds K fd ps []
  G : FnOk P w K mg base CX0 k f fd ps sp
/-- a class that may be called by its name -/
structure CalC (C : Addr) (k : Nat) (nm : Str) (ps : List Str) (sp : Sp) (f : Addr) (fd : FuncData) : Prop where
  M : Mk K C f
  g : mg nm = some (.ref C)
  b : Binds K fd ps []
  I : FnOk P w K mg base CX0 k f fd ps sp
end
/-! ### fields -/
def bdF (r t m l : Addr) (z le as : Bool) (bt : Int) (sv : V) (la : Nat) (tv dv : V) : List (Str × V) :=
  [("registers", .ref r), ("zero", .bl z), ("lets", .bl le), ("asleep", .bl as), ("beat", .int bt), ("stopped", sv), ("sent", .ref t), ("memory", .ref m), ("line", .ref l), ("line_at", .int (la : Int)), ("touched", tv), ("did", dv), ("bend", .int 0)]
def mmF (w s : Addr) : List (Str × V) := [("words", .ref w), ("swapped", .ref s)]
section
variable {r t m l w s : Addr} {z le as z' : Bool} {bt bt' : Int} {la : Nat} {sv tv dv v : V}
theorem bF_reg : (bdF r t m l z le as bt sv la tv dv).lookup ("registers" : Str) = some (.ref r) := by kernel_rfl
theorem bF_zero : (bdF r t m l z le as bt sv la tv dv).lookup ("zero" : Str) = some (.bl z) := by kernel_rfl
theorem bF_lets : (bdF r t m l z le as bt sv la tv dv).lookup ("lets" : Str) = some (.bl le) := by kernel_rfl
theorem bF_asleep : (bdF r t m l z le as bt sv la tv dv).lookup ("asleep" : Str) = some (.bl as) := by kernel_rfl
theorem bF_beat : (bdF r t m l z le as bt sv la tv dv).lookup ("beat" : Str) = some (.int bt) := by kernel_rfl
theorem bF_stop : (bdF r t m l z le as bt sv la tv dv).lookup ("stopped" : Str) = some sv := by kernel_rfl
theorem bF_sent : (bdF r t m l z le as bt sv la tv dv).lookup ("sent" : Str) = some (.ref t) := by kernel_rfl
theorem bF_mem : (bdF r t m l z le as bt sv la tv dv).lookup ("memory" : Str) = some (.ref m) := by kernel_rfl
theorem bF_line : (bdF r t m l z le as bt sv la tv dv).lookup ("line" : Str) = some (.ref l) := by kernel_rfl
theorem bF_la : (bdF r t m l z le as bt sv la tv dv).lookup ("line_at" : Str) = some (.int (la : Int)) := by kernel_rfl
theorem bF_bend : (bdF r t m l z le as bt sv la tv dv).lookup ("bend" : Str) = some (.int 0) := by kernel_rfl
theorem bP_bend : putF "bend" (.int 0) (bdF r t m l z le as bt sv la tv dv) = bdF r t m l z le as bt sv la tv dv := by kernel_rfl
theorem bP_zero : putF "zero" (.bl z') (bdF r t m l z le as bt sv la tv dv) = bdF r t m l z' le as bt sv la tv dv := by kernel_rfl
theorem bP_lets : putF "lets" (.bl z') (bdF r t m l z le as bt sv la tv dv) = bdF r t m l z z' as bt sv la tv dv := by kernel_rfl
theorem bP_asleep : putF "asleep" (.bl z') (bdF r t m l z le as bt sv la tv dv) = bdF r t m l z le z' bt sv la tv dv := by kernel_rfl
theorem bP_beat : putF "beat" (.int bt') (bdF r t m l z le as bt sv la tv dv) = bdF r t m l z le as bt' sv la tv dv := by kernel_rfl
theorem bP_la {n : Nat} : putF "line_at" (.int ((la : Int) + 1)) (bdF r t m l z le as bt sv la tv dv) = bdF r t m l z le as bt sv (la + 1) tv dv := by kernel_rfl
theorem bP_stop : putF "stopped" v (bdF r t m l z le as bt sv la tv dv) = bdF r t m l z le as bt v la tv dv := by kernel_rfl
theorem bP_tou : putF "touched" v (bdF r t m l z le as bt sv la tv dv) = bdF r t m l z le as bt sv la v dv := by kernel_rfl
theorem bP_did : putF "did" v (bdF r t m l z le as bt sv la tv dv) = bdF r t m l z le as bt sv la tv v := by kernel_rfl
theorem bF_len : (bdF r t m l z le as bt sv la tv dv).length = 13 := rfl
theorem mF_w : (mmF w s).lookup ("words" : Str) = some (.ref w) := by kernel_rfl
theorem mF_s : (mmF w s).lookup ("swapped" : Str) = some (.ref s) := by kernel_rfl
theorem bN_coming : (bdF r t m l z le as bt sv la tv dv).lookup ("coming" : Str) = none := by kernel_rfl
theorem bN_do : (bdF r t m l z le as bt sv la tv dv).lookup ("do_deed" : Str) = none := by kernel_rfl
theorem bN_may : (bdF r t m l z le as bt sv la tv dv).lookup ("may_touch" : Str) = none := by kernel_rfl
theorem bN_pbt : (bdF r t m l z le as bt sv la tv dv).lookup ("put_by_turn" : Str) = none := by kernel_rfl
theorem bN_pw : (bdF r t m l z le as bt sv la tv dv).lookup ("put_word" : Str) = none := by kernel_rfl
theorem bN_pass : (bdF r t m l z le as bt sv la tv dv).lookup ("pass_beats" : Str) = none := by kernel_rfl
theorem bN_come : (bdF r t m l z le as bt sv la tv dv).lookup ("come_line" : Str) = none := by kernel_rfl
theorem bN_begin : (bdF r t m l z le as bt sv la tv dv).lookup ("begin_interrupt" : Str) = none := by kernel_rfl
theorem bN_stop : (bdF r t m l z le as bt sv la tv dv).lookup ("stop" : Str) = none := by kernel_rfl
theorem bN_turn : (bdF r t m l z le as bt sv la tv dv).lookup ("turn" : Str) = none := by kernel_rfl
theorem mN_at : (mmF w s).lookup ("word_at" : Str) = none := by kernel_rfl
theorem mN_read : (mmF w s).lookup ("read" : Str) = none := by kernel_rfl
theorem mN_put : (mmF w s).lookup ("put" : Str) = none := by kernel_rfl
theorem mN_called : (mmF w s).lookup ("called_flags" : Str) = none := by kernel_rfl
theorem mN_take : (mmF w s).lookup ("take_line" : Str) = none := by kernel_rfl
theorem mN_timer : (mmF w s).lookup ("go_timer" : Str) = none := by kernel_rfl
end
def regD (a b pc sp : Int) : List (Key × V) := [(Sum.inr "a", .int a), (Sum.inr "b", .int b), (Sum.inr "pc", .int pc), (Sum.inr "sp", .int sp)]
section
variable {a b pc sp v : Int}
theorem rG_a : valV (regD a b pc sp) (Sum.inr "a") = some (.int a) := by kernel_rfl
theorem rG_b : valV (regD a b pc sp) (Sum.inr "b") = some (.int b) := by kernel_rfl
theorem rG_pc : valV (regD a b pc sp) (Sum.inr "pc") = some (.int pc) := by kernel_rfl
theorem rG_sp : valV (regD a b pc sp) (Sum.inr "sp") = some (.int sp) := by kernel_rfl
theorem rP_a : putK (regD a b pc sp) (Sum.inr "a") (.int v) = regD v b pc sp := by kernel_rfl
theorem rP_b : putK (regD a b pc sp) (Sum.inr "b") (.int v) = regD a v pc sp := by kernel_rfl
theorem rP_pc : putK (regD a b pc sp) (Sum.inr "pc") (.int v) = regD a b v sp := by kernel_rfl
theorem rP_sp : putK (regD a b pc sp) (Sum.inr "sp") (.int v) = regD a b pc v := by kernel_rfl
end
/-! ### lists of tuples -/
def TupsAt (H : Hp) : List V → List (Int × Int) → Prop := Paired fun v u => ∃ t, v = .ref t ∧ H t = some (.tup [.int u.1, .int u.2])
theorem TupsAt.mono {H H' : Hp} (k : ∀ t xs, H t = some (.tup xs) → H' t = some (.tup xs)) : ∀ {us : List V} {ls : List (Int × Int)}, TupsAt H us ls → TupsAt H' us ls
  | _, _, .nil => .nil
  | _, _, .cons h r => .cons (let ⟨t, e, q⟩ := h; ⟨t, e, k _ _ q⟩) (TupsAt.mono k r)
theorem TupsAt.snoc {H : Hp} {t : Addr} {u : Int × Int} (ht : H t = some (.tup [.int u.1, .int u.2])) : ∀ {us : List V} {ls : List (Int × Int)}, TupsAt H us ls → TupsAt H (us ++ [.ref t]) (ls ++ [u])
  | _, _, .nil => .cons ⟨t, rfl, ht⟩ .nil
  | _, _, .cons h r => .cons h (TupsAt.snoc ht r)
theorem TupsAt.len {H : Hp} : ∀ {us : List V} {ls : List (Int × Int)}, TupsAt H us ls → us.length = ls.length
  | _, _, .nil => rfl
  | _, _, .cons _ r => by rw [List.length_cons, List.length_cons, TupsAt.len r]
theorem TupsAt.get {H : Hp} : ∀ {us : List V} {ls : List (Int × Int)} {i : Nat}, TupsAt H us ls → i < ls.length → ∃ t, us[i]? = some (.ref t) ∧ H t = some (.tup [.int (ls.getD i (0, 0)).1, .int (ls.getD i (0, 0)).2])
  | _, _, _, .nil, h => by cases h
  | _, _, 0, .cons h r, _ => by
    obtain ⟨t, rfl, q⟩ := h
    exact ⟨t, rfl, q⟩
  | _, _, i + 1, .cons h r, hi => by
    obtain ⟨t, e1, e2⟩ := TupsAt.get (i := i) r (by rw [List.length_cons] at hi; omega)
    exact ⟨t, by rw [List.getElem?_cons_succ]; exact e1, by rw [List.getD_cons_succ]; exact e2⟩
/-! ### the board -/
structure Ad where
  dx : Addr
  r : Addr
  m : Addr
  dm : Addr
  w : Addr
  s : Addr
  t : Addr
  l : Addr
def StopAt (H : Hp) (v : V) : Option (Str × List Int) → Prop
  | none => v = .non
  | some r => ∃ q, v = .ref q ∧ H q = some (.tup (.str r.1 :: r.2.map V.int))
theorem StopAt.mono {H H' : Hp} (k : ∀ t xs, H t = some (.tup xs) → H' t = some (.tup xs)) {v : V} : ∀ {o : Option (Str × List Int)}, StopAt H v o → StopAt H' v o
  | none, h => h
  | some r, ⟨q, e, h⟩ => ⟨q, e, k _ _ h⟩
structure Bp (CB CM : Addr) (H0 H : Hp) (p : Addr) (A : Ad) (ts ls : List V) (x : Bd) : Prop where
  sm : Same H0 H
  fp : H0 p = none
  fr : H0 A.r = none
  fw : H0 A.w = none
  ft : H0 A.t = none
  fm : H0 A.m = none
  fs : H0 A.s = none
  fl : H0 A.l = none
  hp : ∃ sv tv dv, H p = some (.ins CB A.dx (bdF A.r A.t A.m A.l x.zero x.lets x.asleep x.beat sv x.la tv dv)) ∧ StopAt H sv x.stop
  hr : H A.r = some (.dK (regD x.a x.b x.pc x.sp))
  hm : H A.m = some (.ins CM A.dm (mmF A.w A.s))
  hw : H A.w = some (.lst (x.mem.map V.int))
  hs : H A.s = some (.dK [])
  ht : H A.t = some (.lst ts)
  hl : H A.l = some (.lst ls)
  pm : p ≠ A.m
  rs : A.r ≠ A.s
  wt : A.w ≠ A.t
  wl : A.w ≠ A.l
  tl : A.t ≠ A.l
  us : TupsAt H ts x.sent
  ll : TupsAt H ls x.line
  lm : x.mem.length = 774
def BoardAt (CB CM : Addr) (H0 H : Hp) (p : Addr) (x : Bd) : Prop := ∃ A ts ls, Bp CB CM H0 H p A ts ls x
section
variable {CB CM p : Addr} {H0 H : Hp} {A : Ad} {ts ls : List V} {x : Bd}
theorem Bp.more (h : Bp CB CM H0 H p A ts ls x) {q : Addr} {o : HO} (hq : H q = none) : Bp CB CM H0 (upd H q o) p A ts ls x where
  sm := h.sm.trans (same_upd' hq)
  fp := h.fp
  fr := h.fr
  fw := h.fw
  ft := h.ft
  fm := h.fm
  fs := h.fs
  fl := h.fl
  hp := let ⟨sv, tv, dv, e, z⟩ := h.hp; ⟨sv, tv, dv, same_upd' hq _ _ e, z.mono fun t xs e => same_upd' hq _ _ e⟩
  hr := same_upd' hq _ _ h.hr
  hm := same_upd' hq _ _ h.hm
  hw := same_upd' hq _ _ h.hw
  hs := same_upd' hq _ _ h.hs
  ht := same_upd' hq _ _ h.ht
  hl := same_upd' hq _ _ h.hl
  pm := h.pm
  rs := h.rs
  wt := h.wt
  wl := h.wl
  tl := h.tl
  us := h.us.mono fun t xs e => same_upd' hq _ _ e
  ll := h.ll.mono fun t xs e => same_upd' hq _ _ e
  lm := h.lm
/-- its object changes -/
theorem Bp.fld (h : Bp CB CM H0 H p A ts ls x) {z le as : Bool} {bt : Int} {sv : V} {la : Nat} {tv dv : V} {so : Option (Str × List Int)} (hso : StopAt H sv so) : Bp CB CM H0 (upd H p (.ins CB A.dx (bdF A.r A.t A.m A.l z le as bt sv la tv dv))) p A ts ls { x with zero := z, lets := le, asleep := as, beat := bt, la := la, stop := so } := by
  obtain ⟨sv0, tv0, dv0, hp, hz⟩ := h.hp
  exact {
    sm := same_of h.sm h.fp
    fp := h.fp
    fr := h.fr
    fw := h.fw
    ft := h.ft
    fm := h.fm
    fs := h.fs
    fl := h.fl
    hp := ⟨sv, tv, dv, upd_same, hso.mono fun t xs e => by rw [upd_ne (ne_of e hp (by intro q; cases q))]; exact e⟩
    hr := by rw [upd_ne (ne_of h.hr hp (by intro q; cases q))]; exact h.hr
    hm := by rw [upd_ne h.pm.symm]; exact h.hm
    hw := by rw [upd_ne (ne_of h.hw hp (by intro q; cases q))]; exact h.hw
    hs := by rw [upd_ne (ne_of h.hs hp (by intro q; cases q))]; exact h.hs
    ht := by rw [upd_ne (ne_of h.ht hp (by intro q; cases q))]; exact h.ht
    hl := by rw [upd_ne (ne_of h.hl hp (by intro q; cases q))]; exact h.hl
    pm := h.pm
    rs := h.rs
    wt := h.wt
    wl := h.wl
    tl := h.tl
    us := h.us.mono fun t xs e => by rw [upd_ne (ne_of e hp (by intro q; cases q))]; exact e
    ll := h.ll.mono fun t xs e => by rw [upd_ne (ne_of e hp (by intro q; cases q))]; exact e
    lm := h.lm }
theorem Bp.regs (h : Bp CB CM H0 H p A ts ls x) {a b pc sp : Int} : Bp CB CM H0 (upd H A.r (.dK (regD a b pc sp))) p A ts ls { x with a := a, b := b, pc := pc, sp := sp } := by
  obtain ⟨sv0, tv0, dv0, hp, hz⟩ := h.hp
  exact {
    sm := same_of h.sm h.fr
    fp := h.fp
    fr := h.fr
    fw := h.fw
    ft := h.ft
    fm := h.fm
    fs := h.fs
    fl := h.fl
    hp := ⟨sv0, tv0, dv0, by rw [upd_ne (ne_of hp h.hr (by intro q; cases q))]; exact hp, hz.mono fun t xs e => by rw [upd_ne (ne_of e h.hr (by intro q; cases q))]; exact e⟩
    hr := upd_same
    hm := by rw [upd_ne (ne_of h.hm h.hr (by intro q; cases q))]; exact h.hm
    hw := by rw [upd_ne (ne_of h.hw h.hr (by intro q; cases q))]; exact h.hw
    hs := by rw [upd_ne h.rs.symm]; exact h.hs
    ht := by rw [upd_ne (ne_of h.ht h.hr (by intro q; cases q))]; exact h.ht
    hl := by rw [upd_ne (ne_of h.hl h.hr (by intro q; cases q))]; exact h.hl
    pm := h.pm
    rs := h.rs
    wt := h.wt
    wl := h.wl
    tl := h.tl
    us := h.us.mono fun t xs e => by rw [upd_ne (ne_of e h.hr (by intro q; cases q))]; exact e
    ll := h.ll.mono fun t xs e => by rw [upd_ne (ne_of e h.hr (by intro q; cases q))]; exact e
    lm := h.lm }
theorem Bp.wds (h : Bp CB CM H0 H p A ts ls x) {m : List Int} (hm : m.length = 774) : Bp CB CM H0 (upd H A.w (.lst (m.map V.int))) p A ts ls { x with mem := m } := by
  obtain ⟨sv0, tv0, dv0, hp, hz⟩ := h.hp
  exact {
    sm := same_of h.sm h.fw
    fp := h.fp
    fr := h.fr
    fw := h.fw
    ft := h.ft
    fm := h.fm
    fs := h.fs
    fl := h.fl
    hp := ⟨sv0, tv0, dv0, by rw [upd_ne (ne_of hp h.hw (by intro q; cases q))]; exact hp, hz.mono fun t xs e => by rw [upd_ne (ne_of e h.hw (by intro q; cases q))]; exact e⟩
    hr := by rw [upd_ne (ne_of h.hr h.hw (by intro q; cases q))]; exact h.hr
    hm := by rw [upd_ne (ne_of h.hm h.hw (by intro q; cases q))]; exact h.hm
    hw := upd_same
    hs := by rw [upd_ne (ne_of h.hs h.hw (by intro q; cases q))]; exact h.hs
    ht := by rw [upd_ne h.wt.symm]; exact h.ht
    hl := by rw [upd_ne h.wl.symm]; exact h.hl
    pm := h.pm
    rs := h.rs
    wt := h.wt
    wl := h.wl
    tl := h.tl
    us := h.us.mono fun t xs e => by rw [upd_ne (ne_of e h.hw (by intro q; cases q))]; exact e
    ll := h.ll.mono fun t xs e => by rw [upd_ne (ne_of e h.hw (by intro q; cases q))]; exact e
    lm := hm }
theorem Bp.snd (h : Bp CB CM H0 H p A ts ls x) {q : Addr} {u : Int × Int} (hq : H q = some (.tup [.int u.1, .int u.2])) : Bp CB CM H0 (upd H A.t (.lst (ts ++ [.ref q]))) p A (ts ++ [.ref q]) ls { x with sent := x.sent ++ [u] } := by
  obtain ⟨sv0, tv0, dv0, hp, hz⟩ := h.hp
  exact {
    sm := same_of h.sm h.ft
    fp := h.fp
    fr := h.fr
    fw := h.fw
    ft := h.ft
    fm := h.fm
    fs := h.fs
    fl := h.fl
    hp := ⟨sv0, tv0, dv0, by rw [upd_ne (ne_of hp h.ht (by intro q; cases q))]; exact hp, hz.mono fun t xs e => by rw [upd_ne (ne_of e h.ht (by intro q; cases q))]; exact e⟩
    hr := by rw [upd_ne (ne_of h.hr h.ht (by intro q; cases q))]; exact h.hr
    hm := by rw [upd_ne (ne_of h.hm h.ht (by intro q; cases q))]; exact h.hm
    hw := by rw [upd_ne h.wt]; exact h.hw
    hs := by rw [upd_ne (ne_of h.hs h.ht (by intro q; cases q))]; exact h.hs
    ht := upd_same
    hl := by rw [upd_ne h.tl.symm]; exact h.hl
    pm := h.pm
    rs := h.rs
    wt := h.wt
    wl := h.wl
    tl := h.tl
    us := (TupsAt.snoc hq h.us).mono fun t xs e => by rw [upd_ne (ne_of e h.ht (by intro q; cases q))]; exact e
    ll := h.ll.mono fun t xs e => by rw [upd_ne (ne_of e h.ht (by intro q; cases q))]; exact e
    lm := h.lm }
end
theorem Bp.same {CB CM p : Addr} {H0 H H1 : Hp} {A : Ad} {ts ls : List V} {x : Bd} (h : Bp CB CM H0 H p A ts ls x) (s : Same H H1) : Bp CB CM H0 H1 p A ts ls x where
  sm := h.sm.trans s
  fp := h.fp
  fr := h.fr
  fw := h.fw
  ft := h.ft
  fm := h.fm
  fs := h.fs
  fl := h.fl
  hp := let ⟨sv, tv, dv, e, z⟩ := h.hp; ⟨sv, tv, dv, s _ _ e, z.mono fun t xs e => s _ _ e⟩
  hr := s _ _ h.hr
  hm := s _ _ h.hm
  hw := s _ _ h.hw
  hs := s _ _ h.hs
  ht := s _ _ h.ht
  hl := s _ _ h.hl
  pm := h.pm
  rs := h.rs
  wt := h.wt
  wl := h.wl
  tl := h.tl
  us := h.us.mono fun t xs e => s _ _ e
  ll := h.ll.mono fun t xs e => s _ _ e
  lm := h.lm
/-- all that is not the board's own stands in the base -/
def baseOf (H : Hp) (p : Addr) (A : Ad) : Hp := fun b => if b = p ∨ b = A.r ∨ b = A.w ∨ b = A.t ∨ b = A.m ∨ b = A.s ∨ b = A.l then none else H b
theorem Bp.rebase {CB CM p : Addr} {H0 H : Hp} {A : Ad} {ts ls : List V} {x : Bd} (h : Bp CB CM H0 H p A ts ls x) : Bp CB CM (baseOf H p A) H p A ts ls x where
  sm := fun b o e => by
    unfold baseOf at e
    split at e
    · cases e
    · exact e
  fp := if_pos (.inl rfl)
  fr := if_pos (.inr (.inl rfl))
  fw := if_pos (.inr (.inr (.inl rfl)))
  ft := if_pos (.inr (.inr (.inr (.inl rfl))))
  fm := if_pos (.inr (.inr (.inr (.inr (.inl rfl)))))
  fs := if_pos (.inr (.inr (.inr (.inr (.inr (.inl rfl))))))
  fl := if_pos (.inr (.inr (.inr (.inr (.inr (.inr rfl))))))
  hp := h.hp
  hr := h.hr
  hm := h.hm
  hw := h.hw
  hs := h.hs
  ht := h.ht
  hl := h.hl
  pm := h.pm
  rs := h.rs
  wt := h.wt
  wl := h.wl
  tl := h.tl
  us := h.us
  ll := h.ll
  lm := h.lm
theorem Bp.base_at {CB CM p : Addr} {H0 H : Hp} {A : Ad} {ts ls : List V} {x : Bd} (h : Bp CB CM H0 H p A ts ls x) {b : Addr} (h1 : b ≠ p) (h2 : b ≠ A.r) (h3 : b ≠ A.w) (h4 : b ≠ A.t) (h5 : b ≠ A.m) (h6 : b ≠ A.s) (h7 : b ≠ A.l) : baseOf H p A b = H b := if_neg fun z => by
  rcases z with z | z | z | z | z | z | z
  · exact h1 z
  · exact h2 z
  · exact h3 z
  · exact h4 z
  · exact h5 z
  · exact h6 z
  · exact h7 z
theorem Bp.base_tup {CB CM p : Addr} {H0 H : Hp} {A : Ad} {ts ls : List V} {x : Bd} (h : Bp CB CM H0 H p A ts ls x) : ∀ t xs, H t = some (.tup xs) → baseOf H p A t = some (.tup xs) := fun t xs e => by
  obtain ⟨sv, tv, dv, hp, _⟩ := h.hp
  rw [h.base_at (ne_of e hp (by intro q; cases q)) (ne_of e h.hr (by intro q; cases q)) (ne_of e h.hw (by intro q; cases q)) (ne_of e h.ht (by intro q; cases q)) (ne_of e h.hm (by intro q; cases q)) (ne_of e h.hs (by intro q; cases q)) (ne_of e h.hl (by intro q; cases q))]
  exact e
theorem Bp.base_same {CB CM p : Addr} {H0 H : Hp} {A : Ad} {ts ls : List V} {x : Bd} (h : Bp CB CM H0 H p A ts ls x) : Same H0 (baseOf H p A) := fun b o e => by
  rw [h.base_at (ne_of_none e h.fp) (ne_of_none e h.fr) (ne_of_none e h.fw) (ne_of_none e h.ft) (ne_of_none e h.fm) (ne_of_none e h.fs) (ne_of_none e h.fl)]
  exact h.sm _ _ e
theorem Bp.base_eq {CB CM p : Addr} {H0 H : Hp} {A : Ad} {ts ls : List V} {x : Bd} (h : Bp CB CM H0 H p A ts ls x) {H' : Hp} {b : Addr} {o : HO} (e : H0 b = some o) : baseOf H' p A b = H' b := if_neg fun z => by
  rcases z with z | z | z | z | z | z | z
  · exact ne_of_none e h.fp z
  · exact ne_of_none e h.fr z
  · exact ne_of_none e h.fw z
  · exact ne_of_none e h.ft z
  · exact ne_of_none e h.fm z
  · exact ne_of_none e h.fs z
  · exact ne_of_none e h.fl z
theorem BoardAt.unbase {CB CM p : Addr} {H0 H1 H : Hp} {x : Bd} (s : Same H0 H1) (h : BoardAt CB CM H1 H p x) : BoardAt CB CM H0 H p x := by
  obtain ⟨A, ts, ls, h⟩ := h
  exact ⟨A, ts, ls, {
    sm := s.trans h.sm
    fp := s.free h.fp
    fr := s.free h.fr
    fw := s.free h.fw
    ft := s.free h.ft
    fm := s.free h.fm
    fs := s.free h.fs
    fl := s.free h.fl
    hp := h.hp
    hr := h.hr
    hm := h.hm
    hw := h.hw
    hs := h.hs
    ht := h.ht
    hl := h.hl
    pm := h.pm
    rs := h.rs
    wt := h.wt
    wl := h.wl
    tl := h.tl
    us := h.us
    ll := h.ll
    lm := h.lm }⟩
theorem dg {H : Hp} {r : Addr} {kvs : List (Key × V)} {k : Key} {v : V} (e : H r = some (.dK kvs)) (h : valV kvs k = some v) : DGet H r (kV k) (some v) := h ▸ DGet.k e
theorem dp {H : Hp} {r : Addr} {a b pc sp : Int} {kvs : List (Key × V)} {k : Key} {v : V} (e : H r = some (.dK (regD a b pc sp))) (h : putK (regD a b pc sp) k v = kvs) : DPut H r (kV k) v (upd H r (.dK kvs)) := by
  subst h
  exact DPut.k e (by show 4 < sizeLine; decide)
end Bh

/-! The program's small defs: the memory, what words and images are. -/
namespace Bh
open PySem PySem.Spec PyProof.Rows L2
def topS (i : Nat) : Stmt := PySem.Challenge.pw_boardheld_k12_calls_and_the_stack.main.body.getD i (.Pass ⟨0, 0, 0, 0⟩)
def rdN : List Str := ["get", "add", "sub", "and", "xor"]
def opN : List Str := ["mark", "lit", "get", "put", "add", "sub", "and", "xor", "getb", "putb", "tob", "swap", "go", "ifz", "ifn", "call", "ret", "push", "pop", "sleep", "let", "back", "half"]
structure Tx (K : PySem.W.Frag) (mg : Str → Option Value) (CB CM : Addr) : Prop where
  g_FLASH_END : ∃ t, mg "FLASH_END" = some (.int 512 t)
  g_RAM_END : ∃ t, mg "RAM_END" = some (.int 768 t)
  g_PLACES_END : ∃ t, mg "PLACES_END" = some (.int 774 t)
  g_COUNT : ∃ t, mg "COUNT" = some (.int 768 t)
  g_TOP : ∃ t, mg "TOP" = some (.int 769 t)
  g_FLAGS : ∃ t, mg "FLAGS" = some (.int 770 t)
  g_MASK : ∃ t, mg "MASK" = some (.int 771 t)
  g_LINE_IN : ∃ t, mg "LINE_IN" = some (.int 772 t)
  g_LINE_OUT : ∃ t, mg "LINE_OUT" = some (.int 773 t)
  g_TIMER_FLAG : ∃ t, mg "TIMER_FLAG" = some (.int 1 t)
  g_LINE_FLAG : ∃ t, mg "LINE_FLAG" = some (.int 2 t)
  g_WORD_MOST : ∃ t, mg "WORD_MOST" = some (.int 65535 t)
  g_ERASED : ∃ t, mg "ERASED" = some (.int 65535 t)
  g_X_SPAN : ∃ t, mg "X_SPAN" = some (.int 1024 t)
  g_LINE_MOST : ∃ t, mg "LINE_MOST" = some (.int 3 t)
  g_STACK_TOP : ∃ t, mg "STACK_TOP" = some (.int 767 t)
  g_INTERRUPT_BEATS : ∃ t, mg "INTERRUPT_BEATS" = some (.int 3 t)
  g_TIMER_PC : ∃ t, mg "TIMER_PC" = some (.int 1 t)
  g_LINE_PC : ∃ t, mg "LINE_PC" = some (.int 2 t)
  g_WORDS : ∃ t, mg "WORDS" = some (.int 65536 t)
  g_HIGH : ∃ t, mg "HIGH" = some (.int 32768 t)
  z_len : mg "len" = none
  z_range : mg "range" = none
  z_isinstance : mg "isinstance" = none
  z_all : mg "all" = none
  z_int : mg "int" = none
  z_bool : mg "bool" = none
  z_list : mg "list" = none
  z_tuple : mg "tuple" = none
  z_divmod : mg "divmod" = none
  g_READS_AT_X : ∃ a, mg "READS_AT_X" = some (.ref a) ∧ ∀ H, SqT K H a (rdN.map V.str)
  g_OP_NAMES : ∃ a, mg "OP_NAMES" = some (.ref a) ∧ ∀ H, SqT K H a (opN.map V.str)
  cB : Cls K CB
  cM : Cls K CM
  n_registers : NoAttr K CB "registers"
  n_zero : NoAttr K CB "zero"
  n_lets : NoAttr K CB "lets"
  n_asleep : NoAttr K CB "asleep"
  n_beat : NoAttr K CB "beat"
  n_stopped : NoAttr K CB "stopped"
  n_sent : NoAttr K CB "sent"
  n_memory : NoAttr K CB "memory"
  n_line : NoAttr K CB "line"
  n_line_at : NoAttr K CB "line_at"
  n_touched : NoAttr K CB "touched"
  n_did : NoAttr K CB "did"
  n_bend : NoAttr K CB "bend"
  n_words : NoAttr K CM "words"
  n_swapped : NoAttr K CM "swapped"
structure MemAt (CM : Addr) (H : Hp) (m dm w s : Addr) (mem : List Int) : Prop where
  hm : H m = some (.ins CM dm (mmF w s))
  hw : H w = some (.lst (mem.map V.int))
  hs : H s = some (.dK [])
  lm : mem.length = 774
theorem Bp.mem {CB CM p : Addr} {H0 H : Hp} {A : Ad} {ts ls : List V} {x : Bd} (h : Bp CB CM H0 H p A ts ls x) : MemAt CM H A.m A.dm A.w A.s x.mem := ⟨h.hm, h.hw, h.hs, h.lm⟩
def kS (b : Bool) : Str := if b = true then "w" else "r"
theorem ne_wr : decide (V.str "w" = V.str "r") = false := by decide +kernel
theorem hsz {n : Nat} (h : n ≤ 100000) : n ≤ sizeLine := Nat.le_trans h (by decide)
theorem natI {n k : Nat} (h : n < k) : (n : Int) < k := by omega
def oS : Option Str → V
  | none => .non
  | some w => .str w
def spBar : Sp := fun vs H Q _ => ∃ t : Bool × Int, vs = [.str (kS t.1), .int t.2] ∧ Q (oS (barM t)) H
def spMRead (CM : Addr) : Sp := fun vs H Q _ => ∃ (m dm w s : Addr) (mem : List Int) (i pc : Int), vs = [.ref m, .int i, .int pc] ∧ MemAt CM H m dm w s mem ∧ 0 ≤ i ∧ i < 774 ∧ Q (.int (rd mem i)) H
def spMAt (CM : Addr) : Sp := fun vs H Q _ => ∃ (m dm w s : Addr) (mem : List Int) (i : Int), vs = [.ref m, .int i] ∧ MemAt CM H m dm w s mem ∧ 0 ≤ i ∧ i < 774 ∧ Q (.int (rd mem i)) H
def spMPut (CM : Addr) : Sp := fun vs H Q _ => ∃ (m dm w s : Addr) (mem : List Int) (i v : Int), vs = [.ref m, .int i, .int v] ∧ MemAt CM H m dm w s mem ∧ 0 ≤ i ∧ i < 774 ∧ Q .non (upd H w (.lst ((putMM i v mem).map V.int)))
def spMCall (CM : Addr) : Sp := fun vs H Q _ => ∃ (m dm w s : Addr) (mem : List Int), vs = [.ref m] ∧ MemAt CM H m dm w s mem ∧ Q (.int (Builtin.bitAnd (rd mem 770) (rd mem 771))) H
def spMTake (CM : Addr) : Sp := fun vs H Q _ => ∃ (m dm w s : Addr) (mem : List Int) (v : Int), vs = [.ref m, .int v] ∧ MemAt CM H m dm w s mem ∧ Q .non (upd H w (.lst ((takeLineM v mem).map V.int)))
def spMTim (CM : Addr) : Sp := fun vs H Q _ => ∃ (m dm w s : Addr) (mem : List Int), vs = [.ref m] ∧ MemAt CM H m dm w s mem ∧ Q .non (upd H w (.lst ((goTimerM mem).map V.int)))
def memOf (ns : List Int) : List Int := ns ++ List.replicate (512 - ns.length) 65535 ++ List.replicate 262 0
def spMI (CM : Addr) : Sp := fun vs H Q _ => ∃ (m dm im : Addr) (ns : List Int), vs = [.ref m, .ref im] ∧ H m = some (.ins CM dm []) ∧ H im = some (.lst (ns.map V.int)) ∧ ns.length ≤ 512 ∧
  ∀ (H' : Hp) (w s : Addr), MemAt CM H' m dm w s (memOf ns) → (∀ b o, b ≠ m → H b = some o → H' b = some o) → H w = none → H s = none → Q .non H'
def spWhole : Sp := fun vs H Q _ => ∃ i : Int, vs = [.int i] ∧ Q (.bl true) H
def spBetw : Sp := fun vs H Q _ => ∃ i a b : Int, vs = [.int i, .int a, .int b] ∧ Q (.bl (decide (a ≤ i ∧ i ≤ b))) H
def spWord : Sp := fun vs H Q _ => ∃ i : Int, vs = [.int i] ∧ Q (.bl (decide (0 ≤ i ∧ i ≤ 65535))) H
def WordsOk (ns : List Int) : Prop := ∀ n ∈ ns, 0 ≤ n ∧ n ≤ 65535
def spImg : Sp := fun vs H Q _ => ∃ (im : Addr) (ns : List Int), vs = [.ref im] ∧ H im = some (.lst (ns.map V.int)) ∧ ns.length ≤ 512 ∧ WordsOk ns ∧ ∀ H', Same H H' → Q (.bl true) H'
/-- the rows rise from behind n on -/
def riseM : Int → List (Int × Int) → Prop
  | _, [] => True
  | n, r :: rs => n < r.1 ∧ 0 ≤ r.2 ∧ r.2 ≤ 3 ∧ riseM r.1 rs
def spLRow : Sp := fun vs H Q _ => ∃ (t : Addr) (r : Int × Int) (n : Int), vs = [.ref t, .int n] ∧ H t = some (.tup [.int r.1, .int r.2]) ∧ n < r.1 ∧ 0 ≤ r.2 ∧ r.2 ≤ 3 ∧ Q (.bl true) H
def spLine : Sp := fun vs H Q _ => ∃ (l : Addr) (us : List V) (ls : List (Int × Int)), vs = [.ref l] ∧ H l = some (.lst us) ∧ TupsAt H us ls ∧ riseM 0 ls ∧ Q (.bl true) H
section
variable {P : Program} {w : World} {K : PySem.W.Frag} {mg : Str → Option Value} {base : Heap} {CB CM : Addr}
abbrev sFbar : Stmt := topS 46
def scFbarN : List Str := ["kind", "address"]
theorem scFbar : FnScope scFbarN ["kind", "address"] (defScope sFbar) := ⟨rfl, rfl, rfl, by decide +kernel, rfl, by decide +kernel, by decide +kernel⟩
theorem ok_Fbar {f : Addr} {fd : FuncData} (F : Fun K "bar_of" "bar_of" sFbar f fd) (T : Tx K mg CB CM) : FnOk P w K mg base CX0 1 f fd ["kind", "address"] (spBar) := by
  refine F.ok scFbar (fun vs H Q E h => by obtain ⟨t, rfl, _⟩ := h; rfl) (fun cdv A outer s H vs Q E hr h => ?_)
  have hu := hu_of hr
  obtain ⟨t_FLASH_END, g_FLASH_END⟩ := T.g_FLASH_END
  obtain ⟨t_LINE_IN, g_LINE_IN⟩ := T.g_LINE_IN
  obtain ⟨t_PLACES_END, g_PLACES_END⟩ := T.g_PLACES_END
  obtain ⟨⟨b, a⟩, rfl, q⟩ := h
  refine ⟨_, (pss_cons (ps_if (pt_not (pt_chain op_le op_lt pe_int (pv 1) (pgI g_PLACES_END))) (pss_one (ps_ret pe_str)) pss_nil)
    (pss_cons (ps_if (pt_cmpR op_eq (pv 0) pe_str (nomark _)) (pss_one (ps_ret pe_non)) pss_nil)
    (pss_cons (ps_if (pt_cmpR op_lt (pv 1) (pgI g_FLASH_END) (nomark _)) (pss_one (ps_ret pe_str)) pss_nil)
    (pss_cons (ps_if (pt_cmpR op_eq (pv 1) (pgI g_LINE_IN) (nomark _)) (pss_one (ps_ret pe_str)) pss_nil)
    (pss_one (ps_ret pe_non)))))), ?_⟩
  have far : ¬ (0 ≤ a ∧ a < 774) → Q (.str "far") H := fun h => by
    unfold barM at q
    rw [if_pos h] at q
    exact q
  refine ⟨_, rfl, _, _, rfl, rfl, _, rfl, ifB (fun t0 => ?_) (fun t0 => ⟨_, rfl, far fun z => absurd z.1 (of_decide_eq_false t0)⟩)⟩
  refine ⟨_, _, rfl, rfl, _, rfl, ifN (fun t1 => far fun z => absurd z.2 (of_decide_eq_false t1)) (fun t1 => ?_)⟩
  have t0 := of_decide_eq_true t0
  have t1 := of_decide_eq_true t1
  unfold barM at q
  rw [if_neg (fun z => z ⟨t0, t1⟩)] at q
  cases b with
  | false => exact ⟨_, rfl, rfl, _, rfl, q⟩
  | true =>
    refine ⟨_, rfl, rfl, _, rfl, ?_⟩
    show if decide (V.str "w" = V.str "r") = true then _ else _
    rw [ne_wr, if_neg Bool.false_ne_true]
    rw [if_neg (show ¬ ((true : Bool) = false) by decide)] at q
    refine ⟨_, rfl, _, _, rfl, rfl, _, rfl, ifB (fun h => ?_) (fun h => ?_)⟩
    · rw [if_pos (of_decide_eq_true h)] at q
      exact q
    · rw [if_neg (of_decide_eq_false h)] at q
      refine ⟨_, rfl, rfl, _, rfl, ifB (fun h2 => ?_) (fun h2 => ?_)⟩
      · rw [if_pos (V.int.inj (of_decide_eq_true h2))] at q
        exact q
      · rw [if_neg (fun z => of_decide_eq_false h2 (congrArg V.int z))] at q
        exact q
abbrev sMat : Stmt := inClass (topS 47) 1
def scMatN : List Str := ["self", "address"]
theorem scMat : FnScope scMatN ["self", "address"] (defScope sMat) := ⟨rfl, rfl, rfl, by decide +kernel, rfl, by decide +kernel, by decide +kernel⟩
theorem ok_Mat {f : Addr} {fd : FuncData} (F : Fun K "word_at" "Memory.word_at" sMat f fd) (T : Tx K mg CB CM) : FnOk P w K mg base CX0 1 f fd ["self", "address"] (spMAt CM) := by
  refine F.ok scMat (fun vs H Q E h => by obtain ⟨_, _, _, _, _, _, rfl, _⟩ := h; rfl) (fun cdv A outer s H vs Q E hr h => ?_)
  have hu := hu_of hr
  obtain ⟨t_PLACES_END, g_PLACES_END⟩ := T.g_PLACES_END
  obtain ⟨m, dm, w_, s_, mem, i, rfl, M, i0, i1, q⟩ := h
  refine ⟨_, (pss_cons (ps_if (pt_chain op_le op_lt pe_int (pv 1) (pgI g_PLACES_END)) (pss_one (ps_ret (pe_ix ix_list (pe_fld (pv 0) rfl) (pv 1) (fun _ _ => rfl)))) pss_nil)
    (pss_one (ps_ret pe_non))), ?_⟩
  refine ⟨_, rfl, _, _, rfl, rfl, _, rfl, ?_⟩
  rw [if_pos (decide_eq_true i0)]
  refine ⟨_, _, rfl, rfl, _, rfl, ifB (fun _ => ?_) (fun h => absurd i1 (of_decide_eq_false h))⟩
  exact ⟨_, rfl, m, CM, dm, _, _, rfl, M.hm, T.cM, T.n_words, mF_w, _, rfl, w_, _, _, _, rfl, rfl, SqL.of M.hw, atI_rd i0 (by rw [M.lm]; exact i1), q⟩
abbrev sMread : Stmt := inClass (topS 47) 2
def scMreadN : List Str := ["self", "address", "pc"]
theorem scMread : FnScope scMreadN ["self", "address", "pc"] (defScope sMread) := ⟨rfl, rfl, rfl, by decide +kernel, rfl, by decide +kernel, by decide +kernel⟩
theorem ok_Mread {f : Addr} {fd : FuncData} (F : Fun K "read" "Memory.read" sMread f fd) (T : Tx K mg CB CM) : FnOk P w K mg base CX0 1 f fd ["self", "address", "pc"] (spMRead CM) := by
  refine F.ok scMread (fun vs H Q E h => by obtain ⟨_, _, _, _, _, _, _, rfl, _⟩ := h; rfl) (fun cdv A outer s H vs Q E hr h => ?_)
  have hu := hu_of hr
  obtain ⟨m, dm, w_, s_, mem, i, pc, rfl, M, i0, i1, q⟩ := h
  refine ⟨_, (pss_cons (ps_if (PW.pt (pw_and (pt_cmp (pc_din hu (pv 1) (pe_fld (pv 0) rfl))) (pw_and1 (pt_cmpR op_ne (pv 1) (pv 2) (nomark _))))) (pss_one (ps_ret pe_int)) pss_nil)
    (pss_one (ps_ret (pe_ix ix_list (pe_fld (pv 0) rfl) (pv 1) (fun _ _ => rfl))))), ?_⟩
  refine ⟨_, rfl, _, rfl, m, CM, dm, _, _, rfl, M.hm, T.cM, T.n_swapped, mF_s, s_, _, rfl, DGet.k (k := Sum.inl i) M.hs, _, rfl, ?_⟩
  exact ⟨_, rfl, m, CM, dm, _, _, rfl, M.hm, T.cM, T.n_words, mF_w, _, rfl, w_, _, _, _, rfl, rfl, SqL.of M.hw, atI_rd i0 (by rw [M.lm]; exact i1), q⟩
abbrev sMput : Stmt := inClass (topS 47) 3
def scMputN : List Str := ["self", "address", "word"]
theorem scMput : FnScope scMputN ["self", "address", "word"] (defScope sMput) := ⟨rfl, rfl, rfl, by decide +kernel, rfl, by decide +kernel, by decide +kernel⟩
theorem ok_Mput {f : Addr} {fd : FuncData} (F : Fun K "put" "Memory.put" sMput f fd) (T : Tx K mg CB CM) : FnOk P w K mg base CX0 1 f fd ["self", "address", "word"] (spMPut CM) := by
  refine F.ok scMput (fun vs H Q E h => by obtain ⟨_, _, _, _, _, _, _, rfl, _⟩ := h; rfl) (fun cdv A outer s H vs Q E hr h => ?_)
  have hu := hu_of hr
  obtain ⟨t_FLAGS, g_FLAGS⟩ := T.g_FLAGS
  obtain ⟨t_WORD_MOST, g_WORD_MOST⟩ := T.g_WORD_MOST
  obtain ⟨m, dm, w_, s_, mem, i, v, rfl, M, i0, i1, q⟩ := h
  refine ⟨_, (pss_one (ps_if (pt_cmpR op_eq (pv 1) (pgI g_FLAGS) (nomark _)) (pss_one (ps_asg (pe_op op_and (pe_ix ix_list (pe_fld (pv 0) rfl) (pgI g_FLAGS) (fun _ _ => rfl)) (pe_op op_sub (pgI g_WORD_MOST) (pv 2))) (pg_sub (pe_fld (pv 0) rfl) (pgI g_FLAGS) set_list))) (pss_one (ps_asg (pv 2) (pg_sub (pe_fld (pv 0) rfl) (pv 1) set_list))))), ?_⟩
  unfold putMM at q
  refine ⟨_, rfl, rfl, _, rfl, ifB (fun h => ?_) (fun h => ?_)⟩
  · have e := V.int.inj (of_decide_eq_true h)
    rw [if_pos e] at q
    refine ⟨_, rfl, m, CM, dm, _, _, rfl, M.hm, T.cM, T.n_words, mF_w, w_, _, _, _, rfl, rfl, SqL.of M.hw, atI_rd (by decide) (by rw [M.lm]; decide), _, rfl, _, _, rfl, rfl, _, _, rfl, rfl, ?_⟩
    refine ⟨_, rfl, m, CM, dm, _, _, rfl, M.hm, T.cM, T.n_words, mF_w, w_, _, _, _, rfl, rfl, M.hw, ixN_in (by decide) (by rw [List.length_map, M.lm]; decide), ?_⟩
    rw [set_map]
    exact q
  · have e : ¬ i = 770 := fun z => of_decide_eq_false h (by rw [z])
    rw [if_neg e] at q
    refine ⟨_, rfl, _, rfl, m, CM, dm, _, _, rfl, M.hm, T.cM, T.n_words, mF_w, _, rfl, w_, _, _, _, rfl, rfl, M.hw, ixN_in i0 (by rw [List.length_map, M.lm]; exact i1), ?_⟩
    rw [set_map]
    exact q
abbrev sMcalled : Stmt := inClass (topS 47) 4
def scMcalledN : List Str := ["self"]
theorem scMcalled : FnScope scMcalledN ["self"] (defScope sMcalled) := ⟨rfl, rfl, rfl, by decide +kernel, rfl, by decide +kernel, by decide +kernel⟩
theorem ok_Mcalled {f : Addr} {fd : FuncData} (F : Fun K "called_flags" "Memory.called_flags" sMcalled f fd) (T : Tx K mg CB CM) : FnOk P w K mg base CX0 1 f fd ["self"] (spMCall CM) := by
  refine F.ok scMcalled (fun vs H Q E h => by obtain ⟨_, _, _, _, _, rfl, _⟩ := h; rfl) (fun cdv A outer s H vs Q E hr h => ?_)
  have hu := hu_of hr
  obtain ⟨t_FLAGS, g_FLAGS⟩ := T.g_FLAGS
  obtain ⟨t_MASK, g_MASK⟩ := T.g_MASK
  obtain ⟨m, dm, w_, s_, mem, rfl, M, q⟩ := h
  refine ⟨_, (pss_one (ps_ret (pe_op op_and (pe_ix ix_list (pe_fld (pv 0) rfl) (pgI g_FLAGS) (fun _ _ => rfl)) (pe_ix ix_list (pe_fld (pv 0) rfl) (pgI g_MASK) (fun _ _ => rfl))))), ?_⟩
  exact ⟨_, rfl, m, CM, dm, _, _, rfl, M.hm, T.cM, T.n_words, mF_w, w_, _, _, _, rfl, rfl, SqL.of M.hw, atI_rd (by decide) (by rw [M.lm]; decide), _, rfl, m, CM, dm, _, _, rfl, M.hm, T.cM, T.n_words, mF_w, w_, _, _, _, rfl, rfl, SqL.of M.hw, atI_rd (by decide) (by rw [M.lm]; decide), _, _, rfl, rfl, q⟩
abbrev sMtake : Stmt := inClass (topS 47) 5
def scMtakeN : List Str := ["self", "value", "rises"]
theorem scMtake : FnScope scMtakeN ["self", "value"] (defScope sMtake) := ⟨rfl, rfl, rfl, by decide +kernel, rfl, by decide +kernel, by decide +kernel⟩
theorem ok_Mtake {f : Addr} {fd : FuncData} (F : Fun K "take_line" "Memory.take_line" sMtake f fd) (T : Tx K mg CB CM) : FnOk P w K mg base CX0 1 f fd ["self", "value"] (spMTake CM) := by
  refine F.ok scMtake (fun vs H Q E h => by obtain ⟨_, _, _, _, _, _, rfl, _⟩ := h; rfl) (fun cdv A outer s H vs Q E hr h => ?_)
  have hu := hu_of hr
  obtain ⟨t_FLAGS, g_FLAGS⟩ := T.g_FLAGS
  obtain ⟨t_LINE_FLAG, g_LINE_FLAG⟩ := T.g_LINE_FLAG
  obtain ⟨t_LINE_IN, g_LINE_IN⟩ := T.g_LINE_IN
  obtain ⟨m, dm, w_, s_, mem, v, rfl, M, q⟩ := h
  refine ⟨_, (pss_cons (ps_set (i := 2) scMtake.nd rfl (.inl rfl) (pe_cmpR op_gt (pe_op op_mod (pv 1) pe_int) (pe_op op_mod (pe_ix ix_list (pe_fld (pv 0) rfl) (pgI g_LINE_IN) (fun _ _ => rfl)) pe_int) (nomark _)))
    (pss_cons (ps_asg (pv 1) (pg_sub (pe_fld (pv 0) rfl) (pgI g_LINE_IN) set_list))
    (pss_one (ps_if (pt_val (pv 2)) (pss_one (ps_asg (pe_op op_or (pe_ix ix_list (pe_fld (pv 0) rfl) (pgI g_FLAGS) (fun _ _ => rfl)) (pgI g_LINE_FLAG)) (pg_sub (pe_fld (pv 0) rfl) (pgI g_FLAGS) set_list))) pss_nil)))), ?_⟩
  unfold takeLineM at q
  refine ⟨_, rfl, _, _, rfl, rfl, (by show (0 : Int) < 2; decide), _, rfl, m, CM, dm, _, _, rfl, M.hm, T.cM, T.n_words, mF_w, w_, _, _, _, rfl, rfl, SqL.of M.hw, atI_rd (by decide) (by rw [M.lm]; decide), _, _, rfl, rfl, (by show (0 : Int) < 2; decide), _, _, rfl, rfl, ?_⟩
  refine ⟨_, rfl, _, rfl, m, CM, dm, _, _, rfl, M.hm, T.cM, T.n_words, mF_w, w_, _, _, _, rfl, rfl, M.hw, ixN_in (by decide) (by rw [List.length_map, M.lm]; decide), ?_⟩
  rw [set_map]
  have mw : m ≠ w_ := ne_of M.hm M.hw (by intro q; cases q)
  have hw2 : upd H w_ (.lst ((stM mem 772 v).map V.int)) w_ = some (.lst ((stM mem 772 v).map V.int)) := upd_same
  have hm2 : upd H w_ (.lst ((stM mem 772 v).map V.int)) m = some (.ins CM dm (mmF w_ s_)) := by rw [upd_ne mw]; exact M.hm
  have l2 : (stM mem 772 v).length = 774 := by rw [stM_len]; exact M.lm
  refine ⟨_, rfl, _, rfl, ifB (fun h => ?_) (fun h => ?_)⟩
  · rw [if_pos (of_decide_eq_true h)] at q
    refine ⟨_, rfl, m, CM, dm, _, _, rfl, hm2, T.cM, T.n_words, mF_w, w_, _, _, _, rfl, rfl, SqL.of hw2, atI_rd (by decide) (by rw [l2]; decide), _, _, rfl, rfl, ?_⟩
    refine ⟨_, rfl, m, CM, dm, _, _, rfl, hm2, T.cM, T.n_words, mF_w, w_, _, _, _, rfl, rfl, hw2, ixN_in (by decide) (by rw [List.length_map, l2]; decide), ?_⟩
    rw [set_map, upd_upd]
    exact q
  · rw [if_neg (of_decide_eq_false h)] at q
    exact q
abbrev sMtimer : Stmt := inClass (topS 47) 6
def scMtimerN : List Str := ["self", "top", "count"]
theorem scMtimer : FnScope scMtimerN ["self"] (defScope sMtimer) := ⟨rfl, rfl, rfl, by decide +kernel, rfl, by decide +kernel, by decide +kernel⟩
theorem ok_Mtimer {f : Addr} {fd : FuncData} (F : Fun K "go_timer" "Memory.go_timer" sMtimer f fd) (T : Tx K mg CB CM) : FnOk P w K mg base CX0 1 f fd ["self"] (spMTim CM) := by
  refine F.ok scMtimer (fun vs H Q E h => by obtain ⟨_, _, _, _, _, rfl, _⟩ := h; rfl) (fun cdv A outer s H vs Q E hr h => ?_)
  have hu := hu_of hr
  obtain ⟨t_COUNT, g_COUNT⟩ := T.g_COUNT
  obtain ⟨t_FLAGS, g_FLAGS⟩ := T.g_FLAGS
  obtain ⟨t_TIMER_FLAG, g_TIMER_FLAG⟩ := T.g_TIMER_FLAG
  obtain ⟨t_TOP, g_TOP⟩ := T.g_TOP
  obtain ⟨m, dm, w_, s_, mem, rfl, M, q⟩ := h
  refine ⟨_, (pss_cons (ps_set (i := 1) scMtimer.nd rfl (.inl rfl) (pe_ix ix_list (pe_fld (pv 0) rfl) (pgI g_TOP) (fun _ _ => rfl)))
    (pss_cons (ps_if (pt_cmpR op_eq (pv 1) pe_int (nomark _)) (pss_one ps_retN) pss_nil)
    (pss_cons (ps_set (i := 2) scMtimer.nd rfl (.inl rfl) (pe_op op_add (pe_ix ix_list (pe_fld (pv 0) rfl) (pgI g_COUNT) (fun _ _ => rfl)) pe_int))
    (pss_cons (ps_if (pt_cmpR op_ge (pv 2) (pv 1) (nomark _)) (pss_cons (ps_set (i := 2) scMtimer.nd rfl (.inl rfl) pe_int)
    (pss_one (ps_asg (pe_op op_or (pe_ix ix_list (pe_fld (pv 0) rfl) (pgI g_FLAGS) (fun _ _ => rfl)) (pgI g_TIMER_FLAG)) (pg_sub (pe_fld (pv 0) rfl) (pgI g_FLAGS) set_list)))) pss_nil)
    (pss_one (ps_asg (pv 2) (pg_sub (pe_fld (pv 0) rfl) (pgI g_COUNT) set_list))))))), ?_⟩
  unfold goTimerM at q
  refine ⟨_, rfl, m, CM, dm, _, _, rfl, M.hm, T.cM, T.n_words, mF_w, w_, _, _, _, rfl, rfl, SqL.of M.hw, atI_rd (by decide) (by rw [M.lm]; decide), ?_⟩
  refine ⟨_, rfl, rfl, _, rfl, ifB (fun h => ?_) (fun h => ?_)⟩
  · rw [if_pos (V.int.inj (of_decide_eq_true h)), upd_id M.hw] at q
    exact q
  · rw [if_neg (fun z => of_decide_eq_false h (by rw [z]))] at q
    refine ⟨_, rfl, m, CM, dm, _, _, rfl, M.hm, T.cM, T.n_words, mF_w, w_, _, _, _, rfl, rfl, SqL.of M.hw, atI_rd (by decide) (by rw [M.lm]; decide), _, _, rfl, rfl, ?_⟩
    refine ⟨_, rfl, _, rfl, _, _, rfl, rfl, _, rfl, ifB (fun h2 => ?_) (fun h2 => ?_)⟩
    · rw [if_pos (of_decide_eq_true h2)] at q
      have mw : m ≠ w_ := ne_of M.hm M.hw (by intro q; cases q)
      refine ⟨_, rfl, m, CM, dm, _, _, rfl, M.hm, T.cM, T.n_words, mF_w, w_, _, _, _, rfl, rfl, SqL.of M.hw, atI_rd (by decide) (by rw [M.lm]; decide), _, _, rfl, rfl, ?_⟩
      refine ⟨_, rfl, m, CM, dm, _, _, rfl, M.hm, T.cM, T.n_words, mF_w, w_, _, _, _, rfl, rfl, M.hw, ixN_in (by decide) (by rw [List.length_map, M.lm]; decide), ?_⟩
      rw [set_map]
      refine ⟨_, rfl, _, rfl, m, CM, dm, _, _, rfl, (by rw [upd_ne mw]; exact M.hm), T.cM, T.n_words, mF_w, w_, _, _, _, rfl, rfl, upd_same, ixN_in (by decide) (by rw [List.length_map, stM_len, M.lm]; decide), ?_⟩
      rw [set_map, upd_upd]
      exact q
    · rw [if_neg (of_decide_eq_false h2)] at q
      refine ⟨_, rfl, _, rfl, m, CM, dm, _, _, rfl, M.hm, T.cM, T.n_words, mF_w, w_, _, _, _, rfl, rfl, M.hw, ixN_in (by decide) (by rw [List.length_map, M.lm]; decide), ?_⟩
      rw [set_map]
      exact q
end
end Bh

/-! What words, images and lines are; a memory is made. -/
namespace Bh
open PySem PySem.Spec PyProof.Rows L2
theorem flat_rep (n : Nat) (v : Int) : (List.replicate n [V.int v]).flatten = (List.replicate n v).map V.int := by
  induction n with
  | zero => rfl
  | succ n ih => rw [List.replicate_succ, List.flatten_cons, ih, List.replicate_succ, List.map_cons]; rfl
section
variable {P : Program} {w : World} {K : PySem.W.Frag} {mg : Str → Option Value} {base : Heap} {CB CM : Addr}
abbrev sFwhole : Stmt := topS 52
def scFwholeN : List Str := ["thing"]
theorem scFwhole : FnScope scFwholeN ["thing"] (defScope sFwhole) := ⟨rfl, rfl, rfl, by decide +kernel, rfl, by decide +kernel, by decide +kernel⟩
theorem ok_Fwhole {f : Addr} {fd : FuncData} (F : Fun K "is_whole" "is_whole" sFwhole f fd) (T : Tx K mg CB CM) : FnOk P w K mg base CX0 1 f fd ["thing"] (spWhole) := by
  refine F.ok scFwhole (fun vs H Q E h => by obtain ⟨_, rfl, _⟩ := h; rfl) (fun cdv A outer s H vs Q E hr h => ?_)
  have hu := hu_of hr
  have z_bool := T.z_bool
  have z_int := T.z_int
  have z_isinstance := T.z_isinstance
  obtain ⟨i, rfl, q⟩ := h
  refine ⟨_, (pss_one (ps_ret (pe_and (pe_callB call_isi (by rfl) z_isinstance (by decide +kernel) (pa_cons (pv 0) (pa_cons (pe_bltn (v := .ty "int") (u := .type "int") (by rfl) z_int (by decide +kernel) rfl) pa_nil))) (pe_one (pe_not (pe_callB call_isi (by rfl) z_isinstance (by decide +kernel) (pa_cons (pv 0) (pa_cons (pe_bltn (v := .ty "bool") (u := .type "bool") (by rfl) z_bool (by decide +kernel) rfl) pa_nil)))))))), ?_⟩
  refine ⟨_, rfl, .int i, .ty "int", _, _, true, rfl, .ty "int", .base (.int i), kit_ty (by decide +kernel), _, rfl, ifB (fun _ => ?_) (fun h => by cases h)⟩
  exact ⟨_, rfl, .int i, .ty "bool", _, _, false, rfl, .ty "bool", .base (.int i), kit_ty (by decide +kernel), _, rfl, q⟩
abbrev sFbetw : Stmt := topS 53
def scFbetwN : List Str := ["thing", "least", "greatest"]
theorem scFbetw : FnScope scFbetwN ["thing", "least", "greatest"] (defScope sFbetw) := ⟨rfl, rfl, rfl, by decide +kernel, rfl, by decide +kernel, by decide +kernel⟩
theorem ok_Fbetw {f : Addr} {fd : FuncData} {fF_whole : Addr} {dF_whole : FuncData} (F : Fun K "is_between" "is_between" sFbetw f fd) (T : Tx K mg CB CM)
    (F_whole : CalF P w K mg base 1 "is_whole" ["thing"] (spWhole) fF_whole dF_whole) : FnOk P w K mg base CX0 2 f fd ["thing", "least", "greatest"] (spBetw) := by
  refine F.ok scFbetw (fun vs H Q E h => by obtain ⟨_, _, _, rfl, _⟩ := h; rfl) (fun cdv A outer s H vs Q E hr h => ?_)
  have hu := hu_of hr
  obtain ⟨i, a, b, rfl, q⟩ := h
  refine ⟨_, (pss_one (ps_ret (pe_and (pe_call F_whole.G (hr.mono (by decide)) (by rfl) F_whole.g F_whole.kp F_whole.b .nil pass0 (pa_cons (pv 0) pa_nil)) (pe_one (pe_chain op_le op_le (pv 1) (pv 0) (pv 2)))))), ?_⟩
  refine ⟨_, rfl, i, rfl, _, rfl, ifB (fun _ => ?_) (fun h => by cases h)⟩
  refine ⟨_, rfl, _, rfl, _, _, rfl, rfl, _, rfl, ifB (fun h => ?_) (fun h => ?_)⟩
  · have h' := of_decide_eq_true h
    have e : decide (a ≤ i ∧ i ≤ b) = decide (i ≤ b) := by simp [h']
    rw [e] at q
    exact ⟨_, rfl, _, _, rfl, rfl, q⟩
  · have h' := of_decide_eq_false h
    have e : decide (a ≤ i ∧ i ≤ b) = false := by simp [h']
    rw [e] at q
    exact q
abbrev sFword : Stmt := topS 54
def scFwordN : List Str := ["thing"]
theorem scFword : FnScope scFwordN ["thing"] (defScope sFword) := ⟨rfl, rfl, rfl, by decide +kernel, rfl, by decide +kernel, by decide +kernel⟩
theorem ok_Fword {f : Addr} {fd : FuncData} {fF_betw : Addr} {dF_betw : FuncData} (F : Fun K "is_word" "is_word" sFword f fd) (T : Tx K mg CB CM)
    (F_betw : CalF P w K mg base 2 "is_between" ["thing", "least", "greatest"] (spBetw) fF_betw dF_betw) : FnOk P w K mg base CX0 3 f fd ["thing"] (spWord) := by
  refine F.ok scFword (fun vs H Q E h => by obtain ⟨_, rfl, _⟩ := h; rfl) (fun cdv A outer s H vs Q E hr h => ?_)
  have hu := hu_of hr
  obtain ⟨t_WORD_MOST, g_WORD_MOST⟩ := T.g_WORD_MOST
  obtain ⟨i, rfl, q⟩ := h
  refine ⟨_, (pss_one (ps_ret (pe_call F_betw.G (hr.mono (by decide)) (by rfl) F_betw.g F_betw.kp F_betw.b .nil pass0 (pa_cons (pv 0) (pa_cons pe_int (pa_cons (pgI g_WORD_MOST) pa_nil)))))), ?_⟩
  exact ⟨_, rfl, i, 0, 65535, rfl, q⟩
abbrev sFimage : Stmt := topS 55
def scFimageN : List Str := ["thing", "word"]
theorem scFimage : FnScope scFimageN ["thing"] (defScope sFimage) := ⟨rfl, rfl, rfl, by decide +kernel, rfl, by decide +kernel, by decide +kernel⟩
theorem ok_Fimage {f : Addr} {fd : FuncData} {fF_word : Addr} {dF_word : FuncData} (F : Fun K "is_image" "is_image" sFimage f fd) (T : Tx K mg CB CM)
    (F_word : CalF P w K mg base 3 "is_word" ["thing"] (spWord) fF_word dF_word) : FnOk P w K mg base CX0 4 f fd ["thing"] (spImg) := by
  refine F.ok scFimage (fun vs H Q E h => by obtain ⟨_, _, rfl, _⟩ := h; rfl) (fun cdv A outer s H vs Q E hr h => ?_)
  have hu := hu_of hr
  obtain ⟨t_FLASH_END, g_FLASH_END⟩ := T.g_FLASH_END
  have z_all := T.z_all
  have z_isinstance := T.z_isinstance
  have z_len := T.z_len
  have z_list := T.z_list
  obtain ⟨im, ns, rfl, hm, hl, hw, q⟩ := h
  refine ⟨_, (pss_one (ps_ret (pe_and (pe_callB call_isi (by rfl) z_isinstance (by decide +kernel) (pa_cons (pv 0) (pa_cons (pe_bltn (v := .ty "list") (u := .type "list") (by rfl) z_list (by decide +kernel) rfl) pa_nil))) (pe_and (pe_cmpR op_le (pe_callB call_len_seq (by rfl) z_len PySem.boot_len (pa_cons (pv 0) pa_nil)) (pgI g_FLASH_END) (nomark _)) (pe_one (pe_callB (cr_all rfl) (by rfl) z_all (by decide +kernel) (pa_cons (pe_lc (own := [("word", 1)]) (g := gName 1) (tt := tYes) (by rfl) scFimage.nd (pi_list (pv 0)) (blkOk_by (own := [("word", 1)]) (N := scFimageN) (sc := defScope sFimage) (by decide +kernel)) (fun _ _ _ _ _ => (pg_name (i := 1) scFimage.nd rfl (.inl rfl))) (fun _ _ _ _ _ => pts_nil) (fun _ _ _ _ _ => (pe_call F_word.G (hr.mono (by decide)) (by rfl) F_word.g F_word.kp F_word.b .nil pass0 (pa_cons (pv 1) pa_nil)))) pa_nil))))))), ?_⟩
  refine ⟨_, rfl, .ref im, .ty "list", _, _, true, rfl, .ty "list", .base (.lst hm), kit_ty (by decide +kernel), _, rfl, ifB (fun _ => ?_) (fun h => by cases h)⟩
  refine ⟨_, rfl, im, _, rfl, .inl (SqL.of hm), _, _, rfl, rfl, _, rfl, ifB (fun _ => ?_) (fun h => absurd (show ((ns.map V.int).length : Int) ≤ 512 by rw [List.length_map]; omega) (of_decide_eq_false h))⟩
  refine ⟨_, rfl, im, rfl, ⟨_, SqL.of hm⟩, fun D nD => ?_⟩
  refine lc_list (K := K) (a := im) (xs := ns.map V.int) (fun i H' => Same H H' ∧ H' D = some (.lst ((List.replicate i true).map V.bl))) ⟨same_upd' nD, upd_same⟩ (fun i H' _ h => SqL.of (h.1 _ _ hm)) ?_ ?_
  · rintro j v H' hv ⟨sm, hD⟩
    obtain ⟨n, hn, rfl⟩ : ∃ n, ns[j]? = some n ∧ V.int n = v := by
      rw [List.getElem?_map] at hv
      cases e : ns[j]? with
      | none => rw [e] at hv; cases hv
      | some n => rw [e] at hv; exact ⟨n, rfl, Option.some.inj hv⟩
    have hj := (List.getElem?_eq_some_iff.mp hn).1
    refine ⟨rfl, ?_⟩
    refine ⟨_, rfl, n, rfl, ?_⟩
    rw [decide_eq_true (hw n (List.mem_of_getElem? hn))]
    refine ⟨_, hD, ?_, same_of sm nD, ?_⟩
    · rw [List.length_map, List.length_replicate]
      exact small1000 (by omega)
    · rw [upd_same, List.replicate_succ', List.map_append]
      rfl
  · rintro H4 ⟨sm, hD⟩
    refine ⟨D, _, rfl, SqL.of hD, ?_⟩
    have e : (List.replicate (ns.map V.int).length true).all id = true := by simp
    rw [e]
    exact q _ sm
abbrev sFlrow : Stmt := topS 57
def scFlrowN : List Str := ["row", "last"]
theorem scFlrow : FnScope scFlrowN ["row", "last"] (defScope sFlrow) := ⟨rfl, rfl, rfl, by decide +kernel, rfl, by decide +kernel, by decide +kernel⟩
theorem ok_Flrow {f : Addr} {fd : FuncData} {fF_betw : Addr} {dF_betw : FuncData} {fF_whole : Addr} {dF_whole : FuncData} (F : Fun K "is_line_row" "is_line_row" sFlrow f fd) (T : Tx K mg CB CM)
    (F_betw : CalF P w K mg base 2 "is_between" ["thing", "least", "greatest"] (spBetw) fF_betw dF_betw)
    (F_whole : CalF P w K mg base 1 "is_whole" ["thing"] (spWhole) fF_whole dF_whole) : FnOk P w K mg base CX0 3 f fd ["row", "last"] (spLRow) := by
  refine F.ok scFlrow (fun vs H Q E h => by obtain ⟨_, _, _, rfl, _⟩ := h; rfl) (fun cdv A outer s H vs Q E hr h => ?_)
  have hu := hu_of hr
  obtain ⟨t_LINE_MOST, g_LINE_MOST⟩ := T.g_LINE_MOST
  have z_isinstance := T.z_isinstance
  have z_len := T.z_len
  have z_tuple := T.z_tuple
  obtain ⟨t, r, n, rfl, ht, h1, h2, h3, q⟩ := h
  refine ⟨_, (pss_cons (ps_if (PW.pt (pw_or (pt_not (pt_val (pe_callB call_isi (by rfl) z_isinstance (by decide +kernel) (pa_cons (pv 0) (pa_cons (pe_bltn (v := .ty "tuple") (u := .type "tuple") (by rfl) z_tuple (by decide +kernel) rfl) pa_nil))))) (pw_or1 (pt_cmpR op_ne (pe_callB call_len_seq (by rfl) z_len PySem.boot_len (pa_cons (pv 0) pa_nil)) pe_int (nomark _))))) (pss_one (ps_ret pe_bl)) pss_nil)
    (pss_one (ps_ret (pe_and (pe_call F_whole.G (hr.mono (by decide)) (by rfl) F_whole.g F_whole.kp F_whole.b .nil pass0 (pa_cons (pe_ix ix_tup (pv 0) pe_int (fun _ _ => rfl)) pa_nil)) (pe_and (pe_cmpR op_gt (pe_ix ix_tup (pv 0) pe_int (fun _ _ => rfl)) (pv 1) (nomark _)) (pe_one (pe_call F_betw.G (hr.mono (by decide)) (by rfl) F_betw.g F_betw.kp F_betw.b .nil pass0 (pa_cons (pe_ix ix_tup (pv 0) pe_int (fun _ _ => rfl)) (pa_cons pe_int (pa_cons (pgI g_LINE_MOST) pa_nil)))))))))), ?_⟩
  refine ⟨_, rfl, .ref t, .ty "tuple", _, _, true, rfl, .ty "tuple", .base (.tup ht), kit_ty (by decide +kernel), _, rfl, ifN (fun h => by cases h) (fun _ => ?_)⟩
  refine ⟨_, rfl, t, _, rfl, .inr (SqT.of ht), rfl, _, rfl, ifN (fun h => absurd rfl (of_decide_eq_false h)) (fun _ => ?_)⟩
  refine ⟨_, rfl, t, _, 0, _, rfl, rfl, SqT.of ht, atI_nat (j := 0) rfl, _, rfl, _, rfl, ifB (fun _ => ?_) (fun h => by cases h)⟩
  refine ⟨_, rfl, t, _, 0, _, rfl, rfl, SqT.of ht, atI_nat (j := 0) rfl, _, rfl, _, _, rfl, rfl, _, rfl, ifB (fun _ => ?_) (fun h => absurd h1 (of_decide_eq_false h))⟩
  refine ⟨_, rfl, t, _, 1, _, rfl, rfl, SqT.of ht, atI_nat (j := 1) rfl, r.2, 0, 3, rfl, ?_⟩
  rw [decide_eq_true (⟨h2, h3⟩ : 0 ≤ r.2 ∧ r.2 ≤ 3)]
  exact q
theorem rise_get : ∀ {ls : List (Int × Int)} {n : Int} {i : Nat} {r : Int × Int}, riseM n ls → ls[i]? = some r → (if i = 0 then n else (ls.getD (i - 1) (0, 0)).1) < r.1 ∧ 0 ≤ r.2 ∧ r.2 ≤ 3
  | [], _, _, _, _, h => by cases h
  | u :: us, n, 0, r, ⟨a, b, c, _⟩, h => by
    cases h
    exact ⟨a, b, c⟩
  | u :: us, n, 1, r, ⟨_, _, _, d⟩, h => by
    have := rise_get (i := 0) d h
    exact this
  | u :: us, n, i + 2, r, ⟨_, _, _, d⟩, h => by
    have := rise_get (i := i + 1) d h
    exact this
abbrev sFline : Stmt := topS 56
def scFlineN : List Str := ["thing", "last", "row"]
theorem scFline : FnScope scFlineN ["thing"] (defScope sFline) := ⟨rfl, rfl, rfl, by decide +kernel, rfl, by decide +kernel, by decide +kernel⟩
theorem ok_Fline {f : Addr} {fd : FuncData} {fF_lrow : Addr} {dF_lrow : FuncData} (F : Fun K "is_line" "is_line" sFline f fd) (T : Tx K mg CB CM)
    (F_lrow : CalF P w K mg base 3 "is_line_row" ["row", "last"] (spLRow) fF_lrow dF_lrow) : FnOk P w K mg base CX0 4 f fd ["thing"] (spLine) := by
  refine F.ok scFline (fun vs H Q E h => by obtain ⟨_, _, _, rfl, _⟩ := h; rfl) (fun cdv A outer s H vs Q E hr h => ?_)
  have hu := hu_of hr
  have z_isinstance := T.z_isinstance
  have z_list := T.z_list
  obtain ⟨l, us, ls, rfl, hl, ht, hr2, q⟩ := h
  refine ⟨_, (pss_cons (ps_if (pt_not (pt_val (pe_callB call_isi (by rfl) z_isinstance (by decide +kernel) (pa_cons (pv 0) (pa_cons (pe_bltn (v := .ty "list") (u := .type "list") (by rfl) z_list (by decide +kernel) rfl) pa_nil))))) (pss_one (ps_ret pe_bl)) pss_nil)
    (pss_cons (ps_set (i := 1) scFline.nd rfl (.inl rfl) pe_int)
    (pss_cons (ps_for PassesOwn.never rfl (pi_list (pv 0)) (pg_name (i := 2) scFline.nd rfl (.inl rfl))
      (pss_cons (ps_if (pt_not (pt_val (pe_call F_lrow.G (hr.mono (by decide)) (by rfl) F_lrow.g F_lrow.kp F_lrow.b .nil pass0 (pa_cons (pv 2) (pa_cons (pv 1) pa_nil))))) (pss_one (ps_ret pe_bl)) pss_nil)
    (pss_one (ps_set (i := 1) scFline.nd rfl (.inl rfl) (pe_ix ix_tup (pv 2) pe_int (fun _ _ => rfl))))))
    (pss_one (ps_ret pe_bl))))), ?_⟩
  refine ⟨_, rfl, .ref l, .ty "list", _, _, true, rfl, .ty "list", .base (.lst hl), kit_ty (by decide +kernel), _, rfl, ifN (fun h => by cases h) (fun _ => ?_)⟩
  refine ⟨_, rfl, l, rfl, ⟨_, SqL.of hl⟩, ?_⟩
  refine for_list (K := K) (a := l) (xs := us) (fun i σ H' => H' = H ∧ ∃ y, σ = [some (.ref l), some (.int (if i = 0 then 0 else (ls.getD (i - 1) (0, 0)).1)), y]) ⟨rfl, none, rfl⟩ (fun i σ H' _ h => by obtain ⟨rfl, _⟩ := h; exact SqL.of hl) ?_ ?_
  · rintro i v σ H' hv ⟨rfl, y, rfl⟩
    have hi : i < ls.length := by
      rw [← TupsAt.len ht]
      exact (List.getElem?_eq_some_iff.mp hv).1
    obtain ⟨t, e1, e2⟩ := TupsAt.get ht hi
    have hv2 : v = .ref t := Option.some.inj (hv.symm.trans e1)
    subst hv2
    have hg : ls[i]? = some (ls.getD i (0, 0)) := by rw [List.getD_eq_getElem?_getD, List.getElem?_eq_getElem hi]; rfl
    obtain ⟨r1, r2, r3⟩ := rise_get hr2 hg
    refine ⟨_, rfl, _, rfl, t, _, _, rfl, e2, r1, r2, r3, _, rfl, ifN (fun h => by cases h) (fun _ => ?_)⟩
    refine ⟨_, rfl, t, _, 0, _, rfl, rfl, SqT.of e2, atI_nat (j := 0) rfl, rfl, some (.ref t), rfl⟩
  · rintro σ H' ⟨rfl, y, rfl⟩
    exact q
abbrev sCmem : Stmt := inClass (topS 47) 0
def scCmemN : List Str := ["self", "image", "erased", "nought"]
theorem scCmem : FnScope scCmemN ["self", "image"] (defScope sCmem) := ⟨rfl, rfl, rfl, by decide +kernel, rfl, by decide +kernel, by decide +kernel⟩
theorem ok_Cmem {f : Addr} {fd : FuncData} (F : Fun K "__init__" "Memory.__init__" sCmem f fd) (T : Tx K mg CB CM) : FnOk P w K mg base CX0 1 f fd ["self", "image"] (spMI CM) := by
  refine F.ok scCmem (fun vs H Q E h => by obtain ⟨_, _, _, _, rfl, _⟩ := h; rfl) (fun cdv A outer s H vs Q E hr h => ?_)
  have hu := hu_of hr
  obtain ⟨t_ERASED, g_ERASED⟩ := T.g_ERASED
  obtain ⟨t_FLASH_END, g_FLASH_END⟩ := T.g_FLASH_END
  obtain ⟨t_PLACES_END, g_PLACES_END⟩ := T.g_PLACES_END
  have z_len := T.z_len
  have z_list := T.z_list
  obtain ⟨m, dm, im, ns, rfl, hm, him, hl, q⟩ := h
  refine ⟨_, (pss_cons (ps_set (i := 2) scCmem.nd rfl (.inl rfl) (pe_op op_rep (pe_lst (pa_cons (pgI g_ERASED) pa_nil)) (pe_op op_sub (pgI g_FLASH_END) (pe_callB call_len_seq (by rfl) z_len PySem.boot_len (pa_cons (pv 1) pa_nil)))))
    (pss_cons (ps_set (i := 3) scCmem.nd rfl (.inl rfl) (pe_op op_rep (pe_lst (pa_cons pe_int pa_nil)) (pe_op op_sub (pgI g_PLACES_END) (pgI g_FLASH_END))))
    (pss_cons (ps_fld (pv 0) (pe_op op_cat (pe_op op_cat (pe_callTy call_list_of (by rfl) z_list (by decide +kernel) (pa_cons (pv 1) pa_nil)) (pv 2)) (pv 3)) rfl)
    (pss_one (ps_fld (pv 0) pe_dnewK rfl))))), ?_⟩
  have mim : m ≠ im := ne_of hm him (by intro q; cases q)
  refine ⟨(by show 1 ≤ sizeLine; decide), fun l1 n1 => ?_⟩
  have s1 : Same H (upd H l1 (.lst [.int 65535])) := same_upd' n1
  refine ⟨_, rfl, im, _, rfl, .inl (SqL.of (s1 _ _ him)), _, _, rfl, rfl, l1, _, _, rfl, rfl, upd_same, ?_, ?_, ?_, fun l2 n2 => ?_⟩
  · rw [List.length_map]; omega
  · rw [List.length_map]; omega
  · rw [List.length_map, List.length_singleton]; exact hsz (by omega)
  have e2 : (List.replicate (512 - ((ns.map V.int).length : Int)).toNat [V.int 65535]).flatten = (List.replicate (512 - ns.length) (65535 : Int)).map V.int := by
    rw [List.length_map, show (512 - (ns.length : Int)).toNat = 512 - ns.length by omega]
    exact flat_rep _ _
  rw [e2]
  have s2 := s1.trans (same_upd' (o := .lst ((List.replicate (512 - ns.length) (65535 : Int)).map V.int)) n2)
  have h2 : upd (upd H l1 (.lst [.int 65535])) l2 (.lst ((List.replicate (512 - ns.length) (65535 : Int)).map V.int)) l2 = _ := upd_same
  generalize upd (upd H l1 (.lst [.int 65535])) l2 (.lst ((List.replicate (512 - ns.length) (65535 : Int)).map V.int)) = H2 at *
  refine ⟨(by show 1 ≤ sizeLine; decide), fun l3 n3 => ?_⟩
  have s3 := s2.trans (same_upd' (o := .lst [.int 0]) n3)
  have h23 := same_upd' (o := .lst [.int 0]) n3 _ _ h2
  refine ⟨_, _, rfl, rfl, l3, _, _, rfl, rfl, upd_same, by omega, by omega, (by show 1 * 262 ≤ sizeLine; decide), fun l4 n4 => ?_⟩
  have e4 : (List.replicate ((774 : Int) - 512).toNat [V.int 0]).flatten = (List.replicate 262 (0 : Int)).map V.int := flat_rep 262 0
  rw [e4]
  have s4 := s3.trans (same_upd' (o := .lst ((List.replicate 262 (0 : Int)).map V.int)) n4)
  have h24 := same_upd' (o := .lst ((List.replicate 262 (0 : Int)).map V.int)) n4 _ _ h23
  have h4 : upd (upd H2 l3 (.lst [.int 0])) l4 (.lst ((List.replicate 262 (0 : Int)).map V.int)) l4 = _ := upd_same
  generalize upd (upd H2 l3 (.lst [.int 0])) l4 (.lst ((List.replicate 262 (0 : Int)).map V.int)) = H4 at *
  refine ⟨_, rfl, im, _, rfl, .inl (SqL.of (s4 _ _ him)), fun l5 n5 => ?_⟩
  have s5 := s4.trans (same_upd' (o := .lst (ns.map V.int)) n5)
  have h25 := same_upd' (o := .lst (ns.map V.int)) n5 _ _ h24
  have h45 := same_upd' (o := .lst (ns.map V.int)) n5 _ _ h4
  refine ⟨_, rfl, l5, l2, _, _, rfl, rfl, upd_same, h25, ?_, fun l6 n6 => ?_⟩
  · rw [List.length_map, List.length_map, List.length_replicate]; exact hsz (by omega)
  have s6 := s5.trans (same_upd' (o := .lst (ns.map V.int ++ (List.replicate (512 - ns.length) (65535 : Int)).map V.int)) n6)
  have h46 := same_upd' (o := .lst (ns.map V.int ++ (List.replicate (512 - ns.length) (65535 : Int)).map V.int)) n6 _ _ h45
  refine ⟨_, rfl, l6, l4, _, _, rfl, rfl, upd_same, h46, ?_, fun l7 n7 => ?_⟩
  · rw [List.length_append, List.length_map, List.length_map, List.length_map, List.length_replicate, List.length_replicate]; exact hsz (by omega)
  have em : ns.map V.int ++ (List.replicate (512 - ns.length) (65535 : Int)).map V.int ++ (List.replicate 262 (0 : Int)).map V.int = (memOf ns).map V.int := by
    unfold memOf
    rw [List.map_append, List.map_append]
  rw [em]
  have s7 := s6.trans (same_upd' (o := .lst ((memOf ns).map V.int)) n7)
  have f7 : H l7 = none := s6.free n7
  generalize upd (upd H4 l5 (.lst (ns.map V.int))) l6 (.lst (ns.map V.int ++ (List.replicate (512 - ns.length) (65535 : Int)).map V.int)) = H6 at *
  have h7 : upd H6 l7 (.lst ((memOf ns).map V.int)) l7 = _ := upd_same
  generalize upd H6 l7 (.lst ((memOf ns).map V.int)) = H7 at *
  have ml : m ≠ l7 := ne_of_none hm f7
  refine ⟨_, rfl, m, CM, dm, [], rfl, s7 _ _ hm, T.cM, T.n_words, (by show 0 < 1000; decide), ?_⟩
  intro s_ ns_
  have ms : m ≠ s_ := fun e => by rw [← e, upd_same] at ns_; cases ns_
  rw [upd_ne ms.symm] at ns_
  refine ⟨_, rfl, m, CM, dm, _, rfl, (by rw [upd_ne ms]; exact upd_same), T.cM, T.n_swapped, (by show 1 < 1000; decide), ?_⟩
  refine q _ l7 s_ ?_ ?_ f7 (s7.free ns_)
  · refine ⟨?_, ?_, ?_, ?_⟩
    · rw [upd_same]
      exact congrArg (fun z => some (HO.ins CM dm z)) (by kernel_rfl)
    · rw [upd_ne ml.symm, upd_ne (ne_of_none h7 ns_), upd_ne ml.symm]
      exact h7
    · rw [upd_ne ms.symm, upd_same]
    · unfold memOf
      rw [List.length_append, List.length_append, List.length_replicate, List.length_replicate]
      omega
  · intro b o hb e
    rw [upd_ne hb, upd_ne (ne_of_none (s7 _ _ e) ns_), upd_ne hb]
    exact s7 _ _ e
end
end Bh

/-! What deeds touch, and what they do. -/
namespace Bh
open PySem PySem.Spec PyProof.Rows L2
def touN (nm : Str) (n b sp : Int) : List (Bool × Int) :=
  if nm ∈ rdN then [(false, n)] else if nm = "put" then [(true, n)] else if nm = "getb" then [(false, n + b)] else if nm = "putb" then [(true, n + b)]
  else if nm ∈ [("call" : Str), "push"] then [(true, sp)] else if nm ∈ [("ret" : Str), "pop"] then [(false, sp + 1)] else if nm = "back" then [(false, sp + 1), (false, sp + 2)] else []
def nmOf (op : Nat) : Str := opN.getD op Str.empty
theorem touN_op (op : Nat) (h : op < 23) (n b sp : Int) : touN (nmOf op) n b sp = touM op n b sp := by
  match op, h with
  | 0, _ => kernel_rfl
  | 1, _ => kernel_rfl
  | 2, _ => kernel_rfl
  | 3, _ => kernel_rfl
  | 4, _ => kernel_rfl
  | 5, _ => kernel_rfl
  | 6, _ => kernel_rfl
  | 7, _ => kernel_rfl
  | 8, _ => kernel_rfl
  | 9, _ => kernel_rfl
  | 10, _ => kernel_rfl
  | 11, _ => kernel_rfl
  | 12, _ => kernel_rfl
  | 13, _ => kernel_rfl
  | 14, _ => kernel_rfl
  | 15, _ => kernel_rfl
  | 16, _ => kernel_rfl
  | 17, _ => kernel_rfl
  | 18, _ => kernel_rfl
  | 19, _ => kernel_rfl
  | 20, _ => kernel_rfl
  | 21, _ => kernel_rfl
  | 22, _ => kernel_rfl
  | n + 23, h => omega
def TouAt (H : Hp) : List V → List (Bool × Int) → Prop := Paired fun v t => ∃ q, v = .ref q ∧ H q = some (.tup [.str (kS t.1), .int t.2])
theorem TouAt.mono {H H' : Hp} (k : ∀ t xs, H t = some (.tup xs) → H' t = some (.tup xs)) : ∀ {us : List V} {ls : List (Bool × Int)}, TouAt H us ls → TouAt H' us ls
  | _, _, .nil => .nil
  | _, _, .cons h r => .cons (let ⟨t, e, q⟩ := h; ⟨t, e, k _ _ q⟩) (TouAt.mono k r)
theorem TouAt.len {H : Hp} : ∀ {us : List V} {ls : List (Bool × Int)}, TouAt H us ls → us.length = ls.length
  | _, _, .nil => rfl
  | _, _, .cons _ r => by rw [List.length_cons, List.length_cons, TouAt.len r]
theorem TouAt.get {H : Hp} : ∀ {us : List V} {ls : List (Bool × Int)} {i : Nat} {v : V}, TouAt H us ls → us[i]? = some v → ∃ q t, v = .ref q ∧ ls[i]? = some t ∧ H q = some (.tup [.str (kS t.1), .int t.2])
  | _, _, _, _, .nil, h => by cases h
  | _, _, 0, _, .cons h r, e => by
    obtain ⟨t, rfl, q⟩ := h
    cases e
    exact ⟨t, _, rfl, rfl, q⟩
  | _, _, i + 1, _, .cons h r, e => TouAt.get (i := i) r e
theorem in_strs (z : Str) : ∀ ys : List Str, inV (.str z) (ys.map V.str) = decide (z ∈ ys)
  | [] => rfl
  | y :: ys => by
    have ih := in_strs z ys
    unfold inV at ih ⊢
    rw [List.map_cons, List.any_cons, ih]
    show ((y == z) || decide (z ∈ ys)) = decide (z ∈ y :: ys)
    by_cases e : y = z
    · subst e
      simp
    · have e2 : ¬ z = y := fun q => e q.symm
      have : (y == z) = false := by simpa using e
      rw [this]
      simp [e2]
theorem flat_strs' (ys : List Str) : (ys.map V.str).all flatV = true := by
  rw [List.all_eq_true]
  intro v hv
  obtain ⟨y, _, rfl⟩ := List.mem_map.mp hv
  rfl
def spTou : Sp := fun vs H Q _ => ∃ (nm : Str) (n : Int) (r : Addr) (a b pc sp : Int), vs = [.str nm, .int n, .ref r] ∧ H r = some (.dK (regD a b pc sp)) ∧
  ∀ (H' : Hp) (l : Addr) (us : List V), Same H H' → H l = none → H' l = some (.lst us) → TouAt H' us (touN nm n b sp) → Q (.ref l) H'
/-- how many words it reads -/
def nR (op : Nat) : Nat :=
  match op with
  | 2 => 1
  | 4 => 1
  | 5 => 1
  | 6 => 1
  | 7 => 1
  | 8 => 1
  | 16 => 1
  | 18 => 1
  | 21 => 2
  | _ => 0
def spDo (CB CM : Addr) (op : Nat) : Sp := fun vs H Q _ => ∃ (H0 : Hp) (p lw : Addr) (x : Bd) (n : Int) (ws : List Int), vs = [.ref p, .int n, .ref lw] ∧ BoardAt CB CM H0 H p x ∧ H lw = some (.lst (ws.map V.int)) ∧ ws.length = nR op ∧
  (∀ t ∈ touM op n x.b x.sp, 0 ≤ t.2 ∧ t.2 < 774) ∧ x.sent.length < 1000000 ∧ ∀ H', BoardAt CB CM H0 H' p (doM op n ws x) → Q .non H'
def spGive (CB CM : Addr) : Sp := fun vs H Q _ => ∃ (H0 : Hp) (p : Addr) (x : Bd) (v : Int), vs = [.ref p, .int v] ∧ BoardAt CB CM H0 H p x ∧ ∀ H', BoardAt CB CM H0 H' p (giveM v x) → Q .non H'
def spPw (CB CM : Addr) : Sp := fun vs H Q _ => ∃ (H0 : Hp) (p : Addr) (x : Bd) (a v : Int), vs = [.ref p, .int a, .int v] ∧ BoardAt CB CM H0 H p x ∧ x.sent.length < 1000000 ∧ 0 ≤ a ∧ a < 774 ∧ ∀ H', BoardAt CB CM H0 H' p (putWM a v x) → Q .non H'
theorem len1 {α : Type} {l : List α} (h : l.length = 1) : ∃ v, l = [v] := by
  match l, h with
  | [v], _ => exact ⟨v, rfl⟩
theorem len2 {α : Type} {l : List α} (h : l.length = 2) : ∃ v w, l = [v, w] := by
  match l, h with
  | [v, w], _ => exact ⟨v, w, rfl⟩
section
variable {P : Program} {w : World} {K : PySem.W.Frag} {mg : Str → Option Value} {base : Heap} {CB CM : Addr}
abbrev sFtou : Stmt := topS 5
def scFtouN : List Str := ["name", "x", "registers"]
theorem scFtou : FnScope scFtouN ["name", "x", "registers"] (defScope sFtou) := ⟨rfl, rfl, rfl, by decide +kernel, rfl, by decide +kernel, by decide +kernel⟩
theorem ok_Ftou {f : Addr} {fd : FuncData} (F : Fun K "touches_of" "touches_of" sFtou f fd) (T : Tx K mg CB CM) : FnOk P w K mg base CX0 1 f fd ["name", "x", "registers"] (spTou) := by
  refine F.ok scFtou (fun vs H Q E h => by obtain ⟨_, _, _, _, _, _, _, rfl, _⟩ := h; rfl) (fun cdv A outer s H vs Q E hr h => ?_)
  have hu := hu_of hr
  obtain ⟨nm, n, r, a, b, pc, sp, rfl, hR, q⟩ := h
  obtain ⟨aR, g_READS_AT_X, vR⟩ := T.g_READS_AT_X
  unfold touN at q
  refine ⟨_, (pss_cons (ps_if (pt_cmpR op_in_seq (pv 0) (pgR g_READS_AT_X) (by rfl)) (pss_one (ps_ret (pe_lst (pa_cons (pe_tup (pa_cons pe_str (pa_cons (pv 1) pa_nil))) pa_nil)))) pss_nil)
    (pss_cons (ps_if (pt_cmpR op_eq (pv 0) pe_str (nomark _)) (pss_one (ps_ret (pe_lst (pa_cons (pe_tup (pa_cons pe_str (pa_cons (pv 1) pa_nil))) pa_nil)))) pss_nil)
    (pss_cons (ps_if (pt_cmpR op_eq (pv 0) pe_str (nomark _)) (pss_one (ps_ret (pe_lst (pa_cons (pe_tup (pa_cons pe_str (pa_cons (pe_op op_add (pv 1) (pe_dget hu (pv 2) pe_str (fun _ _ => rfl))) pa_nil))) pa_nil)))) pss_nil)
    (pss_cons (ps_if (pt_cmpR op_eq (pv 0) pe_str (nomark _)) (pss_one (ps_ret (pe_lst (pa_cons (pe_tup (pa_cons pe_str (pa_cons (pe_op op_add (pv 1) (pe_dget hu (pv 2) pe_str (fun _ _ => rfl))) pa_nil))) pa_nil)))) pss_nil)
    (pss_cons (ps_if (pt_cmpR op_in_seq (pv 0) (pe_tup (pa_cons pe_str (pa_cons pe_str pa_nil))) (by rfl)) (pss_one (ps_ret (pe_lst (pa_cons (pe_tup (pa_cons pe_str (pa_cons (pe_dget hu (pv 2) pe_str (fun _ _ => rfl)) pa_nil))) pa_nil)))) pss_nil)
    (pss_cons (ps_if (pt_cmpR op_in_seq (pv 0) (pe_tup (pa_cons pe_str (pa_cons pe_str pa_nil))) (by rfl)) (pss_one (ps_ret (pe_lst (pa_cons (pe_tup (pa_cons pe_str (pa_cons (pe_op op_add (pe_dget hu (pv 2) pe_str (fun _ _ => rfl)) pe_int) pa_nil))) pa_nil)))) pss_nil)
    (pss_cons (ps_if (pt_cmpR op_eq (pv 0) pe_str (nomark _)) (pss_one (ps_ret (pe_lst (pa_cons (pe_tup (pa_cons pe_str (pa_cons (pe_op op_add (pe_dget hu (pv 2) pe_str (fun _ _ => rfl)) pe_int) pa_nil))) (pa_cons (pe_tup (pa_cons pe_str (pa_cons (pe_op op_add (pe_dget hu (pv 2) pe_str (fun _ _ => rfl)) pe_int) pa_nil))) pa_nil))))) pss_nil)
    (pss_one (ps_ret (pe_lst pa_nil)))))))))), ?_⟩
  refine ⟨_, rfl, aR, _, rfl, .inr (vR _), rfl, flat_strs' rdN, _, rfl, ?_⟩
  rw [if_neg Bool.false_ne_true, in_strs]
  refine ifB (fun h => ?_) (fun h => ?_)
  · rw [if_pos (of_decide_eq_true h)] at q
    exact ⟨_, rfl, (by show 2 ≤ sizeLine; decide), fun t nt => ⟨(by show 1 ≤ sizeLine; decide), fun l nl => q _ l [.ref t] ((same_upd' nt).trans (same_upd' nl)) ((same_upd' nt).free nl) upd_same (.cons ⟨t, rfl, same_upd' nl _ _ upd_same⟩ .nil)⟩⟩
  rw [if_neg (of_decide_eq_false h)] at q
  refine ⟨_, rfl, rfl, _, rfl, ifB (fun h => ?_) (fun h => ?_)⟩
  · rw [if_pos (V.str.inj (of_decide_eq_true h))] at q
    exact ⟨_, rfl, (by show 2 ≤ sizeLine; decide), fun t nt => ⟨(by show 1 ≤ sizeLine; decide), fun l nl => q _ l [.ref t] ((same_upd' nt).trans (same_upd' nl)) ((same_upd' nt).free nl) upd_same (.cons ⟨t, rfl, same_upd' nl _ _ upd_same⟩ .nil)⟩⟩
  rw [if_neg (fun z => of_decide_eq_false h (congrArg V.str z))] at q
  refine ⟨_, rfl, rfl, _, rfl, ifB (fun h => ?_) (fun h => ?_)⟩
  · rw [if_pos (V.str.inj (of_decide_eq_true h))] at q
    exact ⟨_, rfl, _, rfl, r, _, rfl, dg (k := Sum.inr "b") hR rG_b, _, _, rfl, rfl, (by show 2 ≤ sizeLine; decide), fun t nt => ⟨(by show 1 ≤ sizeLine; decide), fun l nl => q _ l [.ref t] ((same_upd' nt).trans (same_upd' nl)) ((same_upd' nt).free nl) upd_same (.cons ⟨t, rfl, same_upd' nl _ _ upd_same⟩ .nil)⟩⟩
  rw [if_neg (fun z => of_decide_eq_false h (congrArg V.str z))] at q
  refine ⟨_, rfl, rfl, _, rfl, ifB (fun h => ?_) (fun h => ?_)⟩
  · rw [if_pos (V.str.inj (of_decide_eq_true h))] at q
    exact ⟨_, rfl, _, rfl, r, _, rfl, dg (k := Sum.inr "b") hR rG_b, _, _, rfl, rfl, (by show 2 ≤ sizeLine; decide), fun t nt => ⟨(by show 1 ≤ sizeLine; decide), fun l nl => q _ l [.ref t] ((same_upd' nt).trans (same_upd' nl)) ((same_upd' nt).free nl) upd_same (.cons ⟨t, rfl, same_upd' nl _ _ upd_same⟩ .nil)⟩⟩
  rw [if_neg (fun z => of_decide_eq_false h (congrArg V.str z))] at q
  refine ⟨_, rfl, (by show 2 ≤ sizeLine; decide), fun c1 nc1 => ?_⟩
  have sc1 := same_upd' (o := .tup [V.str "call", V.str "push"]) nc1
  have hc1 : upd H c1 (.tup [V.str "call", V.str "push"]) c1 = some (.tup ([("call" : Str), "push"].map V.str)) := upd_same
  generalize upd H c1 (.tup [V.str "call", V.str "push"]) = H1 at *
  refine ⟨c1, _, rfl, .inr (SqT.of hc1), rfl, flat_strs' _, _, rfl, ?_⟩
  rw [if_neg Bool.false_ne_true, in_strs]
  refine ifB (fun h => ?_) (fun h => ?_)
  · rw [if_pos (of_decide_eq_true h)] at q
    exact ⟨_, rfl, r, _, rfl, dg (k := Sum.inr "sp") (sc1 _ _ hR) rG_sp, (by show 2 ≤ sizeLine; decide), fun t nt => ⟨(by show 1 ≤ sizeLine; decide), fun l nl => q _ l [.ref t] ((sc1.trans (same_upd' nt)).trans (same_upd' nl)) ((sc1.trans (same_upd' nt)).free nl) upd_same (.cons ⟨t, rfl, same_upd' nl _ _ upd_same⟩ .nil)⟩⟩
  rw [if_neg (of_decide_eq_false h)] at q
  refine ⟨_, rfl, (by show 2 ≤ sizeLine; decide), fun c2 nc2 => ?_⟩
  have sc2 := sc1.trans (same_upd' (o := .tup [V.str "ret", V.str "pop"]) nc2)
  have hc2 : upd H1 c2 (.tup [V.str "ret", V.str "pop"]) c2 = some (.tup ([("ret" : Str), "pop"].map V.str)) := upd_same
  generalize upd H1 c2 (.tup [V.str "ret", V.str "pop"]) = H2 at *
  refine ⟨c2, _, rfl, .inr (SqT.of hc2), rfl, flat_strs' _, _, rfl, ?_⟩
  rw [if_neg Bool.false_ne_true, in_strs]
  refine ifB (fun h => ?_) (fun h => ?_)
  · rw [if_pos (of_decide_eq_true h)] at q
    exact ⟨_, rfl, r, _, rfl, dg (k := Sum.inr "sp") (sc2 _ _ hR) rG_sp, _, _, rfl, rfl, (by show 2 ≤ sizeLine; decide), fun t nt => ⟨(by show 1 ≤ sizeLine; decide), fun l nl => q _ l [.ref t] ((sc2.trans (same_upd' nt)).trans (same_upd' nl)) ((sc2.trans (same_upd' nt)).free nl) upd_same (.cons ⟨t, rfl, same_upd' nl _ _ upd_same⟩ .nil)⟩⟩
  rw [if_neg (of_decide_eq_false h)] at q
  refine ⟨_, rfl, rfl, _, rfl, ifB (fun h => ?_) (fun h => ?_)⟩
  · rw [if_pos (V.str.inj (of_decide_eq_true h))] at q
    refine ⟨_, rfl, r, _, rfl, dg (k := Sum.inr "sp") (sc2 _ _ hR) rG_sp, _, _, rfl, rfl, (by show 2 ≤ sizeLine; decide), fun t nt => ?_⟩
    have sc3 := sc2.trans (same_upd' (o := .tup [V.str "r", V.int (sp + 1)]) nt)
    have ht : upd H2 t (.tup [V.str "r", V.int (sp + 1)]) t = some (.tup [V.str "r", V.int (sp + 1)]) := upd_same
    generalize upd H2 t (.tup [V.str "r", V.int (sp + 1)]) = H3 at *
    refine ⟨_, rfl, r, _, rfl, dg (k := Sum.inr "sp") (sc3 _ _ hR) rG_sp, _, _, rfl, rfl, (by show 2 ≤ sizeLine; decide), fun t2 nt2 => ⟨(by show 2 ≤ sizeLine; decide), fun l nl => ?_⟩⟩
    exact q _ l [.ref t, .ref t2] ((sc3.trans (same_upd' nt2)).trans (same_upd' nl)) ((sc3.trans (same_upd' nt2)).free nl) upd_same (.cons ⟨t, rfl, same_upd' nl _ _ (same_upd' nt2 _ _ ht)⟩ (.cons ⟨t2, rfl, same_upd' nl _ _ upd_same⟩ .nil))
  rw [if_neg (fun z => of_decide_eq_false h (congrArg V.str z))] at q
  exact ⟨Nat.zero_le _, fun l nl => q _ l [] (sc2.trans (same_upd' nl)) (sc2.free nl) upd_same .nil⟩
abbrev sFgive : Stmt := topS 6
def scFgiveN : List Str := ["board", "word"]
theorem scFgive : FnScope scFgiveN ["board", "word"] (defScope sFgive) := ⟨rfl, rfl, rfl, by decide +kernel, rfl, by decide +kernel, by decide +kernel⟩
theorem ok_Fgive {f : Addr} {fd : FuncData} (F : Fun K "give" "give" sFgive f fd) (T : Tx K mg CB CM) : FnOk P w K mg base CX0 1 f fd ["board", "word"] (spGive CB CM) := by
  refine F.ok scFgive (fun vs H Q E h => by obtain ⟨_, _, _, _, rfl, _⟩ := h; rfl) (fun cdv A outer s H vs Q E hr h => ?_)
  have hu := hu_of hr
  obtain ⟨H0, p, x, v, rfl, R, k⟩ := h
  obtain ⟨A, ts, ls, B⟩ := R
  obtain ⟨sv, tv, dv, hp, hz⟩ := B.hp
  refine ⟨_, (pss_cons (ps_dput hu (pe_fld (pv 0) rfl) pe_str (pv 1) rfl)
    (pss_one (ps_fld (pv 0) (pe_cmpR op_eq (pv 1) pe_int (nomark _)) rfl))), ?_⟩
  refine ⟨_, rfl, _, rfl, p, CB, A.dx, _, _, rfl, hp, T.cB, T.n_registers, bF_reg, A.r, _, rfl, dp (k := Sum.inr "a") B.hr rP_a, ?_⟩
  have B1 := B.regs (a := v) (b := x.b) (pc := x.pc) (sp := x.sp)
  obtain ⟨sv1, tv1, dv1, hp1, hz1⟩ := B1.hp
  refine ⟨_, rfl, rfl, _, rfl, p, CB, A.dx, _, rfl, hp1, T.cB, T.n_zero, (by show 13 < 1000; decide), ?_⟩
  rw [bP_zero]
  have B2 := B1.fld (z := decide (V.int v = V.int 0)) (le := x.lets) (as := x.asleep) (bt := x.beat) (sv := sv1) (la := x.la) (tv := tv1) (dv := dv1) hz1
  have e : decide (V.int v = V.int 0) = decide (v = 0) := by
    by_cases h : v = 0
    · rw [decide_eq_true h, h]; rfl
    · rw [decide_eq_false h]; exact decide_eq_false fun z => h (V.int.inj z)
  rw [e] at B2 ⊢
  exact k _ ⟨A, ts, ls, B2⟩
abbrev sMpw : Stmt := inClass (topS 64) 11
def scMpwN : List Str := ["self", "address", "word"]
theorem scMpw : FnScope scMpwN ["self", "address", "word"] (defScope sMpw) := ⟨rfl, rfl, rfl, by decide +kernel, rfl, by decide +kernel, by decide +kernel⟩
theorem ok_Mpw {f : Addr} {fd : FuncData} {fM_put : Addr} {dM_put : FuncData} (F : Fun K "put_word" "Board.put_word" sMpw f fd) (T : Tx K mg CB CM)
    (M_put : CalM P w K mg base CM 1 "put" ["self", "address", "word"] (spMPut CM) fM_put dM_put) : FnOk P w K mg base CX0 2 f fd ["self", "address", "word"] (spPw CB CM) := by
  refine F.ok scMpw (fun vs H Q E h => by obtain ⟨_, _, _, _, _, rfl, _⟩ := h; rfl) (fun cdv A outer s H vs Q E hr h => ?_)
  have hu := hu_of hr
  obtain ⟨t_LINE_OUT, g_LINE_OUT⟩ := T.g_LINE_OUT
  obtain ⟨H0, p, x, a, v, rfl, R, hsl, a0, a1, k⟩ := h
  obtain ⟨A, ts, ls, B⟩ := R
  obtain ⟨sv, tv, dv, hp, hz⟩ := B.hp
  refine ⟨_, (pss_cons (ps_if (pt_cmpR op_eq (pv 1) (pgI g_LINE_OUT) (nomark _)) (pss_one (ps_expr (pe_bm PySem.F.plainAttrs_list PySem.F.slot_list_append PySem.F.type_list_append mt_append (pe_fld (pv 0) rfl) (pa_cons (pe_tup (pa_cons (pe_fld (pv 0) rfl) (pa_cons (pv 2) pa_nil))) pa_nil)))) pss_nil)
    (pss_one (ps_expr (pe_meth (pe_fld (pv 0) rfl) M_put.c M_put.m M_put.G (hr.mono (by decide)) M_put.b .nil pass0 (pa_cons (pv 1) (pa_cons (pv 2) pa_nil)))))), ?_⟩
  have fin : ∀ H1 y ts1, Bp CB CM H0 H1 p A ts1 ls y → y = sendM a v x → ∃ sv tv dv, H1 p = some (.ins CB A.dx (bdF A.r A.t A.m A.l y.zero y.lets y.asleep y.beat sv y.la tv dv)) ∧ MemAt CM H1 A.m A.dm A.w A.s y.mem ∧ Q .non (upd H1 A.w (.lst ((putMM a v y.mem).map V.int))) := fun H1 y ts1 B1 e => by
    obtain ⟨sv, tv, dv, hp, hz⟩ := B1.hp
    refine ⟨sv, tv, dv, hp, B1.mem, k _ ⟨A, ts1, ls, ?_⟩⟩
    have B2 := B1.wds (m := putMM a v y.mem) (by rw [putMM_len]; exact B1.lm)
    have e2 : putWM a v x = { y with mem := putMM a v y.mem } := by
      unfold putWM
      rw [e]
      have : (sendM a v x).mem = x.mem := by unfold sendM; split <;> rfl
      rw [this]
    rw [e2]
    exact B2
  refine ⟨_, rfl, rfl, _, rfl, ifB (fun h => ?_) (fun h => ?_)⟩
  · have ea := V.int.inj (of_decide_eq_true h)
    refine ⟨_, rfl, p, CB, A.dx, _, _, rfl, hp, T.cB, T.n_sent, bF_sent, .inl ⟨rfl, _, SqL.of B.ht⟩, _, rfl, p, CB, A.dx, _, _, rfl, hp, T.cB, T.n_beat, bF_beat, _, rfl, (by show 2 ≤ sizeLine; decide), fun q nq => ?_⟩
    have B1 := B.more (o := .tup [V.int x.beat, V.int v]) nq
    refine ⟨A.t, ts, _, rfl, rfl, B1.ht, (by rw [TupsAt.len B.us]; exact Nat.lt_of_lt_of_le hsl (by decide)), ?_⟩
    have B2 := B1.snd (q := q) (u := (x.beat, v)) upd_same
    obtain ⟨sv2, tv2, dv2, hp2, M2, fin2⟩ := fin _ _ _ B2 (by unfold sendM; rw [if_pos ea])
    exact ⟨_, rfl, p, CB, A.dx, _, _, rfl, hp2, T.cB, T.n_memory, bF_mem, A.m, A.dm, _, rfl, M2.hm, mN_put, _, rfl, _, rfl, A.m, A.dm, A.w, A.s, _, a, v, rfl, M2, a0, a1, fin2⟩
  · have ea : ¬ a = 773 := fun z => of_decide_eq_false h (congrArg V.int z)
    obtain ⟨sv2, tv2, dv2, hp2, M2, fin2⟩ := fin _ _ _ B (by unfold sendM; rw [if_neg ea])
    exact ⟨_, rfl, p, CB, A.dx, _, _, rfl, hp2, T.cB, T.n_memory, bF_mem, A.m, A.dm, _, rfl, M2.hm, mN_put, _, rfl, _, rfl, A.m, A.dm, A.w, A.s, _, a, v, rfl, M2, a0, a1, fin2⟩
abbrev sMpbt : Stmt := inClass (topS 64) 10
def scMpbtN : List Str := ["self", "address", "word"]
theorem scMpbt : FnScope scMpbtN ["self", "address", "word"] (defScope sMpbt) := ⟨rfl, rfl, rfl, by decide +kernel, rfl, by decide +kernel, by decide +kernel⟩
theorem ok_Mpbt {f : Addr} {fd : FuncData} {fM_pw : Addr} {dM_pw : FuncData} (F : Fun K "put_by_turn" "Board.put_by_turn" sMpbt f fd) (T : Tx K mg CB CM)
    (M_pw : CalM P w K mg base CB 2 "put_word" ["self", "address", "word"] (spPw CB CM) fM_pw dM_pw) : FnOk P w K mg base CX0 3 f fd ["self", "address", "word"] (spPw CB CM) := by
  refine F.ok scMpbt (fun vs H Q E h => by obtain ⟨_, _, _, _, _, rfl, _⟩ := h; rfl) (fun cdv A outer s H vs Q E hr h => ?_)
  have hu := hu_of hr
  obtain ⟨H0, p, x, a, v, rfl, R, hsl, a0, a1, k⟩ := h
  obtain ⟨A, ts, ls, B⟩ := R
  obtain ⟨sv, tv, dv, hp, hz⟩ := B.hp
  refine ⟨_, (pss_cons (ps_if (pt_cmp (pc_din hu (pv 1) (pe_fld (pe_fld (pv 0) rfl) rfl))) (pss_one (ps_ddel (pe_fld (pe_fld (pv 0) rfl) rfl) (pv 1))) pss_nil)
    (pss_one (ps_expr (pe_meth (pv 0) M_pw.c M_pw.m M_pw.G (hr.mono (by decide)) M_pw.b .nil pass0 (pa_cons (pv 1) (pa_cons (pv 2) pa_nil)))))), ?_⟩
  refine ⟨_, rfl, _, rfl, p, CB, A.dx, _, _, rfl, hp, T.cB, T.n_memory, bF_mem, A.m, CM, A.dm, _, _, rfl, B.hm, T.cM, T.n_swapped, mF_s, A.s, _, rfl, DGet.k (k := Sum.inl a) B.hs, _, rfl, ?_⟩
  exact ⟨_, rfl, p, A.dx, _, rfl, hp, bN_pw, _, rfl, _, rfl, H0, p, x, a, v, rfl, ⟨A, ts, ls, B⟩, hsl, a0, a1, k⟩
end
end Bh

/-! What each deed does. -/
namespace Bh
open PySem PySem.Spec PyProof.Rows L2
section
variable {P : Program} {w : World} {K : PySem.W.Frag} {mg : Str → Option Value} {base : Heap} {CB CM : Addr}
abbrev sD1 : Stmt := topS 7
def scD1N : List Str := ["board", "x", "words"]
theorem scD1 : FnScope scD1N ["board", "x", "words"] (defScope sD1) := ⟨rfl, rfl, rfl, by decide +kernel, rfl, by decide +kernel, by decide +kernel⟩
theorem ok_D1 {f : Addr} {fd : FuncData} {fF_give : Addr} {dF_give : FuncData} (F : Fun K "do_lit" "do_lit" sD1 f fd) (T : Tx K mg CB CM)
    (F_give : CalF P w K mg base 1 "give" ["board", "word"] (spGive CB CM) fF_give dF_give) : FnOk P w K mg base CX0 4 f fd ["board", "x", "words"] (spDo CB CM 1) := by
  refine F.ok scD1 (fun vs H Q E h => by obtain ⟨_, _, _, _, _, _, rfl, _⟩ := h; rfl) (fun cdv A outer s H vs Q E hr h => ?_)
  have hu := hu_of hr
  obtain ⟨H0, p, lw, x, n, ws, rfl, R, hlw, hws, hto, hsl, k⟩ := h
  refine ⟨_, (pss_one (ps_expr (pe_call F_give.G (hr.mono (by decide)) (by rfl) F_give.g F_give.kp F_give.b .nil pass0 (pa_cons (pv 0) (pa_cons (pv 1) pa_nil))))), ?_⟩
  exact ⟨_, rfl, _, rfl, H0, p, x, n, rfl, R, k⟩
abbrev sD2 : Stmt := topS 8
def scD2N : List Str := ["board", "x", "words"]
theorem scD2 : FnScope scD2N ["board", "x", "words"] (defScope sD2) := ⟨rfl, rfl, rfl, by decide +kernel, rfl, by decide +kernel, by decide +kernel⟩
theorem ok_D2 {f : Addr} {fd : FuncData} {fF_give : Addr} {dF_give : FuncData} (F : Fun K "do_get" "do_get" sD2 f fd) (T : Tx K mg CB CM)
    (F_give : CalF P w K mg base 1 "give" ["board", "word"] (spGive CB CM) fF_give dF_give) : FnOk P w K mg base CX0 4 f fd ["board", "x", "words"] (spDo CB CM 2) := by
  refine F.ok scD2 (fun vs H Q E h => by obtain ⟨_, _, _, _, _, _, rfl, _⟩ := h; rfl) (fun cdv A outer s H vs Q E hr h => ?_)
  have hu := hu_of hr
  obtain ⟨H0, p, lw, x, n, ws, rfl, R, hlw, hws, hto, hsl, k⟩ := h
  obtain ⟨v, rfl⟩ := len1 hws
  refine ⟨_, (pss_one (ps_expr (pe_call F_give.G (hr.mono (by decide)) (by rfl) F_give.g F_give.kp F_give.b .nil pass0 (pa_cons (pv 0) (pa_cons (pe_ix ix_list (pv 2) pe_int (fun _ _ => rfl)) pa_nil))))), ?_⟩
  exact ⟨_, rfl, _, rfl, lw, _, 0, _, rfl, rfl, SqL.of hlw, atI_nat (j := 0) rfl, H0, p, x, v, rfl, R, k⟩
abbrev sD8 : Stmt := topS 8
def scD8N : List Str := ["board", "x", "words"]
theorem scD8 : FnScope scD8N ["board", "x", "words"] (defScope sD8) := ⟨rfl, rfl, rfl, by decide +kernel, rfl, by decide +kernel, by decide +kernel⟩
theorem ok_D8 {f : Addr} {fd : FuncData} {fF_give : Addr} {dF_give : FuncData} (F : Fun K "do_get" "do_get" sD8 f fd) (T : Tx K mg CB CM)
    (F_give : CalF P w K mg base 1 "give" ["board", "word"] (spGive CB CM) fF_give dF_give) : FnOk P w K mg base CX0 4 f fd ["board", "x", "words"] (spDo CB CM 8) := by
  refine F.ok scD8 (fun vs H Q E h => by obtain ⟨_, _, _, _, _, _, rfl, _⟩ := h; rfl) (fun cdv A outer s H vs Q E hr h => ?_)
  have hu := hu_of hr
  obtain ⟨H0, p, lw, x, n, ws, rfl, R, hlw, hws, hto, hsl, k⟩ := h
  obtain ⟨v, rfl⟩ := len1 hws
  refine ⟨_, (pss_one (ps_expr (pe_call F_give.G (hr.mono (by decide)) (by rfl) F_give.g F_give.kp F_give.b .nil pass0 (pa_cons (pv 0) (pa_cons (pe_ix ix_list (pv 2) pe_int (fun _ _ => rfl)) pa_nil))))), ?_⟩
  exact ⟨_, rfl, _, rfl, lw, _, 0, _, rfl, rfl, SqL.of hlw, atI_nat (j := 0) rfl, H0, p, x, v, rfl, R, k⟩
abbrev sD3 : Stmt := topS 9
def scD3N : List Str := ["board", "x", "words"]
theorem scD3 : FnScope scD3N ["board", "x", "words"] (defScope sD3) := ⟨rfl, rfl, rfl, by decide +kernel, rfl, by decide +kernel, by decide +kernel⟩
theorem ok_D3 {f : Addr} {fd : FuncData} {fM_pbt : Addr} {dM_pbt : FuncData} (F : Fun K "do_put" "do_put" sD3 f fd) (T : Tx K mg CB CM)
    (M_pbt : CalM P w K mg base CB 3 "put_by_turn" ["self", "address", "word"] (spPw CB CM) fM_pbt dM_pbt) : FnOk P w K mg base CX0 4 f fd ["board", "x", "words"] (spDo CB CM 3) := by
  refine F.ok scD3 (fun vs H Q E h => by obtain ⟨_, _, _, _, _, _, rfl, _⟩ := h; rfl) (fun cdv A outer s H vs Q E hr h => ?_)
  have hu := hu_of hr
  obtain ⟨H0, p, lw, x, n, ws, rfl, R, hlw, hws, hto, hsl, k⟩ := h
  obtain ⟨A, ts, ls, B⟩ := R
  obtain ⟨sv, tv, dv, hp, hz⟩ := B.hp
  obtain ⟨t0, t1⟩ := hto (true, n) (List.mem_singleton.mpr rfl)
  refine ⟨_, (pss_one (ps_expr (pe_meth (pv 0) M_pbt.c M_pbt.m M_pbt.G (hr.mono (by decide)) M_pbt.b .nil pass0 (pa_cons (pv 1) (pa_cons (pe_dget hu (pe_fld (pv 0) rfl) pe_str (fun _ _ => rfl)) pa_nil))))), ?_⟩
  exact ⟨_, rfl, p, A.dx, _, rfl, hp, bN_pbt, _, rfl, _, rfl, p, CB, A.dx, _, _, rfl, hp, T.cB, T.n_registers, bF_reg, A.r, _, rfl, dg (k := Sum.inr "a") B.hr rG_a, H0, p, x, n, x.a, rfl, ⟨A, ts, ls, B⟩, hsl, t0, t1, k⟩
abbrev sD4 : Stmt := topS 10
def scD4N : List Str := ["board", "x", "words"]
theorem scD4 : FnScope scD4N ["board", "x", "words"] (defScope sD4) := ⟨rfl, rfl, rfl, by decide +kernel, rfl, by decide +kernel, by decide +kernel⟩
theorem ok_D4 {f : Addr} {fd : FuncData} {fF_give : Addr} {dF_give : FuncData} (F : Fun K "do_add" "do_add" sD4 f fd) (T : Tx K mg CB CM)
    (F_give : CalF P w K mg base 1 "give" ["board", "word"] (spGive CB CM) fF_give dF_give) : FnOk P w K mg base CX0 4 f fd ["board", "x", "words"] (spDo CB CM 4) := by
  refine F.ok scD4 (fun vs H Q E h => by obtain ⟨_, _, _, _, _, _, rfl, _⟩ := h; rfl) (fun cdv A outer s H vs Q E hr h => ?_)
  have hu := hu_of hr
  obtain ⟨t_WORDS, g_WORDS⟩ := T.g_WORDS
  obtain ⟨H0, p, lw, x, n, ws, rfl, R, hlw, hws, hto, hsl, k⟩ := h
  obtain ⟨v, rfl⟩ := len1 hws
  obtain ⟨A, ts, ls, B⟩ := R
  obtain ⟨sv, tv, dv, hp, hz⟩ := B.hp
  refine ⟨_, (pss_one (ps_expr (pe_call F_give.G (hr.mono (by decide)) (by rfl) F_give.g F_give.kp F_give.b .nil pass0 (pa_cons (pv 0) (pa_cons (pe_op op_mod (pe_op op_add (pe_dget hu (pe_fld (pv 0) rfl) pe_str (fun _ _ => rfl)) (pe_ix ix_list (pv 2) pe_int (fun _ _ => rfl))) (pgI g_WORDS)) pa_nil))))), ?_⟩
  exact ⟨_, rfl, _, rfl, p, CB, A.dx, _, _, rfl, hp, T.cB, T.n_registers, bF_reg, A.r, _, rfl, dg (k := Sum.inr "a") B.hr rG_a, _, rfl, lw, _, 0, _, rfl, rfl, SqL.of hlw, atI_nat (j := 0) rfl, _, _, rfl, rfl, _, _, rfl, rfl, (by show (0 : Int) < 65536; decide), H0, p, x, (x.a + v) % 65536, rfl, ⟨A, ts, ls, B⟩, k⟩
abbrev sD5 : Stmt := topS 11
def scD5N : List Str := ["board", "x", "words"]
theorem scD5 : FnScope scD5N ["board", "x", "words"] (defScope sD5) := ⟨rfl, rfl, rfl, by decide +kernel, rfl, by decide +kernel, by decide +kernel⟩
theorem ok_D5 {f : Addr} {fd : FuncData} {fF_give : Addr} {dF_give : FuncData} (F : Fun K "do_sub" "do_sub" sD5 f fd) (T : Tx K mg CB CM)
    (F_give : CalF P w K mg base 1 "give" ["board", "word"] (spGive CB CM) fF_give dF_give) : FnOk P w K mg base CX0 4 f fd ["board", "x", "words"] (spDo CB CM 5) := by
  refine F.ok scD5 (fun vs H Q E h => by obtain ⟨_, _, _, _, _, _, rfl, _⟩ := h; rfl) (fun cdv A outer s H vs Q E hr h => ?_)
  have hu := hu_of hr
  obtain ⟨t_WORDS, g_WORDS⟩ := T.g_WORDS
  obtain ⟨H0, p, lw, x, n, ws, rfl, R, hlw, hws, hto, hsl, k⟩ := h
  obtain ⟨v, rfl⟩ := len1 hws
  obtain ⟨A, ts, ls, B⟩ := R
  obtain ⟨sv, tv, dv, hp, hz⟩ := B.hp
  refine ⟨_, (pss_one (ps_expr (pe_call F_give.G (hr.mono (by decide)) (by rfl) F_give.g F_give.kp F_give.b .nil pass0 (pa_cons (pv 0) (pa_cons (pe_op op_mod (pe_op op_sub (pe_dget hu (pe_fld (pv 0) rfl) pe_str (fun _ _ => rfl)) (pe_ix ix_list (pv 2) pe_int (fun _ _ => rfl))) (pgI g_WORDS)) pa_nil))))), ?_⟩
  exact ⟨_, rfl, _, rfl, p, CB, A.dx, _, _, rfl, hp, T.cB, T.n_registers, bF_reg, A.r, _, rfl, dg (k := Sum.inr "a") B.hr rG_a, _, rfl, lw, _, 0, _, rfl, rfl, SqL.of hlw, atI_nat (j := 0) rfl, _, _, rfl, rfl, _, _, rfl, rfl, (by show (0 : Int) < 65536; decide), H0, p, x, (x.a - v) % 65536, rfl, ⟨A, ts, ls, B⟩, k⟩
abbrev sD6 : Stmt := topS 12
def scD6N : List Str := ["board", "x", "words"]
theorem scD6 : FnScope scD6N ["board", "x", "words"] (defScope sD6) := ⟨rfl, rfl, rfl, by decide +kernel, rfl, by decide +kernel, by decide +kernel⟩
theorem ok_D6 {f : Addr} {fd : FuncData} {fF_give : Addr} {dF_give : FuncData} (F : Fun K "do_and" "do_and" sD6 f fd) (T : Tx K mg CB CM)
    (F_give : CalF P w K mg base 1 "give" ["board", "word"] (spGive CB CM) fF_give dF_give) : FnOk P w K mg base CX0 4 f fd ["board", "x", "words"] (spDo CB CM 6) := by
  refine F.ok scD6 (fun vs H Q E h => by obtain ⟨_, _, _, _, _, _, rfl, _⟩ := h; rfl) (fun cdv A outer s H vs Q E hr h => ?_)
  have hu := hu_of hr
  obtain ⟨H0, p, lw, x, n, ws, rfl, R, hlw, hws, hto, hsl, k⟩ := h
  obtain ⟨v, rfl⟩ := len1 hws
  obtain ⟨A, ts, ls, B⟩ := R
  obtain ⟨sv, tv, dv, hp, hz⟩ := B.hp
  refine ⟨_, (pss_one (ps_expr (pe_call F_give.G (hr.mono (by decide)) (by rfl) F_give.g F_give.kp F_give.b .nil pass0 (pa_cons (pv 0) (pa_cons (pe_op op_and (pe_dget hu (pe_fld (pv 0) rfl) pe_str (fun _ _ => rfl)) (pe_ix ix_list (pv 2) pe_int (fun _ _ => rfl))) pa_nil))))), ?_⟩
  exact ⟨_, rfl, _, rfl, p, CB, A.dx, _, _, rfl, hp, T.cB, T.n_registers, bF_reg, A.r, _, rfl, dg (k := Sum.inr "a") B.hr rG_a, _, rfl, lw, _, 0, _, rfl, rfl, SqL.of hlw, atI_nat (j := 0) rfl, _, _, rfl, rfl, H0, p, x, Builtin.bitAnd x.a v, rfl, ⟨A, ts, ls, B⟩, k⟩
abbrev sD7 : Stmt := topS 13
def scD7N : List Str := ["board", "x", "words"]
theorem scD7 : FnScope scD7N ["board", "x", "words"] (defScope sD7) := ⟨rfl, rfl, rfl, by decide +kernel, rfl, by decide +kernel, by decide +kernel⟩
theorem ok_D7 {f : Addr} {fd : FuncData} {fF_give : Addr} {dF_give : FuncData} (F : Fun K "do_xor" "do_xor" sD7 f fd) (T : Tx K mg CB CM)
    (F_give : CalF P w K mg base 1 "give" ["board", "word"] (spGive CB CM) fF_give dF_give) : FnOk P w K mg base CX0 4 f fd ["board", "x", "words"] (spDo CB CM 7) := by
  refine F.ok scD7 (fun vs H Q E h => by obtain ⟨_, _, _, _, _, _, rfl, _⟩ := h; rfl) (fun cdv A outer s H vs Q E hr h => ?_)
  have hu := hu_of hr
  obtain ⟨H0, p, lw, x, n, ws, rfl, R, hlw, hws, hto, hsl, k⟩ := h
  obtain ⟨v, rfl⟩ := len1 hws
  obtain ⟨A, ts, ls, B⟩ := R
  obtain ⟨sv, tv, dv, hp, hz⟩ := B.hp
  refine ⟨_, (pss_one (ps_expr (pe_call F_give.G (hr.mono (by decide)) (by rfl) F_give.g F_give.kp F_give.b .nil pass0 (pa_cons (pv 0) (pa_cons (pe_op op_xor (pe_dget hu (pe_fld (pv 0) rfl) pe_str (fun _ _ => rfl)) (pe_ix ix_list (pv 2) pe_int (fun _ _ => rfl))) pa_nil))))), ?_⟩
  exact ⟨_, rfl, _, rfl, p, CB, A.dx, _, _, rfl, hp, T.cB, T.n_registers, bF_reg, A.r, _, rfl, dg (k := Sum.inr "a") B.hr rG_a, _, rfl, lw, _, 0, _, rfl, rfl, SqL.of hlw, atI_nat (j := 0) rfl, _, _, rfl, rfl, H0, p, x, Builtin.bitXor x.a v, rfl, ⟨A, ts, ls, B⟩, k⟩
abbrev sD9 : Stmt := topS 14
def scD9N : List Str := ["board", "x", "words"]
theorem scD9 : FnScope scD9N ["board", "x", "words"] (defScope sD9) := ⟨rfl, rfl, rfl, by decide +kernel, rfl, by decide +kernel, by decide +kernel⟩
theorem ok_D9 {f : Addr} {fd : FuncData} {fM_pbt : Addr} {dM_pbt : FuncData} (F : Fun K "do_putb" "do_putb" sD9 f fd) (T : Tx K mg CB CM)
    (M_pbt : CalM P w K mg base CB 3 "put_by_turn" ["self", "address", "word"] (spPw CB CM) fM_pbt dM_pbt) : FnOk P w K mg base CX0 4 f fd ["board", "x", "words"] (spDo CB CM 9) := by
  refine F.ok scD9 (fun vs H Q E h => by obtain ⟨_, _, _, _, _, _, rfl, _⟩ := h; rfl) (fun cdv A outer s H vs Q E hr h => ?_)
  have hu := hu_of hr
  obtain ⟨H0, p, lw, x, n, ws, rfl, R, hlw, hws, hto, hsl, k⟩ := h
  obtain ⟨A, ts, ls, B⟩ := R
  obtain ⟨sv, tv, dv, hp, hz⟩ := B.hp
  obtain ⟨t0, t1⟩ := hto (true, n + x.b) (List.mem_singleton.mpr rfl)
  refine ⟨_, (pss_one (ps_expr (pe_meth (pv 0) M_pbt.c M_pbt.m M_pbt.G (hr.mono (by decide)) M_pbt.b .nil pass0 (pa_cons (pe_op op_add (pv 1) (pe_dget hu (pe_fld (pv 0) rfl) pe_str (fun _ _ => rfl))) (pa_cons (pe_dget hu (pe_fld (pv 0) rfl) pe_str (fun _ _ => rfl)) pa_nil))))), ?_⟩
  exact ⟨_, rfl, p, A.dx, _, rfl, hp, bN_pbt, _, rfl, _, rfl, p, CB, A.dx, _, _, rfl, hp, T.cB, T.n_registers, bF_reg, A.r, _, rfl, dg (k := Sum.inr "b") B.hr rG_b, _, _, rfl, rfl, _, rfl, p, CB, A.dx, _, _, rfl, hp, T.cB, T.n_registers, bF_reg, A.r, _, rfl, dg (k := Sum.inr "a") B.hr rG_a, H0, p, x, (n + x.b), x.a, rfl, ⟨A, ts, ls, B⟩, hsl, t0, t1, k⟩
abbrev sD10 : Stmt := topS 15
def scD10N : List Str := ["board", "x", "words"]
theorem scD10 : FnScope scD10N ["board", "x", "words"] (defScope sD10) := ⟨rfl, rfl, rfl, by decide +kernel, rfl, by decide +kernel, by decide +kernel⟩
theorem ok_D10 {f : Addr} {fd : FuncData} (F : Fun K "do_tob" "do_tob" sD10 f fd) (T : Tx K mg CB CM) : FnOk P w K mg base CX0 4 f fd ["board", "x", "words"] (spDo CB CM 10) := by
  refine F.ok scD10 (fun vs H Q E h => by obtain ⟨_, _, _, _, _, _, rfl, _⟩ := h; rfl) (fun cdv A outer s H vs Q E hr h => ?_)
  have hu := hu_of hr
  obtain ⟨H0, p, lw, x, n, ws, rfl, R, hlw, hws, hto, hsl, k⟩ := h
  obtain ⟨A, ts, ls, B⟩ := R
  obtain ⟨sv, tv, dv, hp, hz⟩ := B.hp
  refine ⟨_, (pss_one (ps_dput hu (pe_fld (pv 0) rfl) pe_str (pe_dget hu (pe_fld (pv 0) rfl) pe_str (fun _ _ => rfl)) rfl)), ?_⟩
  exact ⟨_, rfl, p, CB, A.dx, _, _, rfl, hp, T.cB, T.n_registers, bF_reg, A.r, _, rfl, dg (k := Sum.inr "a") B.hr rG_a, _, rfl, p, CB, A.dx, _, _, rfl, hp, T.cB, T.n_registers, bF_reg, A.r, _, rfl, dp (k := Sum.inr "b") B.hr rP_b, k _ ⟨A, ts, ls, B.regs (a := x.a) (b := x.a) (pc := x.pc) (sp := x.sp)⟩⟩
abbrev sD11 : Stmt := topS 16
def scD11N : List Str := ["board", "x", "words", "a"]
theorem scD11 : FnScope scD11N ["board", "x", "words"] (defScope sD11) := ⟨rfl, rfl, rfl, by decide +kernel, rfl, by decide +kernel, by decide +kernel⟩
theorem ok_D11 {f : Addr} {fd : FuncData} {fF_give : Addr} {dF_give : FuncData} (F : Fun K "do_swap" "do_swap" sD11 f fd) (T : Tx K mg CB CM)
    (F_give : CalF P w K mg base 1 "give" ["board", "word"] (spGive CB CM) fF_give dF_give) : FnOk P w K mg base CX0 4 f fd ["board", "x", "words"] (spDo CB CM 11) := by
  refine F.ok scD11 (fun vs H Q E h => by obtain ⟨_, _, _, _, _, _, rfl, _⟩ := h; rfl) (fun cdv A outer s H vs Q E hr h => ?_)
  have hu := hu_of hr
  obtain ⟨H0, p, lw, x, n, ws, rfl, R, hlw, hws, hto, hsl, k⟩ := h
  obtain ⟨A, ts, ls, B⟩ := R
  obtain ⟨sv, tv, dv, hp, hz⟩ := B.hp
  refine ⟨_, (pss_cons (ps_set (i := 3) scD11.nd rfl (.inl rfl) (pe_dget hu (pe_fld (pv 0) rfl) pe_str (fun _ _ => rfl)))
    (pss_cons (ps_expr (pe_call F_give.G (hr.mono (by decide)) (by rfl) F_give.g F_give.kp F_give.b .nil pass0 (pa_cons (pv 0) (pa_cons (pe_dget hu (pe_fld (pv 0) rfl) pe_str (fun _ _ => rfl)) pa_nil))))
    (pss_one (ps_dput hu (pe_fld (pv 0) rfl) pe_str (pv 3) rfl)))), ?_⟩
  refine ⟨_, rfl, p, CB, A.dx, _, _, rfl, hp, T.cB, T.n_registers, bF_reg, A.r, _, rfl, dg (k := Sum.inr "a") B.hr rG_a, _, rfl, _, rfl, p, CB, A.dx, _, _, rfl, hp, T.cB, T.n_registers, bF_reg, A.r, _, rfl, dg (k := Sum.inr "b") B.hr rG_b, H0, p, x, x.b, rfl, ⟨A, ts, ls, B⟩, fun H1 R1 => ?_⟩
  obtain ⟨A1, ts1, ls1, B1⟩ := R1
  obtain ⟨sv1, tv1, dv1, hp1, hz1⟩ := B1.hp
  exact ⟨_, rfl, _, rfl, p, CB, A1.dx, _, _, rfl, hp1, T.cB, T.n_registers, bF_reg, A1.r, _, rfl, dp (k := Sum.inr "b") B1.hr rP_b, k _ ⟨A1, ts1, ls1, B1.regs (a := x.b) (b := x.a) (pc := x.pc) (sp := x.sp)⟩⟩
abbrev sD12 : Stmt := topS 17
def scD12N : List Str := ["board", "x", "words"]
theorem scD12 : FnScope scD12N ["board", "x", "words"] (defScope sD12) := ⟨rfl, rfl, rfl, by decide +kernel, rfl, by decide +kernel, by decide +kernel⟩
theorem ok_D12 {f : Addr} {fd : FuncData} (F : Fun K "do_go" "do_go" sD12 f fd) (T : Tx K mg CB CM) : FnOk P w K mg base CX0 4 f fd ["board", "x", "words"] (spDo CB CM 12) := by
  refine F.ok scD12 (fun vs H Q E h => by obtain ⟨_, _, _, _, _, _, rfl, _⟩ := h; rfl) (fun cdv A outer s H vs Q E hr h => ?_)
  have hu := hu_of hr
  obtain ⟨H0, p, lw, x, n, ws, rfl, R, hlw, hws, hto, hsl, k⟩ := h
  obtain ⟨A, ts, ls, B⟩ := R
  obtain ⟨sv, tv, dv, hp, hz⟩ := B.hp
  refine ⟨_, (pss_one (ps_dput hu (pe_fld (pv 0) rfl) pe_str (pv 1) rfl)), ?_⟩
  exact ⟨_, rfl, _, rfl, p, CB, A.dx, _, _, rfl, hp, T.cB, T.n_registers, bF_reg, A.r, _, rfl, dp (k := Sum.inr "pc") B.hr rP_pc, k _ ⟨A, ts, ls, B.regs (a := x.a) (b := x.b) (pc := n) (sp := x.sp)⟩⟩
abbrev sD13 : Stmt := topS 18
def scD13N : List Str := ["board", "x", "words"]
theorem scD13 : FnScope scD13N ["board", "x", "words"] (defScope sD13) := ⟨rfl, rfl, rfl, by decide +kernel, rfl, by decide +kernel, by decide +kernel⟩
theorem ok_D13 {f : Addr} {fd : FuncData} (F : Fun K "do_ifz" "do_ifz" sD13 f fd) (T : Tx K mg CB CM) : FnOk P w K mg base CX0 4 f fd ["board", "x", "words"] (spDo CB CM 13) := by
  refine F.ok scD13 (fun vs H Q E h => by obtain ⟨_, _, _, _, _, _, rfl, _⟩ := h; rfl) (fun cdv A outer s H vs Q E hr h => ?_)
  have hu := hu_of hr
  obtain ⟨H0, p, lw, x, n, ws, rfl, R, hlw, hws, hto, hsl, k⟩ := h
  obtain ⟨A, ts, ls, B⟩ := R
  obtain ⟨sv, tv, dv, hp, hz⟩ := B.hp
  refine ⟨_, (pss_one (ps_if (pt_val (pe_fld (pv 0) rfl)) (pss_one (ps_dput hu (pe_fld (pv 0) rfl) pe_str (pv 1) rfl)) pss_nil)), ?_⟩
  refine ⟨_, rfl, p, CB, A.dx, _, _, rfl, hp, T.cB, T.n_zero, bF_zero, _, rfl, ifB (fun h => ?_) (fun h => ?_)⟩
  · have e : doM 13 n ws x = { x with pc := n } := if_pos h
    rw [e] at k
    exact ⟨_, rfl, _, rfl, p, CB, A.dx, _, _, rfl, hp, T.cB, T.n_registers, bF_reg, A.r, _, rfl, dp (k := Sum.inr "pc") B.hr rP_pc, k _ ⟨A, ts, ls, B.regs (a := x.a) (b := x.b) (pc := n) (sp := x.sp)⟩⟩
  · have e : doM 13 n ws x = x := if_neg (by rw [h]; decide)
    rw [e] at k
    exact k _ ⟨A, ts, ls, B⟩
abbrev sD14 : Stmt := topS 19
def scD14N : List Str := ["board", "x", "words"]
theorem scD14 : FnScope scD14N ["board", "x", "words"] (defScope sD14) := ⟨rfl, rfl, rfl, by decide +kernel, rfl, by decide +kernel, by decide +kernel⟩
theorem ok_D14 {f : Addr} {fd : FuncData} (F : Fun K "do_ifn" "do_ifn" sD14 f fd) (T : Tx K mg CB CM) : FnOk P w K mg base CX0 4 f fd ["board", "x", "words"] (spDo CB CM 14) := by
  refine F.ok scD14 (fun vs H Q E h => by obtain ⟨_, _, _, _, _, _, rfl, _⟩ := h; rfl) (fun cdv A outer s H vs Q E hr h => ?_)
  have hu := hu_of hr
  obtain ⟨t_HIGH, g_HIGH⟩ := T.g_HIGH
  obtain ⟨H0, p, lw, x, n, ws, rfl, R, hlw, hws, hto, hsl, k⟩ := h
  obtain ⟨A, ts, ls, B⟩ := R
  obtain ⟨sv, tv, dv, hp, hz⟩ := B.hp
  refine ⟨_, (pss_one (ps_if (pt_cmpR op_ge (pe_dget hu (pe_fld (pv 0) rfl) pe_str (fun _ _ => rfl)) (pgI g_HIGH) (nomark _)) (pss_one (ps_dput hu (pe_fld (pv 0) rfl) pe_str (pv 1) rfl)) pss_nil)), ?_⟩
  refine ⟨_, rfl, p, CB, A.dx, _, _, rfl, hp, T.cB, T.n_registers, bF_reg, A.r, _, rfl, dg (k := Sum.inr "a") B.hr rG_a, _, _, rfl, rfl, _, rfl, ifB (fun h => ?_) (fun h => ?_)⟩
  · have e : doM 14 n ws x = { x with pc := n } := if_pos (of_decide_eq_true h)
    rw [e] at k
    exact ⟨_, rfl, _, rfl, p, CB, A.dx, _, _, rfl, hp, T.cB, T.n_registers, bF_reg, A.r, _, rfl, dp (k := Sum.inr "pc") B.hr rP_pc, k _ ⟨A, ts, ls, B.regs (a := x.a) (b := x.b) (pc := n) (sp := x.sp)⟩⟩
  · have e : doM 14 n ws x = x := if_neg (of_decide_eq_false h)
    rw [e] at k
    exact k _ ⟨A, ts, ls, B⟩
abbrev sD15 : Stmt := topS 20
def scD15N : List Str := ["board", "x", "words"]
theorem scD15 : FnScope scD15N ["board", "x", "words"] (defScope sD15) := ⟨rfl, rfl, rfl, by decide +kernel, rfl, by decide +kernel, by decide +kernel⟩
theorem ok_D15 {f : Addr} {fd : FuncData} {fM_pbt : Addr} {dM_pbt : FuncData} (F : Fun K "do_call" "do_call" sD15 f fd) (T : Tx K mg CB CM)
    (M_pbt : CalM P w K mg base CB 3 "put_by_turn" ["self", "address", "word"] (spPw CB CM) fM_pbt dM_pbt) : FnOk P w K mg base CX0 4 f fd ["board", "x", "words"] (spDo CB CM 15) := by
  refine F.ok scD15 (fun vs H Q E h => by obtain ⟨_, _, _, _, _, _, rfl, _⟩ := h; rfl) (fun cdv A outer s H vs Q E hr h => ?_)
  have hu := hu_of hr
  obtain ⟨H0, p, lw, x, n, ws, rfl, R, hlw, hws, hto, hsl, k⟩ := h
  obtain ⟨A, ts, ls, B⟩ := R
  obtain ⟨sv, tv, dv, hp, hz⟩ := B.hp
  obtain ⟨t0, t1⟩ := hto (true, x.sp) (List.mem_singleton.mpr rfl)
  refine ⟨_, (pss_cons (ps_expr (pe_meth (pv 0) M_pbt.c M_pbt.m M_pbt.G (hr.mono (by decide)) M_pbt.b .nil pass0 (pa_cons (pe_dget hu (pe_fld (pv 0) rfl) pe_str (fun _ _ => rfl)) (pa_cons (pe_dget hu (pe_fld (pv 0) rfl) pe_str (fun _ _ => rfl)) pa_nil))))
    (pss_cons (ps_daug hu (pe_fld (pv 0) rfl) pe_str pe_int in_sub (fun _ _ _ => rfl))
    (pss_one (ps_dput hu (pe_fld (pv 0) rfl) pe_str (pv 1) rfl)))), ?_⟩
  refine ⟨_, rfl, p, A.dx, _, rfl, hp, bN_pbt, _, rfl, p, CB, A.dx, _, _, rfl, hp, T.cB, T.n_registers, bF_reg, A.r, _, rfl, dg (k := Sum.inr "sp") B.hr rG_sp, _, rfl, p, CB, A.dx, _, _, rfl, hp, T.cB, T.n_registers, bF_reg, A.r, _, rfl, dg (k := Sum.inr "pc") B.hr rG_pc, H0, p, x, x.sp, x.pc, rfl, ⟨A, ts, ls, B⟩, hsl, t0, t1, fun H1 R1 => ?_⟩
  obtain ⟨A1, ts1, ls1, B1⟩ := R1
  obtain ⟨sv1, tv1, dv1, hp1, hz1⟩ := B1.hp
  have e0 : ∀ a v, ((putWM a v x).a = x.a ∧ (putWM a v x).b = x.b ∧ (putWM a v x).pc = x.pc ∧ (putWM a v x).sp = x.sp) := fun a v => by
    unfold putWM sendM
    split <;> exact ⟨rfl, rfl, rfl, rfl⟩
  obtain ⟨ea, eb, ec, ed⟩ := e0 x.sp x.pc
  refine ⟨_, rfl, p, CB, A1.dx, _, _, rfl, hp1, T.cB, T.n_registers, bF_reg, A1.r, _, rfl, dg (k := Sum.inr "sp") B1.hr rG_sp, _, _, rfl, rfl, _, dp (k := Sum.inr "sp") B1.hr rP_sp, ?_⟩
  have B2 := B1.regs (a := (putWM x.sp x.pc x).a) (b := (putWM x.sp x.pc x).b) (pc := (putWM x.sp x.pc x).pc) (sp := (putWM x.sp x.pc x).sp - 1)
  obtain ⟨sv2, tv2, dv2, hp2, hz2⟩ := B2.hp
  refine ⟨_, rfl, _, rfl, p, CB, A1.dx, _, _, rfl, hp2, T.cB, T.n_registers, bF_reg, A1.r, _, rfl, dp (k := Sum.inr "pc") B2.hr rP_pc, k _ ⟨A1, ts1, ls1, ?_⟩⟩
  have B3 := B2.regs (a := (putWM x.sp x.pc x).a) (b := (putWM x.sp x.pc x).b) (pc := n) (sp := (putWM x.sp x.pc x).sp - 1)
  rw [ed] at B3 ⊢
  exact B3
abbrev sD16 : Stmt := topS 21
def scD16N : List Str := ["board", "x", "words"]
theorem scD16 : FnScope scD16N ["board", "x", "words"] (defScope sD16) := ⟨rfl, rfl, rfl, by decide +kernel, rfl, by decide +kernel, by decide +kernel⟩
theorem ok_D16 {f : Addr} {fd : FuncData} (F : Fun K "do_ret" "do_ret" sD16 f fd) (T : Tx K mg CB CM) : FnOk P w K mg base CX0 4 f fd ["board", "x", "words"] (spDo CB CM 16) := by
  refine F.ok scD16 (fun vs H Q E h => by obtain ⟨_, _, _, _, _, _, rfl, _⟩ := h; rfl) (fun cdv A outer s H vs Q E hr h => ?_)
  have hu := hu_of hr
  obtain ⟨H0, p, lw, x, n, ws, rfl, R, hlw, hws, hto, hsl, k⟩ := h
  obtain ⟨v, rfl⟩ := len1 hws
  obtain ⟨A, ts, ls, B⟩ := R
  obtain ⟨sv, tv, dv, hp, hz⟩ := B.hp
  refine ⟨_, (pss_cons (ps_daug hu (pe_fld (pv 0) rfl) pe_str pe_int in_add (fun _ _ _ => rfl))
    (pss_one (ps_dput hu (pe_fld (pv 0) rfl) pe_str (pe_ix ix_list (pv 2) pe_int (fun _ _ => rfl)) rfl))), ?_⟩
  refine ⟨_, rfl, p, CB, A.dx, _, _, rfl, hp, T.cB, T.n_registers, bF_reg, A.r, _, rfl, dg (k := Sum.inr "sp") B.hr rG_sp, _, _, rfl, rfl, _, dp (k := Sum.inr "sp") B.hr rP_sp, ?_⟩
  have B1 := B.regs (a := x.a) (b := x.b) (pc := x.pc) (sp := x.sp + 1)
  obtain ⟨sv1, tv1, dv1, hp1, hz1⟩ := B1.hp
  have hlw1 : upd H A.r (.dK (regD x.a x.b x.pc (x.sp + 1))) lw = some (.lst [.int v]) := by rw [upd_ne (ne_of hlw B.hr (by intro q; cases q))]; exact hlw
  exact ⟨_, rfl, lw, _, 0, _, rfl, rfl, SqL.of hlw1, atI_nat (j := 0) rfl, _, rfl, p, CB, A.dx, _, _, rfl, hp1, T.cB, T.n_registers, bF_reg, A.r, _, rfl, dp (k := Sum.inr "pc") B1.hr rP_pc, k _ ⟨A, ts, ls, B1.regs (a := x.a) (b := x.b) (pc := v) (sp := x.sp + 1)⟩⟩
abbrev sD17 : Stmt := topS 22
def scD17N : List Str := ["board", "x", "words"]
theorem scD17 : FnScope scD17N ["board", "x", "words"] (defScope sD17) := ⟨rfl, rfl, rfl, by decide +kernel, rfl, by decide +kernel, by decide +kernel⟩
theorem ok_D17 {f : Addr} {fd : FuncData} {fM_pbt : Addr} {dM_pbt : FuncData} (F : Fun K "do_push" "do_push" sD17 f fd) (T : Tx K mg CB CM)
    (M_pbt : CalM P w K mg base CB 3 "put_by_turn" ["self", "address", "word"] (spPw CB CM) fM_pbt dM_pbt) : FnOk P w K mg base CX0 4 f fd ["board", "x", "words"] (spDo CB CM 17) := by
  refine F.ok scD17 (fun vs H Q E h => by obtain ⟨_, _, _, _, _, _, rfl, _⟩ := h; rfl) (fun cdv A outer s H vs Q E hr h => ?_)
  have hu := hu_of hr
  obtain ⟨H0, p, lw, x, n, ws, rfl, R, hlw, hws, hto, hsl, k⟩ := h
  obtain ⟨A, ts, ls, B⟩ := R
  obtain ⟨sv, tv, dv, hp, hz⟩ := B.hp
  obtain ⟨t0, t1⟩ := hto (true, x.sp) (List.mem_singleton.mpr rfl)
  refine ⟨_, (pss_cons (ps_expr (pe_meth (pv 0) M_pbt.c M_pbt.m M_pbt.G (hr.mono (by decide)) M_pbt.b .nil pass0 (pa_cons (pe_dget hu (pe_fld (pv 0) rfl) pe_str (fun _ _ => rfl)) (pa_cons (pe_dget hu (pe_fld (pv 0) rfl) pe_str (fun _ _ => rfl)) pa_nil))))
    (pss_one (ps_daug hu (pe_fld (pv 0) rfl) pe_str pe_int in_sub (fun _ _ _ => rfl)))), ?_⟩
  refine ⟨_, rfl, p, A.dx, _, rfl, hp, bN_pbt, _, rfl, p, CB, A.dx, _, _, rfl, hp, T.cB, T.n_registers, bF_reg, A.r, _, rfl, dg (k := Sum.inr "sp") B.hr rG_sp, _, rfl, p, CB, A.dx, _, _, rfl, hp, T.cB, T.n_registers, bF_reg, A.r, _, rfl, dg (k := Sum.inr "a") B.hr rG_a, H0, p, x, x.sp, x.a, rfl, ⟨A, ts, ls, B⟩, hsl, t0, t1, fun H1 R1 => ?_⟩
  obtain ⟨A1, ts1, ls1, B1⟩ := R1
  obtain ⟨sv1, tv1, dv1, hp1, hz1⟩ := B1.hp
  have e0 : ∀ a v, ((putWM a v x).a = x.a ∧ (putWM a v x).b = x.b ∧ (putWM a v x).pc = x.pc ∧ (putWM a v x).sp = x.sp) := fun a v => by
    unfold putWM sendM
    split <;> exact ⟨rfl, rfl, rfl, rfl⟩
  obtain ⟨ea, eb, ec, ed⟩ := e0 x.sp x.a
  refine ⟨_, rfl, p, CB, A1.dx, _, _, rfl, hp1, T.cB, T.n_registers, bF_reg, A1.r, _, rfl, dg (k := Sum.inr "sp") B1.hr rG_sp, _, _, rfl, rfl, _, dp (k := Sum.inr "sp") B1.hr rP_sp, k _ ⟨A1, ts1, ls1, ?_⟩⟩
  have B2 := B1.regs (a := (putWM x.sp x.a x).a) (b := (putWM x.sp x.a x).b) (pc := (putWM x.sp x.a x).pc) (sp := (putWM x.sp x.a x).sp - 1)
  rw [ed] at B2 ⊢
  exact B2
abbrev sD18 : Stmt := topS 23
def scD18N : List Str := ["board", "x", "words"]
theorem scD18 : FnScope scD18N ["board", "x", "words"] (defScope sD18) := ⟨rfl, rfl, rfl, by decide +kernel, rfl, by decide +kernel, by decide +kernel⟩
theorem ok_D18 {f : Addr} {fd : FuncData} {fF_give : Addr} {dF_give : FuncData} (F : Fun K "do_pop" "do_pop" sD18 f fd) (T : Tx K mg CB CM)
    (F_give : CalF P w K mg base 1 "give" ["board", "word"] (spGive CB CM) fF_give dF_give) : FnOk P w K mg base CX0 4 f fd ["board", "x", "words"] (spDo CB CM 18) := by
  refine F.ok scD18 (fun vs H Q E h => by obtain ⟨_, _, _, _, _, _, rfl, _⟩ := h; rfl) (fun cdv A outer s H vs Q E hr h => ?_)
  have hu := hu_of hr
  obtain ⟨H0, p, lw, x, n, ws, rfl, R, hlw, hws, hto, hsl, k⟩ := h
  obtain ⟨v, rfl⟩ := len1 hws
  obtain ⟨A, ts, ls, B⟩ := R
  obtain ⟨sv, tv, dv, hp, hz⟩ := B.hp
  refine ⟨_, (pss_cons (ps_daug hu (pe_fld (pv 0) rfl) pe_str pe_int in_add (fun _ _ _ => rfl))
    (pss_one (ps_expr (pe_call F_give.G (hr.mono (by decide)) (by rfl) F_give.g F_give.kp F_give.b .nil pass0 (pa_cons (pv 0) (pa_cons (pe_ix ix_list (pv 2) pe_int (fun _ _ => rfl)) pa_nil)))))), ?_⟩
  refine ⟨_, rfl, p, CB, A.dx, _, _, rfl, hp, T.cB, T.n_registers, bF_reg, A.r, _, rfl, dg (k := Sum.inr "sp") B.hr rG_sp, _, _, rfl, rfl, _, dp (k := Sum.inr "sp") B.hr rP_sp, ?_⟩
  have B1 := B.regs (a := x.a) (b := x.b) (pc := x.pc) (sp := x.sp + 1)
  have hlw1 : upd H A.r (.dK (regD x.a x.b x.pc (x.sp + 1))) lw = some (.lst [.int v]) := by rw [upd_ne (ne_of hlw B.hr (by intro q; cases q))]; exact hlw
  exact ⟨_, rfl, _, rfl, lw, _, 0, _, rfl, rfl, SqL.of hlw1, atI_nat (j := 0) rfl, H0, p, _, v, rfl, ⟨A, ts, ls, B1⟩, k⟩
abbrev sD19 : Stmt := topS 24
def scD19N : List Str := ["board", "x", "words"]
theorem scD19 : FnScope scD19N ["board", "x", "words"] (defScope sD19) := ⟨rfl, rfl, rfl, by decide +kernel, rfl, by decide +kernel, by decide +kernel⟩
theorem ok_D19 {f : Addr} {fd : FuncData} (F : Fun K "do_sleep" "do_sleep" sD19 f fd) (T : Tx K mg CB CM) : FnOk P w K mg base CX0 4 f fd ["board", "x", "words"] (spDo CB CM 19) := by
  refine F.ok scD19 (fun vs H Q E h => by obtain ⟨_, _, _, _, _, _, rfl, _⟩ := h; rfl) (fun cdv A outer s H vs Q E hr h => ?_)
  have hu := hu_of hr
  obtain ⟨H0, p, lw, x, n, ws, rfl, R, hlw, hws, hto, hsl, k⟩ := h
  obtain ⟨A, ts, ls, B⟩ := R
  obtain ⟨sv, tv, dv, hp, hz⟩ := B.hp
  refine ⟨_, (pss_one (ps_fld (pv 0) pe_bl rfl)), ?_⟩
  refine ⟨_, rfl, p, CB, A.dx, _, rfl, hp, T.cB, T.n_asleep, (by show 13 < 1000; decide), ?_⟩
  rw [bP_asleep]
  exact k _ ⟨A, ts, ls, B.fld (z := x.zero) (le := x.lets) (as := true) (bt := x.beat) (sv := sv) (la := x.la) (tv := tv) (dv := dv) hz⟩
abbrev sD20 : Stmt := topS 25
def scD20N : List Str := ["board", "x", "words"]
theorem scD20 : FnScope scD20N ["board", "x", "words"] (defScope sD20) := ⟨rfl, rfl, rfl, by decide +kernel, rfl, by decide +kernel, by decide +kernel⟩
theorem ok_D20 {f : Addr} {fd : FuncData} (F : Fun K "do_let" "do_let" sD20 f fd) (T : Tx K mg CB CM) : FnOk P w K mg base CX0 4 f fd ["board", "x", "words"] (spDo CB CM 20) := by
  refine F.ok scD20 (fun vs H Q E h => by obtain ⟨_, _, _, _, _, _, rfl, _⟩ := h; rfl) (fun cdv A outer s H vs Q E hr h => ?_)
  have hu := hu_of hr
  obtain ⟨H0, p, lw, x, n, ws, rfl, R, hlw, hws, hto, hsl, k⟩ := h
  obtain ⟨A, ts, ls, B⟩ := R
  obtain ⟨sv, tv, dv, hp, hz⟩ := B.hp
  refine ⟨_, (pss_one (ps_fld (pv 0) (pe_cmpR op_eq (pe_op op_mod (pv 1) pe_int) pe_int (nomark _)) rfl)), ?_⟩
  have eb : ∀ u : Int, decide (V.int (u % 2) = V.int 1) = decide (u % 2 = 1) := fun u => by
    by_cases h : u % 2 = 1
    · rw [decide_eq_true h, h]; rfl
    · rw [decide_eq_false h]; exact decide_eq_false fun z => h (V.int.inj z)
  refine ⟨_, rfl, _, _, rfl, rfl, (by show (0 : Int) < 2; decide), rfl, _, rfl, p, CB, A.dx, _, rfl, hp, T.cB, T.n_lets, (by show 13 < 1000; decide), ?_⟩
  rw [bP_lets, eb]
  exact k _ ⟨A, ts, ls, B.fld (z := x.zero) (le := decide (n % 2 = 1)) (as := x.asleep) (bt := x.beat) (sv := sv) (la := x.la) (tv := tv) (dv := dv) hz⟩
abbrev sD21 : Stmt := topS 26
def scD21N : List Str := ["board", "x", "words"]
theorem scD21 : FnScope scD21N ["board", "x", "words"] (defScope sD21) := ⟨rfl, rfl, rfl, by decide +kernel, rfl, by decide +kernel, by decide +kernel⟩
theorem ok_D21 {f : Addr} {fd : FuncData} (F : Fun K "do_back" "do_back" sD21 f fd) (T : Tx K mg CB CM) : FnOk P w K mg base CX0 4 f fd ["board", "x", "words"] (spDo CB CM 21) := by
  refine F.ok scD21 (fun vs H Q E h => by obtain ⟨_, _, _, _, _, _, rfl, _⟩ := h; rfl) (fun cdv A outer s H vs Q E hr h => ?_)
  have hu := hu_of hr
  obtain ⟨H0, p, lw, x, n, ws, rfl, R, hlw, hws, hto, hsl, k⟩ := h
  obtain ⟨v, v2, rfl⟩ := len2 hws
  obtain ⟨A, ts, ls, B⟩ := R
  obtain ⟨sv, tv, dv, hp, hz⟩ := B.hp
  refine ⟨_, (pss_cons (ps_daug hu (pe_fld (pv 0) rfl) pe_str pe_int in_add (fun _ _ _ => rfl))
    (pss_cons (ps_fld (pv 0) (pe_cmpR op_eq (pe_op op_mod (pe_ix ix_list (pv 2) pe_int (fun _ _ => rfl)) pe_int) pe_int (nomark _)) rfl)
    (pss_cons (ps_dput hu (pe_fld (pv 0) rfl) pe_str (pe_ix ix_list (pv 2) pe_int (fun _ _ => rfl)) rfl)
    (pss_one (ps_fld (pv 0) pe_bl rfl))))), ?_⟩
  have eb : ∀ u : Int, decide (V.int (u % 2) = V.int 1) = decide (u % 2 = 1) := fun u => by
    by_cases h : u % 2 = 1
    · rw [decide_eq_true h, h]; rfl
    · rw [decide_eq_false h]; exact decide_eq_false fun z => h (V.int.inj z)
  refine ⟨_, rfl, p, CB, A.dx, _, _, rfl, hp, T.cB, T.n_registers, bF_reg, A.r, _, rfl, dg (k := Sum.inr "sp") B.hr rG_sp, _, _, rfl, rfl, _, dp (k := Sum.inr "sp") B.hr rP_sp, ?_⟩
  have B1 := B.regs (a := x.a) (b := x.b) (pc := x.pc) (sp := x.sp + 2)
  obtain ⟨sv1, tv1, dv1, hp1, hz1⟩ := B1.hp
  have hlw1 : upd H A.r (.dK (regD x.a x.b x.pc (x.sp + 2))) lw = some (.lst [.int v, .int v2]) := by rw [upd_ne (ne_of hlw B.hr (by intro q; cases q))]; exact hlw
  refine ⟨_, rfl, lw, _, 0, _, rfl, rfl, SqL.of hlw1, atI_nat (j := 0) rfl, _, _, rfl, rfl, (by show (0 : Int) < 2; decide), rfl, _, rfl, p, CB, A.dx, _, rfl, hp1, T.cB, T.n_zero, (by show 13 < 1000; decide), ?_⟩
  rw [bP_zero, eb]
  have B2 := B1.fld (z := decide (v % 2 = 1)) (le := x.lets) (as := x.asleep) (bt := x.beat) (sv := sv1) (la := x.la) (tv := tv1) (dv := dv1) hz1
  have hlw2 := hlw1
  rw [← upd_ne (H := upd H A.r (.dK (regD x.a x.b x.pc (x.sp + 2)))) (o := .ins CB A.dx (bdF A.r A.t A.m A.l (decide (v % 2 = 1)) x.lets x.asleep x.beat sv1 x.la tv1 dv1)) (ne_of hlw1 hp1 (by intro q; cases q))] at hlw2
  obtain ⟨sv2, tv2, dv2, hp2, hz2⟩ := B2.hp
  refine ⟨_, rfl, lw, _, 1, _, rfl, rfl, SqL.of hlw2, atI_nat (j := 1) rfl, _, rfl, p, CB, A.dx, _, _, rfl, hp2, T.cB, T.n_registers, bF_reg, A.r, _, rfl, dp (k := Sum.inr "pc") B2.hr rP_pc, ?_⟩
  have B3 := B2.regs (a := x.a) (b := x.b) (pc := v2) (sp := x.sp + 2)
  obtain ⟨sv3, tv3, dv3, hp3, hz3⟩ := B3.hp
  refine ⟨_, rfl, p, CB, A.dx, _, rfl, hp3, T.cB, T.n_lets, (by show 13 < 1000; decide), ?_⟩
  rw [bP_lets]
  exact k _ ⟨A, ts, ls, B3.fld (z := decide (v % 2 = 1)) (le := true) (as := x.asleep) (bt := x.beat) (sv := sv3) (la := x.la) (tv := tv3) (dv := dv3) hz3⟩
abbrev sD22 : Stmt := topS 27
def scD22N : List Str := ["board", "x", "words"]
theorem scD22 : FnScope scD22N ["board", "x", "words"] (defScope sD22) := ⟨rfl, rfl, rfl, by decide +kernel, rfl, by decide +kernel, by decide +kernel⟩
theorem ok_D22 {f : Addr} {fd : FuncData} {fF_give : Addr} {dF_give : FuncData} (F : Fun K "do_half" "do_half" sD22 f fd) (T : Tx K mg CB CM)
    (F_give : CalF P w K mg base 1 "give" ["board", "word"] (spGive CB CM) fF_give dF_give) : FnOk P w K mg base CX0 4 f fd ["board", "x", "words"] (spDo CB CM 22) := by
  refine F.ok scD22 (fun vs H Q E h => by obtain ⟨_, _, _, _, _, _, rfl, _⟩ := h; rfl) (fun cdv A outer s H vs Q E hr h => ?_)
  have hu := hu_of hr
  obtain ⟨H0, p, lw, x, n, ws, rfl, R, hlw, hws, hto, hsl, k⟩ := h
  obtain ⟨A, ts, ls, B⟩ := R
  obtain ⟨sv, tv, dv, hp, hz⟩ := B.hp
  refine ⟨_, (pss_one (ps_expr (pe_call F_give.G (hr.mono (by decide)) (by rfl) F_give.g F_give.kp F_give.b .nil pass0 (pa_cons (pv 0) (pa_cons (pe_op op_fdiv (pe_dget hu (pe_fld (pv 0) rfl) pe_str (fun _ _ => rfl)) pe_int) pa_nil))))), ?_⟩
  exact ⟨_, rfl, _, rfl, p, CB, A.dx, _, _, rfl, hp, T.cB, T.n_registers, bF_reg, A.r, _, rfl, dg (k := Sum.inr "a") B.hr rG_a, _, _, rfl, rfl, ⟨by decide, by decide⟩, H0, p, x, x.a / 2, rfl, ⟨A, ts, ls, B⟩, k⟩
end
end Bh

/-! Beats, stops, what may be touched. -/
namespace Bh
open PySem PySem.Spec PyProof.Rows L2
def spCome (CB CM : Addr) : Sp := fun vs H Q _ => ∃ (H0 : Hp) (p : Addr) (x : Bd), vs = [.ref p] ∧ BoardAt CB CM H0 H p x ∧ ∀ H', BoardAt CB CM H0 H' p (comeM x) → Q .non H'
def spPass (CB CM : Addr) : Sp := fun vs H Q _ => ∃ (H0 : Hp) (p : Addr) (x : Bd) (n : Nat), vs = [.ref p, .int (n : Int)] ∧ BoardAt CB CM H0 H p x ∧ n ≤ 1000 ∧ ∀ H', BoardAt CB CM H0 H' p (passM n x) → Q .non H'
def spStop (CB CM : Addr) : Sp := fun vs H Q _ => ∃ (H0 : Hp) (p q : Addr) (x : Bd) (s : Str) (ns : List Int), vs = [.ref p, .ref q] ∧ BoardAt CB CM H0 H p x ∧ H q = some (.tup (.str s :: ns.map V.int)) ∧ ∀ H', BoardAt CB CM H0 H' p { x with stop := some (s, ns) } → Q (.str "stopped") H'
def mayM (x : Bd) (ts : List (Bool × Int)) : Bool × Bd := match firstBad ts with
  | some r => (false, { x with stop := some (r.1, [x.pc, r.2]) })
  | none => (true, x)
def spMay (CB CM : Addr) : Sp := fun vs H Q _ => ∃ (H0 : Hp) (p l : Addr) (x : Bd) (us : List V) (ts : List (Bool × Int)), vs = [.ref p, .ref l] ∧ BoardAt CB CM H0 H p x ∧ H l = some (.lst us) ∧ TouAt H us ts ∧ ∀ H', BoardAt CB CM H0 H' p (mayM x ts).2 → Q (.bl (mayM x ts).1) H'
def comingM (x : Bd) : Str := if x.stop ≠ none then "stopped" else if x.asleep = true ∧ calledM x = 0 then "asleep" else if x.lets = true ∧ calledM x ≠ 0 then "interrupt" else "deed"
def spComing (CB CM : Addr) : Sp := fun vs H Q _ => ∃ (H0 : Hp) (p : Addr) (x : Bd), vs = [.ref p] ∧ BoardAt CB CM H0 H p x ∧ Q (.str (comingM x)) H
section
variable {P : Program} {w : World} {K : PySem.W.Frag} {mg : Str → Option Value} {base : Heap} {CB CM : Addr}
abbrev sMcome : Stmt := inClass (topS 64) 13
def scMcomeN : List Str := ["self"]
theorem scMcome : FnScope scMcomeN ["self"] (defScope sMcome) := ⟨rfl, rfl, rfl, by decide +kernel, rfl, by decide +kernel, by decide +kernel⟩
theorem ok_Mcome {f : Addr} {fd : FuncData} {fM_take : Addr} {dM_take : FuncData} (F : Fun K "come_line" "Board.come_line" sMcome f fd) (T : Tx K mg CB CM)
    (M_take : CalM P w K mg base CM 1 "take_line" ["self", "value"] (spMTake CM) fM_take dM_take) : FnOk P w K mg base CX0 2 f fd ["self"] (spCome CB CM) := by
  refine F.ok scMcome (fun vs H Q E h => by obtain ⟨_, _, _, rfl, _⟩ := h; rfl) (fun cdv A outer s H vs Q E hr h => ?_)
  have hu := hu_of hr
  have z_len := T.z_len
  obtain ⟨H0, p, x, rfl, R, k⟩ := h
  obtain ⟨A, ts, ls, B⟩ := R
  obtain ⟨sv, tv, dv, hp, hz⟩ := B.hp
  refine ⟨_, (pss_one (ps_if (PW.pt (pw_and (pt_cmpR op_lt (pe_fld (pv 0) rfl) (pe_callB call_len_seq (by rfl) z_len PySem.boot_len (pa_cons (pe_fld (pv 0) rfl) pa_nil)) (nomark _)) (pw_and1 (pt_cmpR op_eq (pe_ix ix_tup (pe_ix ix_list (pe_fld (pv 0) rfl) (pe_fld (pv 0) rfl) (fun _ _ => rfl)) pe_int (fun _ _ => rfl)) (pe_fld (pv 0) rfl) (nomark _))))) (pss_cons (ps_expr (pe_meth (pe_fld (pv 0) rfl) M_take.c M_take.m M_take.G (hr.mono (by decide)) M_take.b .nil pass0 (pa_cons (pe_ix ix_tup (pe_ix ix_list (pe_fld (pv 0) rfl) (pe_fld (pv 0) rfl) (fun _ _ => rfl)) pe_int (fun _ _ => rfl)) pa_nil)))
    (pss_one (ps_fldaug (pv 0) pe_int in_add))) pss_nil)), ?_⟩
  unfold comeM at k
  refine ⟨_, rfl, p, CB, A.dx, _, _, rfl, hp, T.cB, T.n_line_at, bF_la, _, rfl, p, CB, A.dx, _, _, rfl, hp, T.cB, T.n_line, bF_line, A.l, _, rfl, .inl (SqL.of B.hl), _, _, rfl, rfl, _, rfl, ifB (fun h => ?_) (fun h => ?_)⟩
  · have hl : x.la < x.line.length := by
      have := of_decide_eq_true h
      rw [TupsAt.len B.ll] at this
      omega
    obtain ⟨t, e1, e2⟩ := TupsAt.get B.ll hl
    refine ⟨_, rfl, p, CB, A.dx, _, _, rfl, hp, T.cB, T.n_line, bF_line, _, rfl, p, CB, A.dx, _, _, rfl, hp, T.cB, T.n_line_at, bF_la, A.l, _, _, _, rfl, rfl, SqL.of B.hl, atI_nat e1, t, _, 0, _, rfl, rfl, SqT.of e2, atI_nat (j := 0) rfl, _, rfl, p, CB, A.dx, _, _, rfl, hp, T.cB, T.n_beat, bF_beat, rfl, _, rfl, ifB (fun h2 => ?_) (fun h2 => ?_)⟩
    · have hb : (x.line.getD x.la (0, 0)).1 = x.beat := V.int.inj (of_decide_eq_true h2)
      rw [if_pos ⟨hl, hb⟩] at k
      refine ⟨_, rfl, p, CB, A.dx, _, _, rfl, hp, T.cB, T.n_memory, bF_mem, A.m, A.dm, _, rfl, B.hm, mN_take, _, rfl, p, CB, A.dx, _, _, rfl, hp, T.cB, T.n_line, bF_line, _, rfl, p, CB, A.dx, _, _, rfl, hp, T.cB, T.n_line_at, bF_la, A.l, _, _, _, rfl, rfl, SqL.of B.hl, atI_nat e1, t, _, 1, _, rfl, rfl, SqT.of e2, atI_nat (j := 1) rfl, A.m, A.dm, A.w, A.s, x.mem, _, rfl, B.mem, ?_⟩
      have B1 := B.wds (m := takeLineM (x.line.getD x.la (0, 0)).2 x.mem) (by rw [takeLineM_len]; exact B.lm)
      obtain ⟨sv1, tv1, dv1, hp1, hz1⟩ := B1.hp
      refine ⟨_, rfl, p, CB, A.dx, _, _, rfl, hp1, T.cB, T.n_line_at, bF_la, _, _, rfl, rfl, A.dx, _, hp1, (by show 13 < 1000; decide), ?_⟩
      rw [bP_la (n := 0)]
      exact k _ ⟨A, ts, ls, B1.fld (z := x.zero) (le := x.lets) (as := x.asleep) (bt := x.beat) (sv := sv1) (la := x.la + 1) (tv := tv1) (dv := dv1) hz1⟩
    · rw [if_neg (fun z => of_decide_eq_false h2 (congrArg V.int z.2))] at k
      exact k _ ⟨A, ts, ls, B⟩
  · have hl : ¬ x.la < x.line.length := by
      have := of_decide_eq_false h
      rw [TupsAt.len B.ll] at this
      omega
    rw [if_neg (fun z => hl z.1)] at k
    exact k _ ⟨A, ts, ls, B⟩
abbrev sMpass : Stmt := inClass (topS 64) 12
def scMpassN : List Str := ["self", "many", "_"]
theorem scMpass : FnScope scMpassN ["self", "many"] (defScope sMpass) := ⟨rfl, rfl, rfl, by decide +kernel, rfl, by decide +kernel, by decide +kernel⟩
theorem ok_Mpass {f : Addr} {fd : FuncData} {fM_come : Addr} {dM_come : FuncData} {fM_timer : Addr} {dM_timer : FuncData} (F : Fun K "pass_beats" "Board.pass_beats" sMpass f fd) (T : Tx K mg CB CM)
    (M_come : CalM P w K mg base CB 2 "come_line" ["self"] (spCome CB CM) fM_come dM_come)
    (M_timer : CalM P w K mg base CM 1 "go_timer" ["self"] (spMTim CM) fM_timer dM_timer) : FnOk P w K mg base CX0 3 f fd ["self", "many"] (spPass CB CM) := by
  refine F.ok scMpass (fun vs H Q E h => by obtain ⟨_, _, _, _, rfl, _⟩ := h; rfl) (fun cdv A outer s H vs Q E hr h => ?_)
  have hu := hu_of hr
  have z_range := T.z_range
  obtain ⟨H0, p, x, n, rfl, R, hn, k⟩ := h
  refine ⟨_, (pss_one (ps_for PassesOwn.never rfl (pi_range1 (by rfl) z_range (pa_cons (pv 1) pa_nil)) (pg_name (i := 2) scMpass.nd rfl (.inl rfl))
      (pss_cons (ps_fldaug (pv 0) pe_int in_add)
    (pss_cons (ps_expr (pe_meth0 (pv 0) M_come.c M_come.m M_come.G (hr.mono (by decide)) M_come.b .nil pass0))
    (pss_one (ps_expr (pe_meth0 (pe_fld (pv 0) rfl) M_timer.c M_timer.m M_timer.G (hr.mono (by decide)) M_timer.b .nil pass0))))))), ?_⟩
  refine ⟨_, rfl, (n : Int), rfl, by omega, by omega, ?_⟩
  refine for_range (lo := 0) (n := ((n : Int)).toNat) (fun i σ H' => ∃ (y : Option V) (z : Bd), σ = [some (.ref p), some (.int (n : Int)), y] ∧ BoardAt CB CM H0 H' p z ∧ passM (n - i) z = passM n x) ⟨none, x, rfl, R, rfl⟩ ?_ ?_
  · rintro i σ H1 hi ⟨y, z, rfl, R, e⟩
    have hin : i < n := by omega
    obtain ⟨A, ts, ls, B⟩ := R
    obtain ⟨sv, tv, dv, hp, hz⟩ := B.hp
    refine ⟨_, rfl, p, CB, A.dx, _, _, rfl, hp, T.cB, T.n_beat, bF_beat, _, _, rfl, rfl, A.dx, _, hp, (by show 13 < 1000; decide), ?_⟩
    rw [bP_beat]
    have B1 := B.fld (z := z.zero) (le := z.lets) (as := z.asleep) (bt := z.beat + 1) (sv := sv) (la := z.la) (tv := tv) (dv := dv) hz
    obtain ⟨sv1, tv1, dv1, hp1, hz1⟩ := B1.hp
    refine ⟨_, rfl, p, A.dx, _, rfl, hp1, bN_come, H0, p, _, rfl, ⟨A, ts, ls, B1⟩, fun H2 R2 => ?_⟩
    obtain ⟨A2, ts2, ls2, B2⟩ := R2
    obtain ⟨sv2, tv2, dv2, hp2, hz2⟩ := B2.hp
    refine ⟨_, rfl, p, CB, A2.dx, _, _, rfl, hp2, T.cB, T.n_memory, bF_mem, A2.m, A2.dm, _, rfl, B2.hm, mN_timer, A2.m, A2.dm, A2.w, A2.s, _, rfl, B2.mem, ?_⟩
    have B3 := B2.wds (m := goTimerM (comeM { z with beat := z.beat + 1 }).mem) (by rw [goTimerM_len]; exact B2.lm)
    refine ⟨some (.int (0 + (i : Int))), passOneM z, rfl, ⟨A2, ts2, ls2, B3⟩, ?_⟩
    have e3 : n - i = (n - (i + 1)) + 1 := by omega
    rw [e3] at e
    exact e
  · rintro σ H1 ⟨y, z, rfl, R, e⟩
    have e0 : n - ((n : Int)).toNat = 0 := by omega
    rw [e0] at e
    rw [← e] at k
    exact k _ R
abbrev sMstop : Stmt := inClass (topS 64) 9
def scMstopN : List Str := ["self", "stop"]
theorem scMstop : FnScope scMstopN ["self", "stop"] (defScope sMstop) := ⟨rfl, rfl, rfl, by decide +kernel, rfl, by decide +kernel, by decide +kernel⟩
theorem ok_Mstop {f : Addr} {fd : FuncData} (F : Fun K "stop" "Board.stop" sMstop f fd) (T : Tx K mg CB CM) : FnOk P w K mg base CX0 1 f fd ["self", "stop"] (spStop CB CM) := by
  refine F.ok scMstop (fun vs H Q E h => by obtain ⟨_, _, _, _, _, _, rfl, _⟩ := h; rfl) (fun cdv A outer s H vs Q E hr h => ?_)
  have hu := hu_of hr
  obtain ⟨H0, p, q, x, s_, ns, rfl, R, hq, k⟩ := h
  obtain ⟨A, ts, ls, B⟩ := R
  obtain ⟨sv, tv, dv, hp, hz⟩ := B.hp
  refine ⟨_, (pss_cons (ps_fld (pv 0) (pv 1) rfl)
    (pss_one (ps_ret pe_str))), ?_⟩
  refine ⟨_, rfl, _, rfl, p, CB, A.dx, _, rfl, hp, T.cB, T.n_stopped, (by show 13 < 1000; decide), ?_⟩
  rw [bP_stop]
  exact k _ ⟨A, ts, ls, B.fld (z := x.zero) (le := x.lets) (as := x.asleep) (bt := x.beat) (sv := .ref q) (la := x.la) (tv := tv) (dv := dv) (so := some (s_, ns)) ⟨q, rfl, hq⟩⟩
abbrev sMmay : Stmt := inClass (topS 64) 8
def scMmayN : List Str := ["self", "touches", "kind", "address", "why"]
theorem scMmay : FnScope scMmayN ["self", "touches"] (defScope sMmay) := ⟨rfl, rfl, rfl, by decide +kernel, rfl, by decide +kernel, by decide +kernel⟩
theorem ok_Mmay {f : Addr} {fd : FuncData} {fF_bar : Addr} {dF_bar : FuncData} {fM_stop : Addr} {dM_stop : FuncData} (F : Fun K "may_touch" "Board.may_touch" sMmay f fd) (T : Tx K mg CB CM)
    (F_bar : CalF P w K mg base 1 "bar_of" ["kind", "address"] (spBar) fF_bar dF_bar)
    (M_stop : CalM P w K mg base CB 1 "stop" ["self", "stop"] (spStop CB CM) fM_stop dM_stop) : FnOk P w K mg base CX0 2 f fd ["self", "touches"] (spMay CB CM) := by
  refine F.ok scMmay (fun vs H Q E h => by obtain ⟨_, _, _, _, _, _, rfl, _⟩ := h; rfl) (fun cdv A outer s H vs Q E hr h => ?_)
  have hu := hu_of hr
  obtain ⟨H0, p, l, x, us, tl, rfl, R, hl, ht, k⟩ := h
  obtain ⟨A, ts, ls, B⟩ := R
  obtain ⟨sv, tv, dv, hp, hz⟩ := B.hp
  refine ⟨_, (pss_cons (ps_for PassesOwn.never rfl (pi_list (pv 1)) (pg_tup rfl (pgs_cons (pg_name (i := 2) scMmay.nd rfl (.inl rfl)) (pgs_cons (pg_name (i := 3) scMmay.nd rfl (.inl rfl)) pgs_nil)))
      (pss_cons (ps_set (i := 4) scMmay.nd rfl (.inl rfl) (pe_call F_bar.G (hr.mono (by decide)) (by rfl) F_bar.g F_bar.kp F_bar.b .nil pass0 (pa_cons (pv 2) (pa_cons (pv 3) pa_nil))))
    (pss_one (ps_if (pt_cmp (pc_notN (pv 4))) (pss_cons (ps_expr (pe_meth (pv 0) M_stop.c M_stop.m M_stop.G (hr.mono (by decide)) M_stop.b .nil pass0 (pa_cons (pe_tup (pa_cons (pv 4) (pa_cons (pe_dget hu (pe_fld (pv 0) rfl) pe_str (fun _ _ => rfl)) (pa_cons (pv 3) pa_nil)))) pa_nil)))
    (pss_one (ps_ret pe_bl))) pss_nil))))
    (pss_cons (ps_fld (pv 0) (pv 1) rfl)
    (pss_one (ps_ret pe_bl)))), ?_⟩
  refine ⟨_, rfl, l, rfl, ⟨_, SqL.of hl⟩, ?_⟩
  refine for_list (K := K) (a := l) (xs := us) (fun i σ H' => H' = H ∧ firstBad (tl.drop i) = firstBad tl ∧ ∃ y2 y3 y4, σ = [some (.ref p), some (.ref l), y2, y3, y4]) ⟨rfl, rfl, none, none, none, rfl⟩ (fun i σ H' _ h => by obtain ⟨rfl, _⟩ := h; exact SqL.of hl) ?_ ?_
  · rintro i v σ H' hv ⟨rfl, hf, y2, y3, y4, rfl⟩
    obtain ⟨q, t, rfl, e1, e2⟩ := TouAt.get ht hv
    have hil : i < tl.length := (List.getElem?_eq_some_iff.mp e1).1
    have hd : tl.drop i = t :: tl.drop (i + 1) := by
      rw [List.drop_eq_getElem_cons hil]
      have : tl[i] = t := Option.some.inj ((List.getElem?_eq_getElem hil).symm.trans e1)
      rw [this]
    rw [hd, firstBad_cons] at hf
    refine ⟨q, _, rfl, SqT.of e2, rfl, _, _, rfl, _, _, rfl, rfl, ?_⟩
    refine ⟨_, rfl, _, rfl, t, rfl, ?_⟩
    cases e : barM t with
    | none =>
      rw [e] at hf
      refine ⟨_, rfl, _, rfl, ifN (fun h => absurd rfl (of_decide_eq_false h)) (fun _ => ?_)⟩
      exact ⟨rfl, hf, _, _, _, rfl⟩
    | some wy =>
      rw [e] at hf
      refine ⟨_, rfl, _, rfl, ifN (fun _ => ?_) (fun h => by cases (of_decide_eq_true h))⟩
      have em : mayM x tl = (false, { x with stop := some (wy, [x.pc, t.2]) }) := by
        unfold mayM
        rw [← hf]
      rw [em] at k
      exact ⟨_, rfl, p, A.dx, _, rfl, hp, bN_stop, _, rfl, _, rfl, p, CB, A.dx, _, _, rfl, hp, T.cB, T.n_registers, bF_reg, A.r, _, rfl, dg (k := Sum.inr "pc") B.hr rG_pc, _, rfl, (by show 3 ≤ sizeLine; decide), fun q2 nq => ⟨H0, p, q2, x, wy, [x.pc, t.2], rfl, ⟨A, ts, ls, B.more nq⟩, upd_same, fun H2 R2 => k _ R2⟩⟩
  · rintro σ H' ⟨rfl, hf, y2, y3, y4, rfl⟩
    rw [TouAt.len ht, List.drop_length] at hf
    have em : mayM x tl = (true, x) := by
      unfold mayM
      rw [← hf]
      rfl
    rw [em] at k
    refine ⟨_, rfl, _, rfl, p, CB, A.dx, _, rfl, hp, T.cB, T.n_touched, (by show 13 < 1000; decide), ?_⟩
    rw [bP_tou]
    exact k _ ⟨A, ts, ls, B.fld (z := x.zero) (le := x.lets) (as := x.asleep) (bt := x.beat) (sv := sv) (la := x.la) (tv := .ref l) (dv := dv) hz⟩
abbrev sMcoming : Stmt := inClass (topS 64) 4
def scMcomingN : List Str := ["self", "called"]
theorem scMcoming : FnScope scMcomingN ["self"] (defScope sMcoming) := ⟨rfl, rfl, rfl, by decide +kernel, rfl, by decide +kernel, by decide +kernel⟩
theorem ok_Mcoming {f : Addr} {fd : FuncData} {fM_called : Addr} {dM_called : FuncData} (F : Fun K "coming" "Board.coming" sMcoming f fd) (T : Tx K mg CB CM)
    (M_called : CalM P w K mg base CM 1 "called_flags" ["self"] (spMCall CM) fM_called dM_called) : FnOk P w K mg base CX0 2 f fd ["self"] (spComing CB CM) := by
  refine F.ok scMcoming (fun vs H Q E h => by obtain ⟨_, _, _, rfl, _⟩ := h; rfl) (fun cdv A outer s H vs Q E hr h => ?_)
  have hu := hu_of hr
  obtain ⟨H0, p, x, rfl, R, q⟩ := h
  obtain ⟨A, ts, ls, B⟩ := R
  obtain ⟨sv, tv, dv, hp, hz⟩ := B.hp
  refine ⟨_, (pss_cons (ps_if (pt_cmp (pc_notN (pe_fld (pv 0) rfl))) (pss_one (ps_ret pe_str)) pss_nil)
    (pss_cons (ps_set (i := 1) scMcoming.nd rfl (.inl rfl) (pe_cmpR op_ne (pe_meth0 (pe_fld (pv 0) rfl) M_called.c M_called.m M_called.G (hr.mono (by decide)) M_called.b .nil pass0) pe_int (nomark _)))
    (pss_cons (ps_if (PW.pt (pw_and (pt_val (pe_fld (pv 0) rfl)) (pw_and1 (pt_not (pt_val (pv 1)))))) (pss_one (ps_ret pe_str)) pss_nil)
    (pss_cons (ps_if (PW.pt (pw_and (pt_val (pe_fld (pv 0) rfl)) (pw_and1 (pt_val (pv 1))))) (pss_one (ps_ret pe_str)) pss_nil)
    (pss_one (ps_ret pe_str)))))), ?_⟩
  unfold comingM at q
  refine ⟨_, rfl, p, CB, A.dx, _, _, rfl, hp, T.cB, T.n_stopped, bF_stop, _, rfl, ?_⟩
  cases es : x.stop with
  | some r =>
    rw [es] at hz q
    obtain ⟨q1, rfl, hq1⟩ := hz
    refine ifN (fun _ => ?_) (fun h => by cases (of_decide_eq_true h))
    rw [if_pos (by intro z; cases z)] at q
    exact q
  | none =>
    rw [es] at hz q
    obtain rfl : sv = V.non := hz
    refine ifN (fun h => absurd rfl (of_decide_eq_false h)) (fun _ => ?_)
    rw [if_neg (fun z => z rfl)] at q
    refine ⟨_, rfl, p, CB, A.dx, _, _, rfl, hp, T.cB, T.n_memory, bF_mem, A.m, A.dm, _, rfl, B.hm, mN_called, A.m, A.dm, A.w, A.s, _, rfl, B.mem, rfl, ?_⟩
    have ec : decide (V.int (Builtin.bitAnd (rd x.mem 770) (rd x.mem 771)) = V.int 0) = decide (calledM x = 0) := by
      by_cases h : calledM x = 0
      · rw [decide_eq_true h]; exact decide_eq_true (congrArg V.int h)
      · rw [decide_eq_false h]; exact decide_eq_false fun z => h (V.int.inj z)
    rw [ec]
    refine ⟨_, rfl, p, CB, A.dx, _, _, rfl, hp, T.cB, T.n_asleep, bF_asleep, _, rfl, ifB (fun ha => ?_) (fun ha => ?_)⟩
    · refine ⟨_, rfl, _, rfl, ?_⟩
      by_cases hc : calledM x = 0
      · rw [if_pos ⟨ha, hc⟩] at q
        rw [decide_eq_true hc]
        exact q
      · rw [if_neg (fun z => hc z.2)] at q
        rw [decide_eq_false hc]
        refine ⟨_, rfl, p, CB, A.dx, _, _, rfl, hp, T.cB, T.n_lets, bF_lets, _, rfl, ifB (fun hl => ?_) (fun hl => ?_)⟩
        · rw [if_pos ⟨hl, hc⟩] at q
          exact ⟨_, rfl, _, rfl, q⟩
        · rw [if_neg (fun z => by rw [hl] at z; cases z.1)] at q
          exact q
    · rw [if_neg (fun z => by rw [ha] at z; cases z.1)] at q
      refine ⟨_, rfl, p, CB, A.dx, _, _, rfl, hp, T.cB, T.n_lets, bF_lets, _, rfl, ifB (fun hl => ?_) (fun hl => ?_)⟩
      · refine ⟨_, rfl, _, rfl, ?_⟩
        by_cases hc : calledM x = 0
        · rw [if_neg (fun z => z.2 hc)] at q
          rw [decide_eq_true hc]
          exact q
        · rw [if_pos ⟨hl, hc⟩] at q
          rw [decide_eq_false hc]
          exact q
      · rw [if_neg (fun z => by rw [hl] at z; cases z.1)] at q
        exact q
end
end Bh

/-! Interrupts, deeds, turns. -/
namespace Bh
open PySem PySem.Spec PyProof.Rows L2
def PcOk (x : Bd) : Prop := 0 ≤ x.pc → x.pc < 768 → 0 ≤ rd x.mem x.pc
def spBegin (CB CM : Addr) : Sp := fun vs H Q _ => ∃ (H0 : Hp) (p : Addr) (x : Bd), vs = [.ref p] ∧ BoardAt CB CM H0 H p x ∧ x.sent.length < 900000 ∧ ∀ H', BoardAt CB CM H0 H' p (intM x).2 → Q (.str (intM x).1) H'
def spDeed (CB CM : Addr) : Sp := fun vs H Q _ => ∃ (H0 : Hp) (p : Addr) (x : Bd), vs = [.ref p] ∧ BoardAt CB CM H0 H p x ∧ x.sent.length < 900000 ∧ PcOk x ∧ ∀ H', BoardAt CB CM H0 H' p (deedM x).2 → Q (.str (deedM x).1) H'
def spTurn (CB CM : Addr) : Sp := fun vs H Q _ => ∃ (H0 : Hp) (p : Addr) (x : Bd), vs = [.ref p] ∧ BoardAt CB CM H0 H p x ∧ x.sent.length < 900000 ∧ PcOk x ∧ ∀ H', BoardAt CB CM H0 H' p (turnM x).2 → Q (.str (turnM x).1) H'
structure DoF (P : Program) (w : World) (K : PySem.W.Frag) (mg : Str → Option Value) (base : Heap) (CB CM : Addr) (adr : Nat → Addr) (fdr : Nat → FuncData) : Prop where
  G : ∀ op, 1 ≤ op → op < 23 → FnOk P w K mg base CX0 4 (adr op) (fdr op) ["board", "x", "words"] (spDo CB CM op)
  kp : ∀ op, 1 ≤ op → op < 23 → PySem.W.keepIn K (.ref (adr op)) = true
  b : ∀ op, 1 ≤ op → op < 23 → Binds K (fdr op) ["board", "x", "words"] []
  D : ∃ a, mg "DOINGS" = some (.ref a) ∧ ∀ op, 1 ≤ op → op < 23 → KDct K w a (nmOf op) (.ref (adr op))
theorem iteb {c : Bool} {Q : V → Hp → Prop} {H : Hp} {σ : L2.St} (h : tC (.int (b2n c)) σ H Q) : if c = true then tC (.int 1) σ H Q else tC (.int 0) σ H Q := by
  cases c with
  | true => exact h
  | false => exact h
theorem putWM_zero (a v : Int) (x : Bd) : (putWM a v x).zero = x.zero := by
  unfold putWM sendM
  split <;> rfl
theorem putWM_sent (a v : Int) (x : Bd) : (putWM a v x).sent.length ≤ x.sent.length + 1 := by
  unfold putWM sendM
  split
  · show (x.sent ++ [(x.beat, v)]).length ≤ _
    rw [List.length_append]
    exact Nat.le_refl _
  · exact Nat.le_succ _
theorem kS_r (b : Bool) : decide (V.str (kS b) = V.str "r") = !b := by
  cases b with
  | true => exact ne_wr
  | false => exact decide_eq_true rfl
theorem nm_at {op : Nat} (h : op < 23) : atI (opN.map V.str) (op : Int) = some (.str (nmOf op)) := by
  have hj : op < opN.length := h
  refine atI_nat ?_
  rw [List.getElem?_map, List.getElem?_eq_getElem hj]
  unfold nmOf
  rw [List.getD_eq_getElem?_getD, List.getElem?_eq_getElem hj]
  rfl
theorem nm_mark : ∀ op : Nat, op < 23 → decide (V.str (nmOf op) = V.str "mark") = decide (op = 0) := by decide +kernel
theorem reads_len (ts : List (Bool × Int)) (m : List Int) : (readsM m ts).length = (ts.filter fun t => !t.1).length := List.length_map ..
theorem nR_ok (op : Nat) (n b sp : Int) (m : List Int) (h : op < 23) : (readsM m (touM op n b sp)).length = nR op := by
  match op, h with

  | 0, _ => rfl
  | 1, _ => rfl
  | 2, _ => rfl
  | 3, _ => rfl
  | 4, _ => rfl
  | 5, _ => rfl
  | 6, _ => rfl
  | 7, _ => rfl
  | 8, _ => rfl
  | 9, _ => rfl
  | 10, _ => rfl
  | 11, _ => rfl
  | 12, _ => rfl
  | 13, _ => rfl
  | 14, _ => rfl
  | 15, _ => rfl
  | 16, _ => rfl
  | 17, _ => rfl
  | 18, _ => rfl
  | 19, _ => rfl
  | 20, _ => rfl
  | 21, _ => rfl
  | 22, _ => rfl
  | n + 23, h => omega
section
variable {P : Program} {w : World} {K : PySem.W.Frag} {mg : Str → Option Value} {base : Heap} {CB CM : Addr}
abbrev sMbegin : Stmt := inClass (topS 64) 6
def scMbeginN : List Str := ["self", "pc", "sp", "flags"]
theorem scMbegin : FnScope scMbeginN ["self"] (defScope sMbegin) := ⟨rfl, rfl, rfl, by decide +kernel, rfl, by decide +kernel, by decide +kernel⟩
theorem ok_Mbegin {f : Addr} {fd : FuncData} {fM_called : Addr} {dM_called : FuncData} {fM_may : Addr} {dM_may : FuncData} {fM_pass : Addr} {dM_pass : FuncData} {fM_pbt : Addr} {dM_pbt : FuncData} (F : Fun K "begin_interrupt" "Board.begin_interrupt" sMbegin f fd) (T : Tx K mg CB CM)
    (M_called : CalM P w K mg base CM 1 "called_flags" ["self"] (spMCall CM) fM_called dM_called)
    (M_may : CalM P w K mg base CB 2 "may_touch" ["self", "touches"] (spMay CB CM) fM_may dM_may)
    (M_pass : CalM P w K mg base CB 3 "pass_beats" ["self", "many"] (spPass CB CM) fM_pass dM_pass)
    (M_pbt : CalM P w K mg base CB 3 "put_by_turn" ["self", "address", "word"] (spPw CB CM) fM_pbt dM_pbt) : FnOk P w K mg base CX0 4 f fd ["self"] (spBegin CB CM) := by
  refine F.ok scMbegin (fun vs H Q E h => by obtain ⟨_, _, _, rfl, _⟩ := h; rfl) (fun cdv A outer s H vs Q E hr h => ?_)
  have hu := hu_of hr
  obtain ⟨t_INTERRUPT_BEATS, g_INTERRUPT_BEATS⟩ := T.g_INTERRUPT_BEATS
  obtain ⟨t_LINE_PC, g_LINE_PC⟩ := T.g_LINE_PC
  obtain ⟨t_TIMER_FLAG, g_TIMER_FLAG⟩ := T.g_TIMER_FLAG
  obtain ⟨t_TIMER_PC, g_TIMER_PC⟩ := T.g_TIMER_PC
  obtain ⟨H0, p, x, rfl, R, hsl, k⟩ := h
  obtain ⟨A, ts, ls, B⟩ := R
  obtain ⟨sv, tv, dv, hp, hz⟩ := B.hp
  refine ⟨_, (pss_cons (ps_set (i := 1) scMbegin.nd rfl (.inl rfl) (pe_dget hu (pe_fld (pv 0) rfl) pe_str (fun _ _ => rfl)))
    (pss_cons (ps_set (i := 2) scMbegin.nd rfl (.inl rfl) (pe_dget hu (pe_fld (pv 0) rfl) pe_str (fun _ _ => rfl)))
    (pss_cons (ps_set (i := 3) scMbegin.nd rfl (.inl rfl) (pe_meth0 (pe_fld (pv 0) rfl) M_called.c M_called.m M_called.G (hr.mono (by decide)) M_called.b .nil pass0))
    (pss_cons (ps_if (pt_not (pt_val (pe_meth (pv 0) M_may.c M_may.m M_may.G (hr.mono (by decide)) M_may.b .nil pass0 (pa_cons (pe_lst (pa_cons (pe_tup (pa_cons pe_str (pa_cons (pv 2) pa_nil))) (pa_cons (pe_tup (pa_cons pe_str (pa_cons (pe_op op_sub (pv 2) pe_int) pa_nil))) pa_nil))) pa_nil)))) (pss_one (ps_ret pe_str)) pss_nil)
    (pss_cons (ps_expr (pe_meth (pv 0) M_pbt.c M_pbt.m M_pbt.G (hr.mono (by decide)) M_pbt.b .nil pass0 (pa_cons (pv 2) (pa_cons (pv 1) pa_nil))))
    (pss_cons (ps_expr (pe_meth (pv 0) M_pbt.c M_pbt.m M_pbt.G (hr.mono (by decide)) M_pbt.b .nil pass0 (pa_cons (pe_op op_sub (pv 2) pe_int) (pa_cons (pe_ifExp (pt_val (pe_fld (pv 0) rfl)) pe_int pe_int) pa_nil))))
    (pss_cons (ps_dput hu (pe_fld (pv 0) rfl) pe_str (pe_op op_sub (pv 2) pe_int) rfl)
    (pss_cons (ps_fld (pv 0) pe_bl rfl)
    (pss_cons (ps_dput hu (pe_fld (pv 0) rfl) pe_str (pe_ifExp (pt_truth (pe_op op_and (pv 3) (pgI g_TIMER_FLAG)) (fun _ => rfl)) (pgI g_TIMER_PC) (pgI g_LINE_PC)) rfl)
    (pss_cons (ps_expr (pe_meth (pv 0) M_pass.c M_pass.m M_pass.G (hr.mono (by decide)) M_pass.b .nil pass0 (pa_cons (pgI g_INTERRUPT_BEATS) pa_nil)))
    (pss_one (ps_ret pe_str)))))))))))), ?_⟩
  refine ⟨_, rfl, p, CB, A.dx, _, _, rfl, hp, T.cB, T.n_registers, bF_reg, A.r, _, rfl, dg (k := Sum.inr "pc") B.hr rG_pc, _, rfl, p, CB, A.dx, _, _, rfl, hp, T.cB, T.n_registers, bF_reg, A.r, _, rfl, dg (k := Sum.inr "sp") B.hr rG_sp, _, rfl, p, CB, A.dx, _, _, rfl, hp, T.cB, T.n_memory, bF_mem, A.m, A.dm, _, rfl, B.hm, mN_called, A.m, A.dm, A.w, A.s, _, rfl, B.mem, ?_⟩
  refine ⟨_, rfl, p, A.dx, _, rfl, hp, bN_may, _, rfl, (by show 2 ≤ sizeLine; decide), fun t1 n1 => ⟨_, rfl, _, _, rfl, rfl, (by show 2 ≤ sizeLine; decide), fun t2 n2 => ⟨(by show 2 ≤ sizeLine; decide), fun l nl => ⟨H0, p, l, x, [.ref t1, .ref t2], [(true, x.sp), (true, x.sp - 1)], rfl, ⟨A, ts, ls, ((B.more n1).more n2).more nl⟩, upd_same, .cons ⟨t1, rfl, same_upd' nl _ _ (same_upd' n2 _ _ upd_same)⟩ (.cons ⟨t2, rfl, same_upd' nl _ _ upd_same⟩ .nil), fun H2 R2 => ?_⟩⟩⟩⟩
  cases e : firstBad [(true, x.sp), (true, x.sp - 1)] with
  | some r =>
    have em : mayM x [(true, x.sp), (true, x.sp - 1)] = (false, { x with stop := some (r.1, [x.pc, r.2]) }) := by
      unfold mayM
      rw [e]
    have ei : intM x = (("stopped" : Str), { x with stop := some (r.1, [x.pc, r.2]) }) := by
      unfold intM
      rw [e]
      rfl
    rw [em] at R2 ⊢
    rw [ei] at k
    exact ⟨_, rfl, ifN (fun _ => k _ R2) (fun h => by cases h)⟩
  | none =>
    have em : mayM x [(true, x.sp), (true, x.sp - 1)] = (true, x) := by
      unfold mayM
      rw [e]
    have ei : intM x = (("interrupt" : Str), begunM x) := by
      unfold intM
      rw [e]
    rw [em] at R2 ⊢
    rw [ei] at k
    refine ⟨_, rfl, ifN (fun h => by cases h) (fun _ => ?_)⟩
    have tok := firstBad_ok e
    obtain ⟨t0, t1'⟩ := barM_ok (tok (true, x.sp) List.mem_cons_self)
    obtain ⟨u0, u1⟩ := barM_ok (tok (true, x.sp - 1) (List.mem_cons_of_mem _ List.mem_cons_self))
    obtain ⟨A2, ts2, ls2, B2⟩ := R2
    obtain ⟨sv2, tv2, dv2, hp2, hz2⟩ := B2.hp
    refine ⟨_, rfl, p, A2.dx, _, rfl, hp2, bN_pbt, _, rfl, _, rfl, H0, p, x, x.sp, x.pc, rfl, ⟨A2, ts2, ls2, B2⟩, by omega, t0, t1', fun H3 R3 => ?_⟩
    obtain ⟨A3, ts3, ls3, B3⟩ := R3
    obtain ⟨sv3, tv3, dv3, hp3, hz3⟩ := B3.hp
    have hs3 := putWM_sent x.sp x.pc x
    refine ⟨_, rfl, p, A3.dx, _, rfl, hp3, bN_pbt, _, rfl, _, _, rfl, rfl, _, rfl, p, CB, A3.dx, _, _, rfl, hp3, T.cB, T.n_zero, bF_zero, _, rfl, ?_⟩
    refine iteb ?_
    rw [putWM_zero]
    refine ⟨H0, p, _, x.sp - 1, b2n x.zero, rfl, ⟨A3, ts3, ls3, B3⟩, by omega, u0, u1, fun H4 R4 => ?_⟩
    generalize hy : putWM (x.sp - 1) (b2n x.zero) (putWM x.sp x.pc x) = y at *
    obtain ⟨A4, ts4, ls4, B4⟩ := R4
    obtain ⟨sv4, tv4, dv4, hp4, hz4⟩ := B4.hp
    refine ⟨_, rfl, _, _, rfl, rfl, _, rfl, p, CB, A4.dx, _, _, rfl, hp4, T.cB, T.n_registers, bF_reg, A4.r, _, rfl, dp (k := Sum.inr "sp") B4.hr rP_sp, ?_⟩
    have B5 := B4.regs (a := y.a) (b := y.b) (pc := y.pc) (sp := x.sp - 2)
    obtain ⟨sv5, tv5, dv5, hp5, hz5⟩ := B5.hp
    refine ⟨_, rfl, p, CB, A4.dx, _, rfl, hp5, T.cB, T.n_lets, (by show 13 < 1000; decide), ?_⟩
    rw [bP_lets]
    have B6 := B5.fld (z := y.zero) (le := false) (as := y.asleep) (bt := y.beat) (sv := sv5) (la := y.la) (tv := tv5) (dv := dv5) hz5
    obtain ⟨sv6, tv6, dv6, hp6, hz6⟩ := B6.hp
    have fin : ∀ pc' : Int, pc' = (if Builtin.bitAnd (calledM x) 1 ≠ 0 then 1 else 2) → ∀ H7, BoardAt CB CM H0 H7 p { y with sp := x.sp - 2, lets := false, pc := pc' } → ∀ H8, BoardAt CB CM H0 H8 p (passM 3 { y with sp := x.sp - 2, lets := false, pc := pc' }) → Q (.str "interrupt") H8 := fun pc' epc H7 _ H8 R8 => by
      refine k _ ?_
      unfold begunM
      rw [hy]
      subst epc
      exact R8
    have step : ∀ pc' : Int, pc' = (if Builtin.bitAnd (calledM x) 1 ≠ 0 then 1 else 2) → Bp CB CM H0 (upd _ A4.r (.dK (regD y.a y.b pc' (x.sp - 2)))) p A4 ts4 ls4 { y with sp := x.sp - 2, lets := false, pc := pc' } := fun pc' _ => B6.regs (a := y.a) (b := y.b) (pc := pc') (sp := x.sp - 2)
    refine ⟨_, rfl, _, _, rfl, rfl, _, rfl, ifB (fun hb => ?_) (fun hb => ?_)⟩
    · have e1 : (1 : Int) = (if Builtin.bitAnd (calledM x) 1 ≠ 0 then 1 else 2) := (if_pos (fun z => by
        have hb' : (Builtin.bitAnd (calledM x) 1 != 0) = true := hb
        rw [z] at hb'
        cases hb')).symm
      refine ⟨_, rfl, p, CB, A4.dx, _, _, rfl, hp6, T.cB, T.n_registers, bF_reg, A4.r, _, rfl, dp (k := Sum.inr "pc") B6.hr rP_pc, ?_⟩
      have B7 := step 1 e1
      obtain ⟨sv7, tv7, dv7, hp7, hz7⟩ := B7.hp
      exact ⟨_, rfl, p, A4.dx, _, rfl, hp7, bN_pass, H0, p, _, 3, rfl, ⟨A4, ts4, ls4, B7⟩, by decide, fun H8 R8 => fin 1 e1 _ ⟨A4, ts4, ls4, B7⟩ H8 R8⟩
    · have e1 : (2 : Int) = (if Builtin.bitAnd (calledM x) 1 ≠ 0 then 1 else 2) := (if_neg (fun z => z (by
        have hb' : (Builtin.bitAnd (calledM x) 1 != 0) = false := hb
        simpa using hb'))).symm
      refine ⟨_, rfl, p, CB, A4.dx, _, _, rfl, hp6, T.cB, T.n_registers, bF_reg, A4.r, _, rfl, dp (k := Sum.inr "pc") B6.hr rP_pc, ?_⟩
      have B7 := step 2 e1
      obtain ⟨sv7, tv7, dv7, hp7, hz7⟩ := B7.hp
      exact ⟨_, rfl, p, A4.dx, _, rfl, hp7, bN_pass, H0, p, _, 3, rfl, ⟨A4, ts4, ls4, B7⟩, by decide, fun H8 R8 => fin 2 e1 _ ⟨A4, ts4, ls4, B7⟩ H8 R8⟩
abbrev sMdo : Stmt := inClass (topS 64) 7
def scMdoN : List Str := ["self", "pc", "op", "x", "name", "touches", "words", "doing", "kind", "address"]
theorem scMdo : FnScope scMdoN ["self"] (defScope sMdo) := ⟨rfl, rfl, rfl, by decide +kernel, rfl, by decide +kernel, by decide +kernel⟩
theorem ok_Mdo {f : Addr} {fd : FuncData} {fF_tou : Addr} {dF_tou : FuncData} {fM_may : Addr} {dM_may : FuncData} {fM_pass : Addr} {dM_pass : FuncData} {fM_read : Addr} {dM_read : FuncData} {fM_stop : Addr} {dM_stop : FuncData} (F : Fun K "do_deed" "Board.do_deed" sMdo f fd) (T : Tx K mg CB CM)
    (F_tou : CalF P w K mg base 1 "touches_of" ["name", "x", "registers"] (spTou) fF_tou dF_tou)
    (M_may : CalM P w K mg base CB 2 "may_touch" ["self", "touches"] (spMay CB CM) fM_may dM_may)
    (M_pass : CalM P w K mg base CB 3 "pass_beats" ["self", "many"] (spPass CB CM) fM_pass dM_pass)
    (M_read : CalM P w K mg base CM 1 "read" ["self", "address", "pc"] (spMRead CM) fM_read dM_read)
    (M_stop : CalM P w K mg base CB 1 "stop" ["self", "stop"] (spStop CB CM) fM_stop dM_stop)
    {adr : Nat → Addr} {fdr : Nat → FuncData} (FD : DoF P w K mg base CB CM adr fdr) : FnOk P w K mg base CX0 5 f fd ["self"] (spDeed CB CM) := by
  refine F.ok scMdo (fun vs H Q E h => by obtain ⟨_, _, _, rfl, _⟩ := h; rfl) (fun cdv A outer s H vs Q E hr h => ?_)
  have hu := hu_of hr
  obtain ⟨t_RAM_END, g_RAM_END⟩ := T.g_RAM_END
  obtain ⟨t_X_SPAN, g_X_SPAN⟩ := T.g_X_SPAN
  have z_divmod := T.z_divmod
  have z_len := T.z_len
  obtain ⟨H0, p, x, rfl, R, hsl, hpc, k⟩ := h
  obtain ⟨A, ts, ls, B⟩ := R
  obtain ⟨sv, tv, dv, hp, hz⟩ := B.hp
  obtain ⟨aO, g_OP_NAMES, vO⟩ := T.g_OP_NAMES
  obtain ⟨aD, g_DOINGS, vD⟩ := FD.D
  obtain ⟨op1, eop, o1, o2⟩ : ∃ op1 : Nat, (1 ≤ opM x → opM x < 23 → op1 = opM x) ∧ 1 ≤ op1 ∧ op1 < 23 := by
    by_cases h : 1 ≤ opM x ∧ opM x < 23
    · exact ⟨opM x, fun _ _ => rfl, h.1, h.2⟩
    · exact ⟨1, fun a b => absurd ⟨a, b⟩ h, by decide, by decide⟩
  refine ⟨_, (pss_cons (ps_set (i := 1) scMdo.nd rfl (.inr rfl) (pe_dget hu (pe_fld (pv 0) rfl) pe_str (fun _ _ => rfl)))
    (pss_cons (ps_if (pt_not (pt_chain op_le op_lt pe_int (pv 1) (pgI g_RAM_END))) (pss_one (ps_ret (pe_meth (pv 0) M_stop.c M_stop.m M_stop.G (hr.mono (by decide)) M_stop.b .nil pass0 (pa_cons (pe_tup (pa_cons pe_str (pa_cons (pv 1) (pa_cons (pv 1) pa_nil)))) pa_nil)))) pss_nil)
    (pss_cons (ps_asg (pe_callB call_divmod (by rfl) z_divmod (by decide +kernel) (pa_cons (pe_meth (pe_fld (pv 0) rfl) M_read.c M_read.m M_read.G (hr.mono (by decide)) M_read.b .nil pass0 (pa_cons (pv 1) (pa_cons (pv 1) pa_nil))) (pa_cons (pgI g_X_SPAN) pa_nil))) (pg_tup rfl (pgs_cons (pg_name (i := 2) scMdo.nd rfl (.inl rfl)) (pgs_cons (pg_name (i := 3) scMdo.nd rfl (.inl rfl)) pgs_nil))))
    (pss_cons (ps_if (pt_cmpR op_ge (pv 2) (pe_callB call_len_seq (by rfl) z_len PySem.boot_len (pa_cons (pgR g_OP_NAMES) pa_nil)) (nomark _)) (pss_one (ps_ret (pe_meth (pv 0) M_stop.c M_stop.m M_stop.G (hr.mono (by decide)) M_stop.b .nil pass0 (pa_cons (pe_tup (pa_cons pe_str (pa_cons (pv 1) pa_nil))) pa_nil)))) pss_nil)
    (pss_cons (ps_set (i := 4) scMdo.nd rfl (.inl rfl) (pe_ix ix_tup (pgR g_OP_NAMES) (pv 2) (fun _ _ => rfl)))
    (pss_cons (ps_if (pt_cmpR op_eq (pv 4) pe_str (nomark _)) (pss_one (ps_ret (pe_meth (pv 0) M_stop.c M_stop.m M_stop.G (hr.mono (by decide)) M_stop.b .nil pass0 (pa_cons (pe_tup (pa_cons pe_str (pa_cons (pv 1) pa_nil))) pa_nil)))) pss_nil)
    (pss_cons (ps_set (i := 5) scMdo.nd rfl (.inl rfl) (pe_call F_tou.G (hr.mono (by decide)) (by rfl) F_tou.g F_tou.kp F_tou.b .nil pass0 (pa_cons (pv 4) (pa_cons (pv 3) (pa_cons (pe_fld (pv 0) rfl) pa_nil)))))
    (pss_cons (ps_if (pt_not (pt_val (pe_meth (pv 0) M_may.c M_may.m M_may.G (hr.mono (by decide)) M_may.b .nil pass0 (pa_cons (pv 5) pa_nil)))) (pss_one (ps_ret pe_str)) pss_nil)
    (pss_cons (ps_setLc (i := 6) (own := [("kind", 8), ("address", 9)]) (g := gTup K 2 (gCons (gName 8) (gCons (gName 9) gNil))) (by rfl) scMdo.nd rfl rfl rfl (pi_list (pv 5)) (blkOk_by (own := [("kind", 8), ("address", 9)]) (N := scMdoN) (sc := defScope sMdo) (by decide +kernel)) (fun _ _ _ _ _ => (gtK (K := K) (n := 2) (by rfl) (by rfl) (pgs_cons (pg_name (i := 8) scMdo.nd rfl (.inl rfl)) (pgs_cons (pg_name (i := 9) scMdo.nd rfl (.inl rfl)) pgs_nil)) (by rfl) (by rfl))) (fun _ _ _ _ _ => (pts_one (pt_cmpR op_eq (pv 8) pe_str (nomark _)))) (fun _ _ _ _ _ => (pe_meth (pe_fldK (K := K) (by rfl) (pv 0) (by rfl)) M_read.c M_read.m M_read.G (hr.mono (by decide)) M_read.b .nil pass0 (pa_cons (pv 9) (pa_cons (pv 1) pa_nil)))))
    (pss_cons (ps_if (pt_truth (pv 6) (fun _ => rfl)) (pss_cons (ps_asg (pe_op op_xor (pe_ix ix_list (pv 6) pe_int (fun _ _ => rfl)) (pe_fld (pv 0) rfl)) (pg_sub (pv 6) pe_int set_list))
    (pss_one (ps_fld (pv 0) pe_int rfl))) pss_nil)
    (pss_cons (ps_fld (pv 0) (pv 4) rfl)
    (pss_cons (ps_dput hu (pe_fld (pv 0) rfl) pe_str (pe_op op_add (pv 1) pe_int) rfl)
    (pss_cons (ps_set (i := 7) scMdo.nd rfl (.inl rfl) (pe_ix ix_kdict (pgR g_DOINGS) (pv 4) (fun _ _ => rfl)))
    (pss_cons (ps_expr (pe_callL (i := 7) (FD.G op1 o1 o2) (hr.mono (by decide)) rfl (.inl rfl) (FD.kp op1 o1 o2) (FD.b op1 o1 o2) .nil pass0 (pa_cons (pv 0) (pa_cons (pv 3) (pa_cons (pv 6) pa_nil)))))
    (pss_cons (ps_expr (pe_meth (pv 0) M_pass.c M_pass.m M_pass.G (hr.mono (by decide)) M_pass.b .nil pass0 (pa_cons (pe_op op_add pe_int (pe_callB call_len_seq (by rfl) z_len PySem.boot_len (pa_cons (pv 5) pa_nil))) pa_nil)))
    (pss_one (ps_ret pe_str))))))))))))))))), ?_⟩
  have far : ¬ (0 ≤ x.pc ∧ x.pc < 768) → deedM x = (("stopped" : Str), { x with stop := some ("far", [x.pc, x.pc]) }) := fun h => by
    unfold deedM stopAt
    rw [if_pos h]
  refine ⟨_, rfl, p, CB, A.dx, _, _, rfl, hp, T.cB, T.n_registers, bF_reg, A.r, _, rfl, dg (k := Sum.inr "pc") B.hr rG_pc, ?_⟩
  refine ⟨_, rfl, _, _, rfl, rfl, _, rfl, ifB (fun h0 => ?_) (fun h0 => ⟨_, rfl, ?_⟩)⟩
  rotate_left
  · rw [far (fun z => of_decide_eq_false h0 z.1)] at k
    refine ⟨_, rfl, p, A.dx, _, rfl, hp, bN_stop, _, rfl, _, rfl, (by show 3 ≤ sizeLine; decide), fun q nq => ⟨H0, p, q, x, "far", [x.pc, x.pc], rfl, ⟨A, ts, ls, B.more nq⟩, upd_same, fun H2 R2 => ?_⟩⟩
    exact k _ R2
  refine ⟨_, _, rfl, rfl, _, rfl, ifN (fun h1 => ?_) (fun h1 => ?_)⟩
  · rw [far (fun z => of_decide_eq_false h1 z.2)] at k
    refine ⟨_, rfl, p, A.dx, _, rfl, hp, bN_stop, _, rfl, _, rfl, (by show 3 ≤ sizeLine; decide), fun q nq => ⟨H0, p, q, x, "far", [x.pc, x.pc], rfl, ⟨A, ts, ls, B.more nq⟩, upd_same, fun H2 R2 => ?_⟩⟩
    exact k _ R2
  have h0 := of_decide_eq_true h0
  have h1 := of_decide_eq_true h1
  have hw := hpc h0 h1
  refine ⟨_, rfl, p, CB, A.dx, _, _, rfl, hp, T.cB, T.n_memory, bF_mem, A.m, A.dm, _, rfl, B.hm, mN_read, _, rfl, _, rfl, A.m, A.dm, A.w, A.s, x.mem, x.pc, x.pc, rfl, B.mem, h0, by omega, ?_⟩
  refine ⟨_, _, rfl, ⟨by decide, by decide⟩, fun t nt => ?_⟩
  refine ⟨t, _, rfl, SqT.of upd_same, rfl, _, _, rfl, _, _, rfl, rfl, ?_⟩
  have B1 := B.more (o := .tup [.int (rd x.mem x.pc / 1024), .int (rd x.mem x.pc % 1024)]) nt
  clear B hp hz sv tv dv
  generalize upd H t (.tup [.int (rd x.mem x.pc / 1024), .int (rd x.mem x.pc % 1024)]) = H1 at *
  have B := B1
  obtain ⟨sv, tv, dv, hp, hz⟩ := B.hp
  have eop0 : rd x.mem x.pc / 1024 = ((opM x : Nat) : Int) := by
    unfold opM
    have := Int.ediv_nonneg hw (show (0 : Int) ≤ 1024 by decide)
    omega
  rw [eop0]
  refine ⟨_, rfl, aO, _, rfl, .inr (vO _), _, _, rfl, rfl, _, rfl, ifB (fun h => ?_) (fun h => ?_)⟩
  · have h23 : 23 ≤ opM x := by
      have := of_decide_eq_true h
      have e : (opN.map V.str).length = 23 := rfl
      rw [e] at this
      omega
    have ed : deedM x = (("stopped" : Str), { x with stop := some ("none", [x.pc]) }) := by
      unfold deedM stopAt
      rw [if_neg (fun z => z ⟨h0, h1⟩), if_pos h23]
    rw [ed] at k
    refine ⟨_, rfl, p, A.dx, _, rfl, hp, bN_stop, _, rfl, (by show 2 ≤ sizeLine; decide), fun q nq => ⟨H0, p, q, x, "none", [x.pc], rfl, ⟨A, ts, ls, B.more nq⟩, upd_same, fun H2 R2 => ?_⟩⟩
    exact k _ R2
  have h23 : opM x < 23 := by
    have := of_decide_eq_false h
    have e : (opN.map V.str).length = 23 := rfl
    rw [e] at this
    omega
  refine ⟨_, rfl, aO, _, _, _, rfl, rfl, vO _, nm_at h23, ?_⟩
  refine ⟨_, rfl, rfl, _, rfl, ?_⟩
  rw [nm_mark _ h23]
  refine ifB (fun h => ?_) (fun h => ?_)
  · have hm0 := of_decide_eq_true h
    have ed : deedM x = (("stopped" : Str), { x with stop := some ("mark", [x.pc]) }) := by
      unfold deedM stopAt
      rw [if_neg (fun z => z ⟨h0, h1⟩), if_neg (by omega), if_pos hm0]
    rw [ed] at k
    refine ⟨_, rfl, p, A.dx, _, rfl, hp, bN_stop, _, rfl, (by show 2 ≤ sizeLine; decide), fun q nq => ⟨H0, p, q, x, "mark", [x.pc], rfl, ⟨A, ts, ls, B.more nq⟩, upd_same, fun H2 R2 => ?_⟩⟩
    exact k _ R2
  have hm0 := of_decide_eq_false h
  have eop1 := eop (by omega) h23
  subst eop1
  refine ⟨_, rfl, _, rfl, _, rfl, p, CB, A.dx, _, _, rfl, hp, T.cB, T.n_registers, bF_reg, nmOf (opM x), xM x, A.r, x.a, x.b, x.pc, x.sp, rfl, B.hr, fun H2 l us s2 nl hl tu => ?_⟩
  rw [touN_op _ h23] at tu
  have tu : TouAt H2 us (toM x) := tu
  have B2 := B.same s2
  obtain ⟨sv2, tv2, dv2, hp2, hz2⟩ := B2.hp
  have lp : l ≠ p := ne_of hl hp2 (by intro q; cases q)
  have lr : l ≠ A.r := ne_of hl B2.hr (by intro q; cases q)
  have lw : l ≠ A.w := fun z => by rw [z, B.hw] at nl; cases nl
  have lt : l ≠ A.t := fun z => by rw [z, B.ht] at nl; cases nl
  have lm_ : l ≠ A.m := fun z => by rw [z, B.hm] at nl; cases nl
  have ls_ : l ≠ A.s := fun z => by rw [z, B.hs] at nl; cases nl
  have ll_ : l ≠ A.l := fun z => by rw [z, B.hl] at nl; cases nl
  have B2' := B2.rebase
  have bs := B2.base_same
  have bl : baseOf H2 p A l = some (.lst us) := (B2.base_at lp lr lw lt lm_ ls_ ll_).trans hl
  have bt : TouAt (baseOf H2 p A) us (toM x) := tu.mono B2.base_tup
  generalize baseOf H2 p A = Hb at *
  refine ⟨_, rfl, p, A.dx, _, rfl, hp2, bN_may, _, rfl, Hb, p, l, x, us, toM x, rfl, ⟨A, ts, ls, B2'⟩, hl, tu, fun H3 R3 => ?_⟩
  cases e : firstBad (toM x) with
  | some r =>
    have em : mayM x (toM x) = (false, { x with stop := some (r.1, [x.pc, r.2]) }) := by
      unfold mayM
      rw [e]
    have ed : deedM x = (("stopped" : Str), { x with stop := some (r.1, [x.pc, r.2]) }) := by
      unfold deedM
      rw [if_neg (fun z => z ⟨h0, h1⟩), if_neg (by omega), if_neg hm0, e]
      rfl
    rw [em] at R3 ⊢
    rw [ed] at k
    exact ⟨_, rfl, ifN (fun _ => k _ (R3.unbase bs)) (fun h => by cases h)⟩
  | none =>
    have em : mayM x (toM x) = (true, x) := by
      unfold mayM
      rw [e]
    have ed : deedM x = (("deed" : Str), doneM x) := by
      unfold deedM
      rw [if_neg (fun z => z ⟨h0, h1⟩), if_neg (by omega), if_neg hm0, e]
    rw [em] at R3 ⊢
    rw [ed] at k
    refine ⟨_, rfl, ifN (fun h => by cases h) (fun _ => ?_)⟩
    have tok := firstBad_ok e
    obtain ⟨A3, ts3, ls3, B3⟩ := R3
    obtain ⟨sv3, tv3, dv3, hp3, hz3⟩ := B3.hp
    have l3 := B3.sm _ _ bl
    have t3 := bt.mono fun t xs e => B3.sm _ _ e
    refine ⟨_, rfl, l, rfl, ⟨_, SqL.of l3⟩, fun D nD => ?_⟩
    refine lc_list (K := K) (a := l) (xs := us) (fun i H' => Same H3 H' ∧ H' D = some (.lst ((readsM x.mem ((toM x).take i)).map V.int))) ⟨same_upd' nD, upd_same⟩ (fun i H' _ h => SqL.of (h.1 _ _ l3)) ?_ ?_
    · rintro j v H' hv ⟨sm, hD⟩
      obtain ⟨q, t, rfl, e1, e2⟩ := TouAt.get t3 hv
      have hq := sm _ _ e2
      have htk : (toM x).take (j + 1) = (toM x).take j ++ [t] := by rw [List.take_succ, e1]; rfl
      obtain ⟨i0, i1⟩ := barM_ok (tok t (List.mem_of_getElem? e1))
      refine ⟨q, _, rfl, SqT.of hq, rfl, _, _, rfl, _, _, rfl, rfl, rfl, ?_⟩
      refine ⟨_, rfl, rfl, _, rfl, ?_⟩
      rw [kS_r]
      obtain ⟨tb, ta⟩ := t
      cases tb with
      | true =>
        refine ifB (fun h => by cases h) (fun _ => ?_)
        refine ⟨sm, ?_⟩
        rw [htk]
        unfold readsM at hD ⊢
        rw [List.filter_append, List.map_append, List.map_append]
        rw [show (List.filter (fun t : Bool × Int => !t.1) [(true, ta)]) = [] from rfl, List.map_nil, List.map_nil, List.append_nil]
        exact hD
      | false =>
        refine ifB (fun _ => ?_) (fun h => by cases h)
        have Bj := B3.same sm
        obtain ⟨svj, tvj, dvj, hpj, hzj⟩ := Bj.hp
        refine ⟨_, rfl, p, CB, A3.dx, _, _, rfl, hpj, T.cB, T.n_memory, bF_mem, A3.m, A3.dm, _, rfl, Bj.hm, mN_read, _, rfl, _, rfl, A3.m, A3.dm, A3.w, A3.s, x.mem, _, _, rfl, Bj.mem, i0, i1, ?_⟩
        refine ⟨_, hD, ?_, same_of sm nD, ?_⟩
        · rw [List.length_map]
          refine small1000 ?_
          unfold readsM
          rw [List.length_map]
          refine Nat.le_trans (List.length_filter_le _ _) ?_
          rw [List.length_take]
          have := (List.getElem?_eq_some_iff.mp e1).1
          have hlen : (toM x).length ≤ 2 := touM_len _ _ _ _
          omega
        · rw [upd_same, htk]
          unfold readsM
          rw [List.filter_append, List.map_append, List.map_append]
          rfl
    · rintro H4 ⟨sm4, hD⟩
      rw [TouAt.len t3, List.take_length] at hD
      have B4 := B3.same sm4
      obtain ⟨sv4, tv4, dv4, hp4, hz4⟩ := B4.hp
      refine ⟨_, rfl, _, .inl ⟨_, SqL.of hD, rfl⟩, ifJ ?_ fun hb hB => ?_⟩
      rotate_left
      · obtain ⟨w0, wr, ew⟩ : ∃ w0 wr, readsM x.mem (toM x) = w0 :: wr := by
          cases ew : readsM x.mem (toM x) with
          | nil => rw [ew] at hb; cases hb
          | cons w0 wr => exact ⟨w0, wr, rfl⟩
        rw [ew] at hD
        have e0 : upd H4 D (.lst (((w0 :: wr).map V.int).set ((0 : Int).toNat) (.int (Builtin.bitXor w0 0)))) = H4 := by
          rw [bitXor_zero]
          exact upd_id hD
        refine ⟨_, rfl, D, _, 0, _, rfl, rfl, SqL.of hD, atI_nat (j := 0) rfl, _, rfl, p, CB, A3.dx, _, _, rfl, hp4, T.cB, T.n_bend, bF_bend, _, _, rfl, rfl, _, rfl, D, _, _, _, rfl, rfl, hD, ixN_in (by decide) (by show (0 : Int) < (((w0 :: wr).map V.int).length : Int); rw [List.length_map, List.length_cons]; omega), ?_⟩
        rw [e0]
        refine ⟨_, rfl, p, CB, A3.dx, _, rfl, hp4, T.cB, T.n_bend, (by show 13 < 1000; decide), ?_⟩
        rw [bP_bend, upd_id hp4]
        exact hB
      refine ⟨_, rfl, _, rfl, p, CB, A3.dx, _, rfl, hp4, T.cB, T.n_did, (by show 13 < 1000; decide), ?_⟩
      rw [bP_did]
      have B5 := B4.fld (z := x.zero) (le := x.lets) (as := x.asleep) (bt := x.beat) (sv := sv4) (la := x.la) (tv := tv4) (dv := .str (nmOf (opM x))) hz4
      have hD5 := hD
      rw [← upd_ne (H := H4) (o := .ins CB A3.dx (bdF A3.r A3.t A3.m A3.l x.zero x.lets x.asleep x.beat sv4 x.la tv4 (.str (nmOf (opM x))))) (ne_of hD hp4 (by intro q; cases q))] at hD5
      generalize upd H4 p (.ins CB A3.dx (bdF A3.r A3.t A3.m A3.l x.zero x.lets x.asleep x.beat sv4 x.la tv4 (.str (nmOf (opM x))))) = H5 at *
      obtain ⟨sv5, tv5, dv5, hp5, hz5⟩ := B5.hp
      refine ⟨_, rfl, _, _, rfl, rfl, _, rfl, p, CB, A3.dx, _, _, rfl, hp5, T.cB, T.n_registers, bF_reg, A3.r, _, rfl, dp (k := Sum.inr "pc") B5.hr rP_pc, ?_⟩
      have B6 := B5.regs (a := x.a) (b := x.b) (pc := x.pc + 1) (sp := x.sp)
      have hD6 := hD5
      rw [← upd_ne (H := H5) (o := .dK (regD x.a x.b (x.pc + 1) x.sp)) (ne_of hD5 B5.hr (by intro q; cases q))] at hD6
      generalize upd H5 A3.r (.dK (regD x.a x.b (x.pc + 1) x.sp)) = H6 at *
      obtain ⟨sv6, tv6, dv6, hp6, hz6⟩ := B6.hp
      refine ⟨_, rfl, aD, nmOf (opM x), _, rfl, rfl, vD (opM x) o1 o2, ?_⟩
      refine ⟨rfl, _, rfl, _, rfl, _, rfl, Hb, p, D, { x with pc := x.pc + 1 }, xM x, readsM x.mem (toM x), rfl, ⟨A3, ts3, ls3, B6⟩, hD6, nR_ok _ _ _ _ _ h23, (fun t ht => barM_ok (tok t ht)), (by show x.sent.length < 1000000; omega), fun H7 R7 => ?_⟩
      obtain ⟨A7, ts7, ls7, B7⟩ := R7
      obtain ⟨sv7, tv7, dv7, hp7, hz7⟩ := B7.hp
      have l7 := B7.sm _ _ bl
      refine ⟨_, rfl, p, A7.dx, _, rfl, hp7, bN_pass, _, rfl, l, _, rfl, .inl (SqL.of l7), _, _, rfl, rfl, Hb, p, _, 1 + (toM x).length, ?_, ⟨A7, ts7, ls7, B7⟩, ?_, fun H8 R8 => ?_⟩
      · rw [TouAt.len bt]
        simp
      · have hlen : (toM x).length ≤ 2 := touM_len _ _ _ _
        omega
      · exact k _ (R8.unbase bs)
abbrev sMturn : Stmt := inClass (topS 64) 5
def scMturnN : List Str := ["self", "coming"]
theorem scMturn : FnScope scMturnN ["self"] (defScope sMturn) := ⟨rfl, rfl, rfl, by decide +kernel, rfl, by decide +kernel, by decide +kernel⟩
theorem ok_Mturn {f : Addr} {fd : FuncData} {fM_begin : Addr} {dM_begin : FuncData} {fM_coming : Addr} {dM_coming : FuncData} {fM_do : Addr} {dM_do : FuncData} {fM_pass : Addr} {dM_pass : FuncData} (F : Fun K "turn" "Board.turn" sMturn f fd) (T : Tx K mg CB CM)
    (M_begin : CalM P w K mg base CB 4 "begin_interrupt" ["self"] (spBegin CB CM) fM_begin dM_begin)
    (M_coming : CalM P w K mg base CB 2 "coming" ["self"] (spComing CB CM) fM_coming dM_coming)
    (M_do : CalM P w K mg base CB 5 "do_deed" ["self"] (spDeed CB CM) fM_do dM_do)
    (M_pass : CalM P w K mg base CB 3 "pass_beats" ["self", "many"] (spPass CB CM) fM_pass dM_pass) : FnOk P w K mg base CX0 6 f fd ["self"] (spTurn CB CM) := by
  refine F.ok scMturn (fun vs H Q E h => by obtain ⟨_, _, _, rfl, _⟩ := h; rfl) (fun cdv A outer s H vs Q E hr h => ?_)
  have hu := hu_of hr
  obtain ⟨H0, p, x, rfl, R, hsl, hpc, k⟩ := h
  obtain ⟨A, ts, ls, B⟩ := R
  obtain ⟨sv, tv, dv, hp, hz⟩ := B.hp
  refine ⟨_, (pss_cons (ps_fld (pv 0) (pe_lst pa_nil) rfl)
    (pss_cons (ps_fld (pv 0) pe_non rfl)
    (pss_cons (ps_set (i := 1) scMturn.nd rfl (.inl rfl) (pe_meth0 (pv 0) M_coming.c M_coming.m M_coming.G (hr.mono (by decide)) M_coming.b .nil pass0))
    (pss_cons (ps_if (pt_cmpR op_eq (pv 1) pe_str (nomark _)) (pss_one (ps_ret (pv 1))) pss_nil)
    (pss_cons (ps_if (pt_cmpR op_eq (pv 1) pe_str (nomark _)) (pss_cons (ps_expr (pe_meth (pv 0) M_pass.c M_pass.m M_pass.G (hr.mono (by decide)) M_pass.b .nil pass0 (pa_cons pe_int pa_nil)))
    (pss_one (ps_ret (pv 1)))) pss_nil)
    (pss_cons (ps_fld (pv 0) pe_bl rfl)
    (pss_cons (ps_if (pt_cmpR op_eq (pv 1) pe_str (nomark _)) (pss_one (ps_ret (pe_meth0 (pv 0) M_begin.c M_begin.m M_begin.G (hr.mono (by decide)) M_begin.b .nil pass0))) pss_nil)
    (pss_one (ps_ret (pe_meth0 (pv 0) M_do.c M_do.m M_do.G (hr.mono (by decide)) M_do.b .nil pass0)))))))))), ?_⟩
  refine ⟨Nat.zero_le _, fun l nl => ?_⟩
  have B1 := B.more (o := .lst []) nl
  obtain ⟨sv1, tv1, dv1, hp1, hz1⟩ := B1.hp
  refine ⟨_, rfl, p, CB, A.dx, _, rfl, hp1, T.cB, T.n_touched, (by show 13 < 1000; decide), ?_⟩
  rw [bP_tou]
  have B2 := B1.fld (z := x.zero) (le := x.lets) (as := x.asleep) (bt := x.beat) (sv := sv1) (la := x.la) (tv := .ref l) (dv := dv1) hz1
  obtain ⟨sv2, tv2, dv2, hp2, hz2⟩ := B2.hp
  refine ⟨_, rfl, p, CB, A.dx, _, rfl, hp2, T.cB, T.n_did, (by show 13 < 1000; decide), ?_⟩
  rw [bP_did]
  have B3 := B2.fld (z := x.zero) (le := x.lets) (as := x.asleep) (bt := x.beat) (sv := sv2) (la := x.la) (tv := tv2) (dv := .non) hz2
  obtain ⟨sv3, tv3, dv3, hp3, hz3⟩ := B3.hp
  generalize upd (upd (upd H l (.lst [])) p _) p _ = H3 at *
  refine ⟨_, rfl, p, A.dx, _, rfl, hp3, bN_coming, H0, p, x, rfl, ⟨A, ts, ls, B3⟩, ?_⟩
  unfold comingM turnM at *
  by_cases c1 : x.stop ≠ none
  · rw [if_pos c1] at k ⊢
    exact ⟨_, rfl, rfl, _, rfl, ifB (fun _ => ⟨_, rfl, k _ ⟨A, ts, ls, B3⟩⟩) (fun h => absurd rfl (of_decide_eq_false h))⟩
  · rw [if_neg c1] at k ⊢
    by_cases c2 : x.asleep = true ∧ calledM x = 0
    · rw [if_pos c2] at k ⊢
      refine ⟨_, rfl, rfl, _, rfl, ifB (fun h => absurd (V.str.inj (of_decide_eq_true h)) (by decide +kernel)) (fun _ => ?_)⟩
      refine ⟨_, rfl, rfl, _, rfl, ifB (fun _ => ?_) (fun h => absurd rfl (of_decide_eq_false h))⟩
      exact ⟨_, rfl, p, A.dx, _, rfl, hp3, bN_pass, H0, p, x, 1, rfl, ⟨A, ts, ls, B3⟩, by decide, fun H4 R4 => ⟨_, rfl, k _ R4⟩⟩
    · rw [if_neg c2] at k ⊢
      have B4 := B3.fld (z := x.zero) (le := x.lets) (as := false) (bt := x.beat) (sv := sv3) (la := x.la) (tv := tv3) (dv := dv3) hz3
      obtain ⟨sv4, tv4, dv4, hp4, hz4⟩ := B4.hp
      by_cases c3 : x.lets = true ∧ calledM x ≠ 0
      · rw [if_pos c3] at k ⊢
        refine ⟨_, rfl, rfl, _, rfl, ifB (fun h => absurd (V.str.inj (of_decide_eq_true h)) (by decide +kernel)) (fun _ => ?_)⟩
        refine ⟨_, rfl, rfl, _, rfl, ifB (fun h => absurd (V.str.inj (of_decide_eq_true h)) (by decide +kernel)) (fun _ => ?_)⟩
        refine ⟨_, rfl, p, CB, A.dx, _, rfl, hp3, T.cB, T.n_asleep, (by show 13 < 1000; decide), ?_⟩
        rw [bP_asleep]
        refine ⟨_, rfl, rfl, _, rfl, ifB (fun _ => ?_) (fun h => absurd rfl (of_decide_eq_false h))⟩
        exact ⟨_, rfl, p, A.dx, _, rfl, hp4, bN_begin, H0, p, _, rfl, ⟨A, ts, ls, B4⟩, hsl, k⟩
      · rw [if_neg c3] at k ⊢
        refine ⟨_, rfl, rfl, _, rfl, ifB (fun h => absurd (V.str.inj (of_decide_eq_true h)) (by decide +kernel)) (fun _ => ?_)⟩
        refine ⟨_, rfl, rfl, _, rfl, ifB (fun h => absurd (V.str.inj (of_decide_eq_true h)) (by decide +kernel)) (fun _ => ?_)⟩
        refine ⟨_, rfl, p, CB, A.dx, _, rfl, hp3, T.cB, T.n_asleep, (by show 13 < 1000; decide), ?_⟩
        rw [bP_asleep]
        refine ⟨_, rfl, rfl, _, rfl, ifB (fun h => absurd (V.str.inj (of_decide_eq_true h)) (by decide +kernel)) (fun _ => ?_)⟩
        exact ⟨_, rfl, p, A.dx, _, rfl, hp4, bN_do, H0, p, _, rfl, ⟨A, ts, ls, B4⟩, hsl, hpc, k⟩
end
end Bh

/-! A board is made. -/
namespace Bh
open PySem PySem.Spec PyProof.Rows L2
def newBd (ns : List Int) (ls : List (Int × Int)) : Bd := { a := 0, b := 0, pc := 0, sp := 767, zero := false, lets := false, asleep := false, beat := 0, sent := [], mem := memOf ns, line := ls, la := 0, stop := none }
def spBI (CB CM : Addr) : Sp := fun vs H Q _ => ∃ (H0 : Hp) (p dx im ln : Addr) (us : List V) (ns : List Int) (ls : List (Int × Int)), vs = [.ref p, .ref im, .ref ln] ∧ Same H0 H ∧ H0 p = none ∧ H p = some (.ins CB dx []) ∧ H im = some (.lst (ns.map V.int)) ∧ ns.length ≤ 512 ∧ WordsOk ns ∧
  H ln = some (.lst us) ∧ TupsAt H us ls ∧ riseM 0 ls ∧ ∀ H', BoardAt CB CM H0 H' p (newBd ns ls) → Q .non H'
def spFirst : Sp := fun vs H Q _ => vs = [] ∧ ∀ (H' : Hp) (r : Addr), Same H H' → H r = none → H' r = some (.dK (regD 0 0 0 767)) → Q (.ref r) H'
theorem pull {Hb H1 : Hp} {p : Addr} {o : HO} (s : Same (upd Hb p o) H1) (f : Hb p = none) : ∃ Hb1, H1 = upd Hb1 p o ∧ Same Hb Hb1 ∧ Hb1 p = none := by
  refine ⟨fun b => if b = p then none else H1 b, ?_, ?_, if_pos rfl⟩
  · funext b
    by_cases h : b = p
    · subst h
      rw [upd_same]
      exact s _ _ upd_same
    · rw [upd_ne h]
      exact (if_neg h).symm
  · intro b x e
    have h : b ≠ p := ne_of_none e f
    show (if b = p then none else H1 b) = some x
    rw [if_neg h]
    exact s _ _ (by rw [upd_ne h]; exact e)
theorem newp {Hb : Hp} {p r : Addr} {o o' : HO} (f : Hb p = none) (n : upd Hb p o r = none) : ∃ Hb1, upd (upd Hb p o) r o' = upd Hb1 p o ∧ Same Hb Hb1 ∧ Hb1 p = none ∧ Hb1 r = some o' ∧ Hb r = none ∧ r ≠ p := by
  obtain ⟨Hb1, e, s, f1⟩ := pull (same_upd' (o := o') n) f
  have rp : r ≠ p := fun z => by rw [z, upd_same] at n; cases n
  refine ⟨Hb1, e, s, f1, ?_, ?_, rp⟩
  · have := congrFun e r
    rw [upd_same, upd_ne rp] at this
    exact this.symm
  · rw [upd_ne rp] at n
    exact n
section
variable {P : Program} {w : World} {K : PySem.W.Frag} {mg : Str → Option Value} {base : Heap} {CB CM : Addr}
abbrev sFfirst : Stmt := topS 63
def scFfirstN : List Str := []
theorem scFfirst : FnScope scFfirstN [] (defScope sFfirst) := ⟨rfl, rfl, rfl, by decide +kernel, rfl, by decide +kernel, by decide +kernel⟩
theorem ok_Ffirst {f : Addr} {fd : FuncData} (F : Fun K "first_registers" "first_registers" sFfirst f fd) (T : Tx K mg CB CM) : FnOk P w K mg base CX0 1 f fd [] (spFirst) := by
  refine F.ok scFfirst (fun vs H Q E h => by obtain ⟨rfl, _⟩ := h; rfl) (fun cdv A outer s H vs Q E hr h => ?_)
  have hu := hu_of hr
  obtain ⟨t_STACK_TOP, g_STACK_TOP⟩ := T.g_STACK_TOP
  obtain ⟨rfl, q⟩ := h
  refine ⟨_, (pss_one (ps_ret (pe_disp (pps_cons pe_str pe_int (pps_cons pe_str pe_int (pps_cons pe_str pe_int (pps_cons pe_str (pgI g_STACK_TOP) pps_nil)))) rfl rfl (by intro h; cases h) (by decide)))), ?_⟩
  intro r nr
  refine ⟨upd_same, [(Sum.inr "a", .int 0), (Sum.inr "b", .int 0), (Sum.inr "pc", .int 0), (Sum.inr "sp", .int 767)], rfl, (by decide), ?_⟩
  have em : mergeK [] [((Sum.inr "a" : Key), V.int 0), (Sum.inr "b", .int 0), (Sum.inr "pc", .int 0), (Sum.inr "sp", .int 767)] = regD 0 0 0 767 := by kernel_rfl
  rw [em, upd_upd]
  exact q _ r (same_upd' nr) nr upd_same
abbrev sCboard : Stmt := inClass (topS 64) 0
def scCboardN : List Str := ["self", "image", "line"]
theorem scCboard : FnScope scCboardN ["self", "image", "line"] (defScope sCboard) := ⟨rfl, rfl, rfl, by decide +kernel, rfl, by decide +kernel, by decide +kernel⟩
theorem ok_Cboard {f : Addr} {fd : FuncData} {fC_mem : Addr} {dC_mem : FuncData} {fF_first : Addr} {dF_first : FuncData} {fF_image : Addr} {dF_image : FuncData} {fF_line : Addr} {dF_line : FuncData} (F : Fun K "__init__" "Board.__init__" sCboard f fd) (T : Tx K mg CB CM)
    (C_mem : CalC P w K mg base CM 1 "Memory" ["self", "image"] (spMI CM) fC_mem dC_mem)
    (F_first : CalF P w K mg base 1 "first_registers" [] (spFirst) fF_first dF_first)
    (F_image : CalF P w K mg base 4 "is_image" ["thing"] (spImg) fF_image dF_image)
    (F_line : CalF P w K mg base 4 "is_line" ["thing"] (spLine) fF_line dF_line) : FnOk P w K mg base CX0 6 f fd ["self", "image", "line"] (spBI CB CM) := by
  refine F.ok scCboard (fun vs H Q E h => by obtain ⟨_, _, _, _, _, _, _, _, rfl, _⟩ := h; rfl) (fun cdv A outer s H vs Q E hr h => ?_)
  have hu := hu_of hr
  have z_list := T.z_list
  obtain ⟨H0, p, dx, im, ln, us, ns, ls, rfl, s0, f0, hp, him, hl, hw, hln, htu, hri, k⟩ := h
  refine ⟨_, (pss_cons (ps_if (PW.pt (pw_or (pt_not (pt_val (pe_call F_image.G (hr.mono (by decide)) (by rfl) F_image.g F_image.kp F_image.b .nil pass0 (pa_cons (pv 1) pa_nil)))) (pw_or1 (pt_not (pt_val (pe_call F_line.G (hr.mono (by decide)) (by rfl) F_line.g F_line.kp F_line.b .nil pass0 (pa_cons (pv 2) pa_nil))))))) (pss_one ps_never) pss_nil)
    (pss_cons (ps_fld (pv 0) (pe_call0 F_first.G (hr.mono (by decide)) (by rfl) F_first.g F_first.kp F_first.b .nil pass0) rfl)
    (pss_cons (ps_fld (pv 0) pe_bl rfl)
    (pss_cons (ps_fld (pv 0) pe_bl rfl)
    (pss_cons (ps_fld (pv 0) pe_bl rfl)
    (pss_cons (ps_fld (pv 0) pe_int rfl)
    (pss_cons (ps_fld (pv 0) pe_non rfl)
    (pss_cons (ps_fld (pv 0) (pe_lst pa_nil) rfl)
    (pss_cons (ps_fld (pv 0) (pe_make C_mem.M C_mem.I (hr.mono (by decide)) rfl C_mem.g C_mem.b .nil pass0 (pa_cons (pv 1) pa_nil)) rfl)
    (pss_cons (ps_fld (pv 0) (pe_callTy call_list_of (by rfl) z_list (by decide +kernel) (pa_cons (pv 2) pa_nil)) rfl)
    (pss_cons (ps_fld (pv 0) pe_int rfl)
    (pss_cons (ps_fld (pv 0) (pe_lst pa_nil) rfl)
    (pss_cons (ps_fld (pv 0) pe_non rfl)
    (pss_one (ps_fld (pv 0) pe_int rfl))))))))))))))), ?_⟩
  have ne1 : im ≠ p := ne_of him hp (by intro q; cases q)
  have ne2 : ln ≠ p := ne_of hln hp (by intro q; cases q)
  obtain ⟨Hb, eH, sb, fb⟩ : ∃ Hb, H = upd Hb p (.ins CB dx []) ∧ Same H0 Hb ∧ Hb p = none := by
    refine ⟨fun b => if b = p then none else H b, ?_, ?_, if_pos rfl⟩
    · funext b
      by_cases h : b = p
      · subst h
        rw [upd_same]
        exact hp
      · rw [upd_ne h]
        exact (if_neg h).symm
    · intro b x e
      have h : b ≠ p := ne_of_none e f0
      show (if b = p then none else H b) = some x
      rw [if_neg h]
      exact s0 _ _ e
  subst eH
  rw [upd_ne ne1] at him
  rw [upd_ne ne2] at hln
  have htu : TupsAt Hb us ls := htu.mono fun t xs e => by
    rw [upd_ne (ne_of e hp (by intro q; cases q))] at e
    exact e
  refine ⟨_, rfl, im, ns, rfl, (by rw [upd_ne ne1]; exact him), hl, hw, fun H1 s1 => ?_⟩
  obtain ⟨Hb1, rfl, sb1, fb1⟩ := pull s1 fb
  refine ⟨_, rfl, ifN (fun h => by cases h) (fun _ => ?_)⟩
  refine ⟨_, rfl, ln, us, ls, rfl, (by rw [upd_ne ne2]; exact sb1 _ _ hln), htu.mono (fun t xs e => ?_), hri, ?_⟩
  · have tp : t ≠ p := fun z => by rw [z, fb] at e; cases e
    rw [upd_ne tp]
    exact sb1 _ _ e
  refine ⟨_, rfl, ifN (fun h => by cases h) (fun _ => ?_)⟩
  have sB1 := sb.trans sb1
  have him1 := sb1 _ _ him
  have hln1 := sb1 _ _ hln
  have htu1 : TupsAt Hb1 us ls := htu.mono fun t xs e => sb1 _ _ e
  clear hln htu him s1 sb1 sb s0 hp
  refine ⟨rfl, fun H2 r s2' fr hr => ?_⟩
  obtain ⟨Hb3, rfl, s3, fb3⟩ := pull s2' fb1
  have rp : r ≠ p := fun z => by rw [z, upd_same] at fr; cases fr
  rw [upd_ne rp] at fr hr
  have fr0 := fr
  have hr3 := hr
  refine ⟨_, rfl, p, CB, dx, _, rfl, upd_same, T.cB, T.n_registers, (by show 0 < 1000; decide), ?_⟩
  rw [upd_upd]
  refine ⟨_, rfl, p, CB, dx, _, rfl, upd_same, T.cB, T.n_zero, (by show 1 < 1000; decide), ?_⟩
  rw [upd_upd]
  refine ⟨_, rfl, p, CB, dx, _, rfl, upd_same, T.cB, T.n_lets, (by show 2 < 1000; decide), ?_⟩
  rw [upd_upd]
  refine ⟨_, rfl, p, CB, dx, _, rfl, upd_same, T.cB, T.n_asleep, (by show 3 < 1000; decide), ?_⟩
  rw [upd_upd]
  refine ⟨_, rfl, p, CB, dx, _, rfl, upd_same, T.cB, T.n_beat, (by show 4 < 1000; decide), ?_⟩
  rw [upd_upd]
  refine ⟨_, rfl, p, CB, dx, _, rfl, upd_same, T.cB, T.n_stopped, (by show 5 < 1000; decide), ?_⟩
  rw [upd_upd]
  refine ⟨Nat.zero_le _, fun t nt => ?_⟩
  obtain ⟨Hb4, e4, s4, fb4, ht4, ft0, tp⟩ := newp (o' := .lst []) fb3 nt
  rw [e4]
  refine ⟨_, rfl, p, CB, dx, _, rfl, upd_same, T.cB, T.n_sent, (by show 6 < 1000; decide), ?_⟩
  rw [upd_upd]
  refine ⟨_, rfl, ?_⟩
  intro m dm nm ndm ndmm
  have mp : m ≠ p := fun z => by rw [z, upd_same] at nm; cases nm
  rw [upd_ne mp] at nm
  have dmp : dm ≠ p := fun z => by rw [z, upd_same] at ndm; cases ndm
  rw [upd_ne dmp] at ndm
  have him4 := s4 _ _ (s3 _ _ him1)
  have imm : im ≠ m := ne_of_none him4 nm
  have imd : im ≠ dm := ne_of_none him4 ndm
  refine ⟨m, dm, im, ns, rfl, upd_same, (by rw [upd_ne imm, upd_ne imd, upd_ne ne1]; exact him4), hl, fun H5 w_ s_ M5 fr5 fw5 fs5 => ⟨rfl, ?_⟩⟩
  have kp : ∀ b o, Hb4 b = some o → H5 b = some o := fun b o e => fr5 b o (ne_of_none e nm) (by
    rw [upd_ne (ne_of_none e nm), upd_ne (ne_of_none e ndm), upd_ne (ne_of_none e fb4)]
    exact e)
  have hp5 : ∃ fs, H5 p = some (.ins CB dx fs) ∧ fs = ([("registers", .ref r), ("zero", .bl false), ("lets", .bl false), ("asleep", .bl false), ("beat", .int 0), ("stopped", .non), ("sent", .ref t)] : List (Str × V)) := by
    refine ⟨_, fr5 p _ mp.symm (by rw [upd_ne mp.symm, upd_ne dmp.symm]; exact upd_same), ?_⟩
    kernel_rfl
  obtain ⟨fs, hp5, efs⟩ := hp5
  have wp : w_ ≠ p := fun z => by
    rw [z, upd_ne mp.symm, upd_ne dmp.symm, upd_same] at fw5
    cases fw5
  have wm : w_ ≠ m := ne_of M5.hw M5.hm (by intro q; cases q)
  have wd : w_ ≠ dm := fun z => by
    rw [z, upd_ne ndmm, upd_same] at fw5
    cases fw5
  have fw4 : Hb4 w_ = none := by rw [upd_ne wm, upd_ne wd, upd_ne wp] at fw5; exact fw5
  have sp_ : s_ ≠ p := fun z => by
    rw [z, upd_ne mp.symm, upd_ne dmp.symm, upd_same] at fs5
    cases fs5
  have sm_ : s_ ≠ m := ne_of M5.hs M5.hm (by intro q; cases q)
  have sd_ : s_ ≠ dm := fun z => by
    rw [z, upd_ne ndmm, upd_same] at fs5
    cases fs5
  have fs4 : Hb4 s_ = none := by rw [upd_ne sm_, upd_ne sd_, upd_ne sp_] at fs5; exact fs5
  obtain ⟨Hb5, rfl, kp5, fb5⟩ : ∃ Hb5 : Hp, H5 = upd Hb5 p (.ins CB dx fs) ∧ Same Hb4 Hb5 ∧ Hb5 p = none := by
    refine ⟨fun b => if b = p then none else H5 b, ?_, ?_, if_pos rfl⟩
    · funext b
      by_cases h : b = p
      · subst h
        rw [upd_same]
        exact hp5
      · rw [upd_ne h]
        exact (if_neg h).symm
    · intro b x e
      show (if b = p then none else H5 b) = some x
      rw [if_neg (ne_of_none e fb4)]
      exact kp _ _ e
  have hm5 : Hb5 m = some (.ins CM dm (mmF w_ s_)) := by have := M5.hm; rw [upd_ne mp] at this; exact this
  have hw5 : Hb5 w_ = some (.lst ((memOf ns).map V.int)) := by have := M5.hw; rw [upd_ne wp] at this; exact this
  have hs5 : Hb5 s_ = some (.dK []) := by have := M5.hs; rw [upd_ne sp_] at this; exact this
  have lm5 := M5.lm
  clear M5 fr5 kp hp5
  subst efs
  refine ⟨_, rfl, p, CB, dx, _, rfl, upd_same, T.cB, T.n_memory, (by show 7 < 1000; decide), ?_⟩
  rw [upd_upd]
  refine ⟨_, rfl, ln, us, rfl, .inl (SqL.of (by rw [upd_ne ne2]; exact kp5 _ _ (s4 _ _ (s3 _ _ hln1)))), fun l nl => ?_⟩
  obtain ⟨Hb6, e6, s6, fb6, hl6, fl0, lp⟩ := newp (o' := .lst us) fb5 nl
  rw [e6]
  refine ⟨_, rfl, p, CB, dx, _, rfl, upd_same, T.cB, T.n_line, (by show 8 < 1000; decide), ?_⟩
  rw [upd_upd]
  refine ⟨_, rfl, p, CB, dx, _, rfl, upd_same, T.cB, T.n_line_at, (by show 9 < 1000; decide), ?_⟩
  rw [upd_upd]
  refine ⟨Nat.zero_le _, fun q nq => ?_⟩
  obtain ⟨Hb7, e7, s7, fb7, hq7, -, qp⟩ := newp (o' := .lst []) fb6 nq
  rw [e7]
  refine ⟨_, rfl, p, CB, dx, _, rfl, upd_same, T.cB, T.n_touched, (by show 10 < 1000; decide), ?_⟩
  rw [upd_upd]
  refine ⟨_, rfl, p, CB, dx, _, rfl, upd_same, T.cB, T.n_did, (by show 11 < 1000; decide), ?_⟩
  rw [upd_upd]
  refine ⟨_, rfl, p, CB, dx, _, rfl, upd_same, T.cB, T.n_bend, (by show 12 < 1000; decide), ?_⟩
  rw [upd_upd]
  have s57 := s6.trans s7
  have s47 := kp5.trans s57
  have s17 : Same Hb1 Hb7 := (s3.trans s4).trans s47
  have hmh : Hb7 m = some (.ins CM dm (mmF w_ s_)) := s57 _ _ hm5
  refine k _ ⟨⟨dx, r, m, dm, w_, s_, t, l⟩, [], us, ?_⟩
  exact {
    sm := fun b x e => by
      rw [upd_ne (ne_of_none e f0)]
      exact s17 _ _ (sB1 _ _ e)
    fp := f0
    fr := sB1.free fr0
    fw := sB1.free ((s3.trans s4).free fw4)
    ft := sB1.free (s3.free ft0)
    fm := sB1.free ((s3.trans s4).free nm)
    fs := sB1.free ((s3.trans s4).free fs4)
    fl := sB1.free (s3.free (s4.free (kp5.free fl0)))
    hp := ⟨.non, .ref q, .non, (by rw [upd_same]; exact congrArg (fun z => some (HO.ins CB dx z)) (by kernel_rfl)), rfl⟩
    hr := by rw [upd_ne rp]; exact s47 _ _ (s4 _ _ hr3)
    hm := by rw [upd_ne mp]; exact hmh
    hw := by rw [upd_ne wp]; exact s57 _ _ hw5
    hs := by rw [upd_ne sp_]; exact s57 _ _ hs5
    ht := by rw [upd_ne tp]; exact s47 _ _ ht4
    hl := by rw [upd_ne lp]; exact s7 _ _ hl6
    pm := mp.symm
    rs := fun (z : r = s_) => by
      have h1 := s4 _ _ hr3
      rw [z, fs4] at h1
      cases h1
    wt := fun (z : w_ = t) => by rw [z, ht4] at fw4; cases fw4
    wl := fun (z : w_ = l) => by rw [← z, hw5] at fl0; cases fl0
    tl := fun (z : t = l) => by
      have h1 := kp5 _ _ ht4
      rw [z, fl0] at h1
      cases h1
    us := .nil
    ll := htu1.mono fun u xs e => by
      have up : u ≠ p := ne_of_none e fb1
      rw [upd_ne up]
      exact s17 _ _ e
    lm := lm5 }
end
end Bh

/-! A board that has no line, in a turn that is a deed. -/
namespace Bh
open PySem PySem.Spec PyProof.Rows L2
def timN : Nat → List Int → List Int
  | 0, m => m
  | n + 1, m => timN n (goTimerM m)
theorem come_nil {x : Bd} (h : x.line = []) : comeM x = x := by
  unfold comeM
  rw [h]
  exact if_neg fun z => by cases z.1
theorem passOne_nil {x : Bd} (h : x.line = []) : passOneM x = { x with beat := x.beat + 1, mem := goTimerM x.mem } := by
  have e : comeM { x with beat := x.beat + 1 } = { x with beat := x.beat + 1 } := come_nil h
  show { comeM { x with beat := x.beat + 1 } with mem := goTimerM (comeM { x with beat := x.beat + 1 }).mem } = _
  rw [e]
theorem pass_nil : ∀ (n : Nat) (x : Bd), x.line = [] → passM n x = { x with beat := x.beat + n, mem := timN n x.mem }
  | 0, x, _ => by
    show x = _
    cases x
    simp [timN]
  | n + 1, x, h => by
    show passM n (passOneM x) = _
    rw [passOne_nil h]
    rw [pass_nil n { x with beat := x.beat + 1, mem := goTimerM x.mem } h]
    show ({ x with beat := x.beat + 1 + (n : Int), mem := timN n (goTimerM x.mem) } : Bd) = { x with beat := x.beat + ((n + 1 : Nat) : Int), mem := timN (n + 1) x.mem }
    have : x.beat + 1 + (n : Int) = x.beat + ((n + 1 : Nat) : Int) := by omega
    rw [this]
    rfl
theorem timN_len : ∀ (n : Nat) (m : List Int), (timN n m).length = m.length
  | 0, _ => rfl
  | n + 1, m => by
    show (timN n (goTimerM m)).length = _
    rw [timN_len n, goTimerM_len]
theorem goTimerM_far {m : List Int} {j : Int} (h0 : 0 ≤ j) (h1 : j ≠ 768) (h2 : j ≠ 770) : rd (goTimerM m) j = rd m j := by
  unfold goTimerM
  split
  · rfl
  · split
    · rw [rd_stM_ne (by decide) h0 (Ne.symm h1), rd_stM_ne (by decide) h0 (Ne.symm h2)]
    · rw [rd_stM_ne (by decide) h0 (Ne.symm h1)]
theorem timN_far : ∀ (n : Nat) (m : List Int) {j : Int}, 0 ≤ j → j ≠ 768 → j ≠ 770 → rd (timN n m) j = rd m j
  | 0, _, _, _, _, _ => rfl
  | n + 1, m, j, h0, h1, h2 => by
    show rd (timN n (goTimerM m)) j = _
    rw [timN_far n _ h0 h1 h2, goTimerM_far h0 h1 h2]
/-- nothing keeps a deed from being done -/
structure Calm (x : Bd) : Prop where
  st : x.stop = none
  as : x.asleep = false
  le : x.lets = false
  ln : x.line = []
  p0 : 0 ≤ x.pc
  p1 : x.pc < 768
theorem turn_deed {x : Bd} (h : Calm x) {op : Nat} {n : Int} (hw : rd x.mem x.pc = 1024 * op + n) (n0 : 0 ≤ n) (n1 : n < 1024) (o1 : 1 ≤ op) (o2 : op < 23) (hb : firstBad (touM op n x.b x.sp) = none) :
    turnM x = (("deed" : Str), passM (1 + (touM op n x.b x.sp).length) (doM op n (readsM x.mem (touM op n x.b x.sp)) { x with pc := x.pc + 1 })) := by
  have eo : opM x = op := by
    unfold opM
    rw [hw]
    omega
  have en : xM x = n := by
    unfold xM
    rw [hw]
    omega
  have et : toM x = touM op n x.b x.sp := by
    unfold toM
    rw [eo, en]
  have ea : ({ x with asleep := false } : Bd) = x := by
    have := h.as
    cases x
    cases this
    rfl
  unfold turnM
  rw [if_neg (fun z => z h.st), if_neg (fun z => by rw [h.as] at z; cases z.1), if_neg (fun z => by rw [h.le] at z; cases z.1), ea]
  unfold deedM
  rw [if_neg (fun z => z ⟨h.p0, h.p1⟩), eo, if_neg (by omega), if_neg (by omega), et, hb]
  unfold doneM
  rw [et, eo, en]
theorem memOf_rd {ns : List Int} (hl : ns.length ≤ 512) {j : Nat} (hj : j < ns.length) : rd (memOf ns) j = rd ns j := by
  unfold rd memOf
  rw [List.getD_eq_getElem?_getD, List.getD_eq_getElem?_getD, List.append_assoc, List.getElem?_append_left (by show j < _; exact hj)]
theorem memOf_ram {ns : List Int} (hl : ns.length ≤ 512) {j : Nat} (h0 : 512 ≤ j) (h1 : j < 774) : rd (memOf ns) j = 0 := by
  unfold rd memOf
  rw [List.getD_eq_getElem?_getD, List.getElem?_append_right (by rw [List.length_append, List.length_replicate]; show _ ≤ j; omega), List.getElem?_replicate]
  rw [List.length_append, List.length_replicate]
  have : ((j : Int).toNat - (ns.length + (512 - ns.length))) < 262 := by
    show j - _ < 262
    omega
  rw [if_pos this]
  rfl
end Bh

/-! A board without line and timer: what each deed makes of it. -/
namespace Bh
open PySem PySem.Spec PyProof.Rows L2
def S (a b pc sp : Int) (z : Bool) (bt : Int) (m : List Int) : Bd := { a := a, b := b, pc := pc, sp := sp, zero := z, lets := false, asleep := false, beat := bt, sent := [], mem := m, line := [], la := 0, stop := none }
theorem new_S (ns : List Int) : newBd ns [] = S 0 0 0 767 false 0 (memOf ns) := rfl
theorem timN_idle : ∀ (n : Nat) {m : List Int}, rd m 769 = 0 → timN n m = m
  | 0, _, _ => rfl
  | n + 1, m, h => by
    have e : goTimerM m = m := if_pos h
    show timN n (goTimerM m) = m
    rw [e]
    exact timN_idle n h
theorem fin_of {x D : Bd} {k : Nat} {w : Str} (t : turnM x = (w, passM k D)) (hl : D.line = []) (top : rd D.mem 769 = 0) : turnM x = (w, { D with beat := D.beat + k }) := by
  rw [t, pass_nil k D hl, timN_idle k top]
theorem fb_r {n : Int} (h0 : 0 ≤ n) (h1 : n < 774) : firstBad [(false, n)] = none := by
  rw [firstBad_cons]
  have : barM (false, n) = none := by
    unfold barM
    rw [if_neg (fun z => z ⟨h0, h1⟩)]
    rfl
  rw [this]
  rfl
theorem fb_w {n : Int} (h0 : 512 ≤ n) (h1 : n < 768) : firstBad [(true, n)] = none := by
  rw [firstBad_cons]
  have : barM (true, n) = none := by
    unfold barM
    rw [if_neg (fun z => z ⟨by show 0 ≤ n; omega, by show n < 774; omega⟩), if_neg (by intro z; cases z), if_neg (by show ¬ n < 512; omega), if_neg (by show ¬ n = 772; omega)]
  rw [this]
  rfl
theorem put_S {a b pc sp bt : Int} {z : Bool} {m : List Int} {n v : Int} (h0 : 512 ≤ n) (h1 : n < 768) : putWM n v (S a b pc sp z bt m) = S a b pc sp z bt (stM m n v) := by
  unfold putWM
  have es : sendM n v (S a b pc sp z bt m) = S a b pc sp z bt m := if_neg (by omega)
  rw [es]
  have : putMM n v m = stM m n v := if_neg (by omega)
  show ({ S a b pc sp z bt m with mem := putMM n v m } : Bd) = _
  rw [this]
  rfl
theorem top_st {m : List Int} {n v : Int} (h0 : 512 ≤ n) (h1 : n < 768) (top : rd m 769 = 0) : rd (stM m n v) 769 = 0 := by
  rw [rd_stM_ne (by omega) (by decide) (by omega)]
  exact top
section
variable {a b pc sp bt n : Int} {z : Bool} {m : List Int}
theorem calm_S (p0 : 0 ≤ pc) (p1 : pc < 768) : Calm (S a b pc sp z bt m) := ⟨rfl, rfl, rfl, rfl, p0, p1⟩
theorem r_lit (p0 : 0 ≤ pc) (p1 : pc < 768) (top : rd m 769 = 0) (n0 : 0 ≤ n) (n1 : n < 1024) (W : rd m pc = 1024 * 1 + n) : turnM (S a b pc sp z bt m) = (("deed" : Str), S n b (pc + 1) sp (decide (n = 0)) (bt + 1) m) :=
  fin_of (turn_deed (calm_S p0 p1) (op := 1) W n0 n1 (by decide) (by decide) rfl) rfl top
theorem r_get (p0 : 0 ≤ pc) (p1 : pc < 768) (top : rd m 769 = 0) (n0 : 0 ≤ n) (n1 : n < 774) (W : rd m pc = 1024 * 2 + n) : turnM (S a b pc sp z bt m) = (("deed" : Str), S (rd m n) b (pc + 1) sp (decide (rd m n = 0)) (bt + 2) m) :=
  fin_of (turn_deed (calm_S p0 p1) (op := 2) W n0 (by omega) (by decide) (by decide) (fb_r n0 n1)) rfl top
theorem r_put (p0 : 0 ≤ pc) (p1 : pc < 768) (top : rd m 769 = 0) (n0 : 512 ≤ n) (n1 : n < 768) (W : rd m pc = 1024 * 3 + n) : turnM (S a b pc sp z bt m) = (("deed" : Str), S a b (pc + 1) sp z (bt + 2) (stM m n a)) := by
  have e : doM 3 n (readsM m (touM 3 n b sp)) (S a b (pc + 1) sp z bt m) = S a b (pc + 1) sp z bt (stM m n a) := put_S n0 n1
  have t := turn_deed (calm_S (a := a) (b := b) (sp := sp) (z := z) (bt := bt) (m := m) p0 p1) (op := 3) W (by omega) (by omega) (by decide) (by decide) (fb_w n0 n1)
  have t : turnM (S a b pc sp z bt m) = (("deed" : Str), passM 2 (doM 3 n (readsM m (touM 3 n b sp)) (S a b (pc + 1) sp z bt m))) := t
  rw [e] at t
  exact fin_of t rfl (top_st n0 n1 top)
theorem r_add (p0 : 0 ≤ pc) (p1 : pc < 768) (top : rd m 769 = 0) (n0 : 0 ≤ n) (n1 : n < 774) (W : rd m pc = 1024 * 4 + n) : turnM (S a b pc sp z bt m) = (("deed" : Str), S ((a + rd m n) % 65536) b (pc + 1) sp (decide ((a + rd m n) % 65536 = 0)) (bt + 2) m) :=
  fin_of (turn_deed (calm_S p0 p1) (op := 4) W n0 (by omega) (by decide) (by decide) (fb_r n0 n1)) rfl top
theorem r_sub (p0 : 0 ≤ pc) (p1 : pc < 768) (top : rd m 769 = 0) (n0 : 0 ≤ n) (n1 : n < 774) (W : rd m pc = 1024 * 5 + n) : turnM (S a b pc sp z bt m) = (("deed" : Str), S ((a - rd m n) % 65536) b (pc + 1) sp (decide ((a - rd m n) % 65536 = 0)) (bt + 2) m) :=
  fin_of (turn_deed (calm_S p0 p1) (op := 5) W n0 (by omega) (by decide) (by decide) (fb_r n0 n1)) rfl top
theorem r_and (p0 : 0 ≤ pc) (p1 : pc < 768) (top : rd m 769 = 0) (n0 : 0 ≤ n) (n1 : n < 774) (W : rd m pc = 1024 * 6 + n) : turnM (S a b pc sp z bt m) = (("deed" : Str), S (Builtin.bitAnd a (rd m n)) b (pc + 1) sp (decide (Builtin.bitAnd a (rd m n) = 0)) (bt + 2) m) :=
  fin_of (turn_deed (calm_S p0 p1) (op := 6) W n0 (by omega) (by decide) (by decide) (fb_r n0 n1)) rfl top
theorem r_xor (p0 : 0 ≤ pc) (p1 : pc < 768) (top : rd m 769 = 0) (n0 : 0 ≤ n) (n1 : n < 774) (W : rd m pc = 1024 * 7 + n) : turnM (S a b pc sp z bt m) = (("deed" : Str), S (Builtin.bitXor a (rd m n)) b (pc + 1) sp (decide (Builtin.bitXor a (rd m n) = 0)) (bt + 2) m) :=
  fin_of (turn_deed (calm_S p0 p1) (op := 7) W n0 (by omega) (by decide) (by decide) (fb_r n0 n1)) rfl top
theorem r_getb (p0 : 0 ≤ pc) (p1 : pc < 768) (top : rd m 769 = 0) (n0 : 0 ≤ n) (n1 : n < 1024) (b0 : 0 ≤ n + b) (b1 : n + b < 774) (W : rd m pc = 1024 * 8 + n) : turnM (S a b pc sp z bt m) = (("deed" : Str), S (rd m (n + b)) b (pc + 1) sp (decide (rd m (n + b) = 0)) (bt + 2) m) :=
  fin_of (turn_deed (calm_S p0 p1) (op := 8) W n0 n1 (by decide) (by decide) (fb_r b0 b1)) rfl top
theorem r_putb (p0 : 0 ≤ pc) (p1 : pc < 768) (top : rd m 769 = 0) (n0 : 0 ≤ n) (n1 : n < 1024) (b0 : 512 ≤ n + b) (b1 : n + b < 768) (W : rd m pc = 1024 * 9 + n) : turnM (S a b pc sp z bt m) = (("deed" : Str), S a b (pc + 1) sp z (bt + 2) (stM m (n + b) a)) := by
  have e : doM 9 n (readsM m (touM 9 n b sp)) (S a b (pc + 1) sp z bt m) = S a b (pc + 1) sp z bt (stM m (n + b) a) := put_S b0 b1
  have t : turnM (S a b pc sp z bt m) = (("deed" : Str), passM 2 (doM 9 n (readsM m (touM 9 n b sp)) (S a b (pc + 1) sp z bt m))) := turn_deed (calm_S p0 p1) (op := 9) W n0 n1 (by decide) (by decide) (fb_w b0 b1)
  rw [e] at t
  exact fin_of t rfl (top_st b0 b1 top)
theorem r_tob (p0 : 0 ≤ pc) (p1 : pc < 768) (top : rd m 769 = 0) (n0 : 0 ≤ n) (n1 : n < 1024) (W : rd m pc = 1024 * 10 + n) : turnM (S a b pc sp z bt m) = (("deed" : Str), S a a (pc + 1) sp z (bt + 1) m) :=
  fin_of (turn_deed (calm_S p0 p1) (op := 10) W n0 n1 (by decide) (by decide) rfl) rfl top
theorem r_swap (p0 : 0 ≤ pc) (p1 : pc < 768) (top : rd m 769 = 0) (n0 : 0 ≤ n) (n1 : n < 1024) (W : rd m pc = 1024 * 11 + n) : turnM (S a b pc sp z bt m) = (("deed" : Str), S b a (pc + 1) sp (decide (b = 0)) (bt + 1) m) :=
  fin_of (turn_deed (calm_S p0 p1) (op := 11) W n0 n1 (by decide) (by decide) rfl) rfl top
theorem r_go (p0 : 0 ≤ pc) (p1 : pc < 768) (top : rd m 769 = 0) (n0 : 0 ≤ n) (n1 : n < 1024) (W : rd m pc = 1024 * 12 + n) : turnM (S a b pc sp z bt m) = (("deed" : Str), S a b n sp z (bt + 1) m) :=
  fin_of (turn_deed (calm_S p0 p1) (op := 12) W n0 n1 (by decide) (by decide) rfl) rfl top
theorem r_ifz (p0 : 0 ≤ pc) (p1 : pc < 768) (top : rd m 769 = 0) (n0 : 0 ≤ n) (n1 : n < 1024) (W : rd m pc = 1024 * 13 + n) : turnM (S a b pc sp z bt m) = (("deed" : Str), S a b (if z = true then n else pc + 1) sp z (bt + 1) m) := by
  have e : doM 13 n (readsM m (touM 13 n b sp)) (S a b (pc + 1) sp z bt m) = S a b (if z = true then n else pc + 1) sp z bt m := by
    cases z <;> rfl
  have t : turnM (S a b pc sp z bt m) = (("deed" : Str), passM 1 (doM 13 n (readsM m (touM 13 n b sp)) (S a b (pc + 1) sp z bt m))) := turn_deed (calm_S p0 p1) (op := 13) W n0 n1 (by decide) (by decide) rfl
  rw [e] at t
  exact fin_of t rfl top
theorem r_ifn (p0 : 0 ≤ pc) (p1 : pc < 768) (top : rd m 769 = 0) (n0 : 0 ≤ n) (n1 : n < 1024) (W : rd m pc = 1024 * 14 + n) : turnM (S a b pc sp z bt m) = (("deed" : Str), S a b (if 32768 ≤ a then n else pc + 1) sp z (bt + 1) m) := by
  have e : doM 14 n (readsM m (touM 14 n b sp)) (S a b (pc + 1) sp z bt m) = S a b (if 32768 ≤ a then n else pc + 1) sp z bt m := by
    show (if 32768 ≤ a then ({ S a b (pc + 1) sp z bt m with pc := n } : Bd) else S a b (pc + 1) sp z bt m) = _
    split <;> rfl
  have t : turnM (S a b pc sp z bt m) = (("deed" : Str), passM 1 (doM 14 n (readsM m (touM 14 n b sp)) (S a b (pc + 1) sp z bt m))) := turn_deed (calm_S p0 p1) (op := 14) W n0 n1 (by decide) (by decide) rfl
  rw [e] at t
  exact fin_of t rfl top
theorem r_call (p0 : 0 ≤ pc) (p1 : pc < 768) (top : rd m 769 = 0) (n0 : 0 ≤ n) (n1 : n < 1024) (s0 : 512 ≤ sp) (s1 : sp < 768) (W : rd m pc = 1024 * 15 + n) : turnM (S a b pc sp z bt m) = (("deed" : Str), S a b n (sp - 1) z (bt + 2) (stM m sp (pc + 1))) := by
  have e : doM 15 n (readsM m (touM 15 n b sp)) (S a b (pc + 1) sp z bt m) = S a b n (sp - 1) z bt (stM m sp (pc + 1)) := by
    show ({ putWM sp (pc + 1) (S a b (pc + 1) sp z bt m) with sp := sp - 1, pc := n } : Bd) = _
    rw [put_S s0 s1]
    rfl
  have t : turnM (S a b pc sp z bt m) = (("deed" : Str), passM 2 (doM 15 n (readsM m (touM 15 n b sp)) (S a b (pc + 1) sp z bt m))) := turn_deed (calm_S p0 p1) (op := 15) W n0 n1 (by decide) (by decide) (fb_w s0 s1)
  rw [e] at t
  exact fin_of t rfl (top_st s0 s1 top)
theorem r_ret (p0 : 0 ≤ pc) (p1 : pc < 768) (top : rd m 769 = 0) (n0 : 0 ≤ n) (n1 : n < 1024) (s0 : 0 ≤ sp + 1) (s1 : sp + 1 < 774) (W : rd m pc = 1024 * 16 + n) : turnM (S a b pc sp z bt m) = (("deed" : Str), S a b (rd m (sp + 1)) (sp + 1) z (bt + 2) m) :=
  fin_of (turn_deed (calm_S p0 p1) (op := 16) W n0 n1 (by decide) (by decide) (fb_r s0 s1)) rfl top
theorem r_push (p0 : 0 ≤ pc) (p1 : pc < 768) (top : rd m 769 = 0) (n0 : 0 ≤ n) (n1 : n < 1024) (s0 : 512 ≤ sp) (s1 : sp < 768) (W : rd m pc = 1024 * 17 + n) : turnM (S a b pc sp z bt m) = (("deed" : Str), S a b (pc + 1) (sp - 1) z (bt + 2) (stM m sp a)) := by
  have e : doM 17 n (readsM m (touM 17 n b sp)) (S a b (pc + 1) sp z bt m) = S a b (pc + 1) (sp - 1) z bt (stM m sp a) := by
    show ({ putWM sp a (S a b (pc + 1) sp z bt m) with sp := sp - 1 } : Bd) = _
    rw [put_S s0 s1]
    rfl
  have t : turnM (S a b pc sp z bt m) = (("deed" : Str), passM 2 (doM 17 n (readsM m (touM 17 n b sp)) (S a b (pc + 1) sp z bt m))) := turn_deed (calm_S p0 p1) (op := 17) W n0 n1 (by decide) (by decide) (fb_w s0 s1)
  rw [e] at t
  exact fin_of t rfl (top_st s0 s1 top)
theorem r_pop (p0 : 0 ≤ pc) (p1 : pc < 768) (top : rd m 769 = 0) (n0 : 0 ≤ n) (n1 : n < 1024) (s0 : 0 ≤ sp + 1) (s1 : sp + 1 < 774) (W : rd m pc = 1024 * 18 + n) : turnM (S a b pc sp z bt m) = (("deed" : Str), S (rd m (sp + 1)) b (pc + 1) (sp + 1) (decide (rd m (sp + 1) = 0)) (bt + 2) m) :=
  fin_of (turn_deed (calm_S p0 p1) (op := 18) W n0 n1 (by decide) (by decide) (fb_r s0 s1)) rfl top
theorem r_let0 (p0 : 0 ≤ pc) (p1 : pc < 768) (top : rd m 769 = 0) (W : rd m pc = 1024 * 20 + 0) : turnM (S a b pc sp z bt m) = (("deed" : Str), S a b (pc + 1) sp z (bt + 1) m) :=
  fin_of (turn_deed (calm_S p0 p1) (op := 20) W (by decide) (by decide) (by decide) (by decide) rfl) rfl top
theorem r_half (p0 : 0 ≤ pc) (p1 : pc < 768) (top : rd m 769 = 0) (n0 : 0 ≤ n) (n1 : n < 1024) (W : rd m pc = 1024 * 22 + n) : turnM (S a b pc sp z bt m) = (("deed" : Str), S (a / 2) b (pc + 1) sp (decide (a / 2 = 0)) (bt + 1) m) :=
  fin_of (turn_deed (calm_S p0 p1) (op := 22) W n0 n1 (by decide) (by decide) rfl) rfl top
end
end Bh

/-! The law's own defs. -/
namespace Bh
open PySem PySem.Spec PyProof.Rows L2
def DigOk (ds : List Int) : Prop := ∀ d ∈ ds, 0 ≤ d ∧ d ≤ 1008
theorem digOk_snoc {ds : List Int} {d : Int} (h : DigOk ds) (h0 : 0 ≤ d) (h1 : d ≤ 1008) : DigOk (ds ++ [d]) := fun x hx => by
  rcases List.mem_append.mp hx with q | q
  · exact h x q
  · rw [List.mem_singleton.mp q]
    exact ⟨h0, h1⟩
theorem atN {ds : List Int} (hd : DigOk ds) {j : Int} (h0 : 0 ≤ j) (h1 : j < ds.length) : ∃ d, atI (ds.map V.int) j = some (.int d) ∧ 0 ≤ d ∧ d ≤ 1008 := by
  have hj : j.toNat < ds.length := by omega
  refine ⟨rd ds j, atI_rd h0 h1, ?_⟩
  unfold rd
  rw [List.getD_eq_getElem?_getD, List.getElem?_eq_getElem hj]
  exact hd _ (List.getElem_mem hj)
def spDig : Sp := fun vs H Q _ => ∃ (c : Int) (m : Nat), vs = [.int c, .int (m : Int)] ∧ m ≤ 1000 ∧ ∀ (H' : Hp) (p : Addr) (ds : List Int), ds.length = m → DigOk ds → Same H H' → H p = none → H' p = some (.lst (ds.map V.int)) → Q (.ref p) H'
section
variable {P : Program} {w : World} {K : PySem.W.Frag} {mg : Str → Option Value} {base : Heap} {CB CM : Addr}
abbrev sLdig : Stmt := topS 67
def scLdigN : List Str := ["_law_cell_here", "_law_many", "_law_row", "_law_rest", "_law_number", "_law_k"]
theorem scLdig : FnScope scLdigN ["_law_cell_here", "_law_many"] (defScope sLdig) := ⟨rfl, rfl, rfl, by decide +kernel, rfl, by decide +kernel, by decide +kernel⟩
theorem ok_Ldig {f : Addr} {fd : FuncData} (F : Fun K "_law_digits" "_law_digits" sLdig f fd) (T : Tx K mg CB CM) : FnOk P w K mg base CX0 1 f fd ["_law_cell_here", "_law_many"] (spDig) := by
  refine F.ok scLdig (fun vs H Q E h => by obtain ⟨_, _, rfl, _⟩ := h; rfl) (fun cdv A outer s H vs Q E hr h => ?_)
  have hu := hu_of hr
  have z_range := T.z_range
  obtain ⟨c, m, rfl, hm, q⟩ := h
  refine ⟨_, (pss_cons (ps_set (i := 2) scLdig.nd rfl (.inl rfl) (pe_lst pa_nil))
    (pss_cons (ps_set (i := 3) scLdig.nd rfl (.inl rfl) pe_int)
    (pss_cons (ps_if (pt_cmpR op_ge (pv 0) (pe_op op_pow pe_int pe_int) (nomark _)) (pss_one (ps_set (i := 3) scLdig.nd rfl (.inl rfl) (pv 0))) pss_nil)
    (pss_cons (ps_set (i := 4) scLdig.nd rfl (.inl rfl) (pe_op op_mod (pv 0) pe_int))
    (pss_cons (ps_for PassesOwn.never rfl (pi_range1 (by rfl) z_range (pa_cons (pv 1) pa_nil)) (pg_name (i := 5) scLdig.nd rfl (.inl rfl))
      (pss_cons (ps_set (i := 4) scLdig.nd rfl (.inl rfl) (pe_op op_mod (pe_op op_add (pe_op op_add (pe_op op_mul (pv 4) pe_int) (pe_op op_mul pe_int (pv 5))) pe_int) pe_int))
    (pss_cons (ps_set (i := 4) scLdig.nd rfl (.inl rfl) (pe_op op_mod (pe_op op_mul (pv 4) (pe_op op_add (pe_op op_fdiv (pv 4) pe_int) pe_int)) pe_int))
    (pss_one (ps_if (pt_cmpR op_gt (pv 3) pe_int (nomark _)) (pss_cons (ps_expr (pe_bm PySem.F.plainAttrs_list PySem.F.slot_list_append PySem.F.type_list_append mt_append (pv 2) (pa_cons (pe_op op_mod (pv 3) pe_int) pa_nil)))
    (pss_one (ps_set (i := 3) scLdig.nd rfl (.inl rfl) (pe_op op_fdiv (pv 3) pe_int)))) (pss_one (ps_expr (pe_bm PySem.F.plainAttrs_list PySem.F.slot_list_append PySem.F.type_list_append mt_append (pv 2) (pa_cons (pe_op op_mod (pe_op op_fdiv (pv 4) pe_int) pe_int) pa_nil)))))))))
    (pss_one (ps_ret (pv 2)))))))), ?_⟩
  refine ⟨Nat.zero_le _, fun p np => ?_⟩
  refine ⟨_, rfl, _, _, rfl, rfl, ⟨by decide, by decide, by decide⟩, _, _, rfl, rfl, _, rfl, ite2 (fun _ => ⟨_, rfl, ?_⟩) (fun _ => ?_)⟩
  all_goals
    refine ⟨_, rfl, _, _, rfl, rfl, (by show (0 : Int) < 2147483647; decide), ?_⟩
    refine ⟨_, rfl, (m : Int), rfl, by omega, by omega, ?_⟩
    refine for_range (lo := 0) (n := ((m : Int)).toNat) (fun i σ H' => ∃ (rest num : Int) (y : Option V) (ds : List Int), σ = [some (.int c), some (.int (m : Int)), some (.ref p), some (.int rest), some (.int num), y] ∧ 0 ≤ num ∧ num < 2147483647 ∧ ds.length = i ∧ DigOk ds ∧ Same H H' ∧ H' p = some (.lst (ds.map V.int)))
      ⟨_, _, none, [], rfl, Int.emod_nonneg _ (by decide), Int.emod_lt_of_pos _ (by decide), rfl, (fun _ h => by cases h), same_upd' np, upd_same⟩ ?_ ?_
    · rintro i σ H' hi ⟨rest, num, y, ds, rfl, n0, n1, hl, hd, sm, hp⟩
      have him : i < 1000 := by omega
      refine ⟨_, rfl, _, _, rfl, rfl, .inl ⟨by omega, by omega⟩, _, rfl, _, _, rfl, rfl, .inl ⟨by decide, by decide⟩, _, _, rfl, rfl, _, _, rfl, rfl, _, _, rfl, rfl, (by show (0 : Int) < 2147483647; decide), ?_⟩
      have a0 := Int.emod_nonneg (num * 48271 + 30103 * (0 + (i : Int)) + 11) (show (2147483647 : Int) ≠ 0 by decide)
      have a1 := Int.emod_lt_of_pos (num * 48271 + 30103 * (0 + (i : Int)) + 11) (show (0 : Int) < 2147483647 by decide)
      refine ⟨_, rfl, _, rfl, _, _, rfl, rfl, ⟨by decide, by decide⟩, _, _, rfl, rfl, _, _, rfl, rfl, .inl ⟨by omega, by omega⟩, _, _, rfl, rfl, (by show (0 : Int) < 2147483629; decide), ?_⟩
      have b0 := Int.emod_nonneg (((num * 48271 + 30103 * (0 + (i : Int)) + 11) % 2147483647) * (((num * 48271 + 30103 * (0 + (i : Int)) + 11) % 2147483647) / 1009 + 69621)) (show (2147483629 : Int) ≠ 0 by decide)
      have b1 := Int.emod_lt_of_pos (((num * 48271 + 30103 * (0 + (i : Int)) + 11) % 2147483647) * (((num * 48271 + 30103 * (0 + (i : Int)) + 11) % 2147483647) / 1009 + 69621)) (show (0 : Int) < 2147483629 by decide)
      have hlen : (ds.map V.int).length < sizeLine := by
        rw [List.length_map]
        exact small1000 (by omega)
      have upd_ok : ∀ (d : Int), Same H (upd H' p (.lst (ds.map V.int ++ [.int d]))) ∧ upd H' p (.lst (ds.map V.int ++ [.int d])) p = some (.lst ((ds ++ [d]).map V.int)) := fun d => by
        refine ⟨same_of sm np, ?_⟩
        rw [upd_same, List.map_append]
        rfl
      refine ⟨_, rfl, _, _, rfl, rfl, _, rfl, ite2 (fun _ => ?_) (fun _ => ?_)⟩
      · refine ⟨_, rfl, .inl ⟨rfl, _, SqL.of hp⟩, _, rfl, _, _, rfl, rfl, (by show (0 : Int) < 1009; decide), p, _, _, rfl, rfl, hp, hlen, ?_⟩
        refine ⟨_, rfl, _, _, rfl, rfl, ⟨by decide, by decide⟩, ?_⟩
        have c0 := Int.emod_nonneg rest (show (1009 : Int) ≠ 0 by decide)
        have c1 := Int.emod_lt_of_pos rest (show (0 : Int) < 1009 by decide)
        exact ⟨_, _, _, ds ++ [rest % 1009], rfl, b0, by omega, by rw [List.length_append, hl]; rfl, digOk_snoc hd c0 (by omega), (upd_ok _).1, (upd_ok _).2⟩
      · refine ⟨_, rfl, .inl ⟨rfl, _, SqL.of hp⟩, _, rfl, _, _, rfl, rfl, ⟨by decide, by decide⟩, _, _, rfl, rfl, (by show (0 : Int) < 1009; decide), p, _, _, rfl, rfl, hp, hlen, ?_⟩
        have c0 := Int.emod_nonneg (((((num * 48271 + 30103 * (0 + (i : Int)) + 11) % 2147483647) * (((num * 48271 + 30103 * (0 + (i : Int)) + 11) % 2147483647) / 1009 + 69621)) % 2147483629) / 7) (show (1009 : Int) ≠ 0 by decide)
        have c1 := Int.emod_lt_of_pos (((((num * 48271 + 30103 * (0 + (i : Int)) + 11) % 2147483647) * (((num * 48271 + 30103 * (0 + (i : Int)) + 11) % 2147483647) / 1009 + 69621)) % 2147483629) / 7) (show (0 : Int) < 1009 by decide)
        exact ⟨_, _, _, ds ++ [((((num * 48271 + 30103 * (0 + (i : Int)) + 11) % 2147483647) * (((num * 48271 + 30103 * (0 + (i : Int)) + 11) % 2147483647) / 1009 + 69621)) % 2147483629) / 7 % 1009], rfl, b0, by omega, by rw [List.length_append, hl]; rfl, digOk_snoc hd c0 (by omega), (upd_ok _).1, (upd_ok _).2⟩
    · rintro σ H' ⟨rest, num, y, ds, rfl, n0, n1, hl, hd, sm, hp⟩
      exact ⟨_, rfl, q H' p ds (by omega) hd sm np hp⟩
end
end Bh

/-! Lists of ints told; a law's frame. -/
namespace Bh
open PySem PySem.Spec PyProof.Rows L2
theorem can_ints : ∀ ns : List Int, PyData.canLayAll0 (ns.map PyData.int) = true
  | [] => rfl
  | n :: r => by
    show (PyData.canLay0 (.int n) && PyData.canLayAll0 (r.map PyData.int)) = true
    rw [can_ints r]
    rfl
theorem dep_ints : ∀ ns : List Int, PyData.depthAll (ns.map PyData.int) ≤ 1
  | [] => by decide
  | n :: r => by
    have ih := dep_ints r
    show max (PyData.depth (.int n)) (PyData.depthAll (r.map PyData.int)) ≤ 1
    exact Nat.max_le.mpr ⟨Nat.zero_le _, ih⟩
theorem dp_ints {K : PySem.W.Frag} {H : Hp} : ∀ ns : List Int, DpAll K H (ns.map V.int) (ns.map PyData.int)
  | [] => .nil
  | n :: r => .cons (.int n) (dp_ints r)
theorem shaped_ints (ns : List Int) : SeqAt.shaped (.list (ns.map PyData.int)) = true := by
  show (PyData.canLayAll0 (ns.map PyData.int) && decide (PyData.depthAll (ns.map PyData.int) + 1 ≤ 64)) = true
  rw [can_ints, decide_eq_true (by have := dep_ints ns; omega)]
  rfl
theorem cut_ints (ns : List Int) (lo hi : Option Int) : ∃ ms : List Int, cutV (ns.map V.int) lo hi = ms.map V.int ∧ ms.length ≤ ns.length := by
  unfold cutV
  rw [← List.map_drop, ← List.map_take]
  refine ⟨_, rfl, ?_⟩
  rw [List.length_take, List.length_drop]
  omega

def spLaw (K : PySem.W.Frag) : Sp := fun vs H Q _ => ∃ (a : Addr) (ns : List Int), vs = [.ref a] ∧ SqL K H a (ns.map V.int) ∧ ns.length ≤ 63 ∧ ∀ H', Q (.bl true) H'
/-- an object of the base that is not the board's changes -/
theorem Bp.mut {CB CM p q : Addr} {Hb H : Hp} {A : Ad} {ts ls : List V} {x : Bd} (h : Bp CB CM Hb H p A ts ls x) {o o0 : HO} (hq : Hb q = some o0) (nt : ∀ xs, o0 ≠ .tup xs) : Bp CB CM (upd Hb q o) (upd H q o) p A ts ls x := by
  have qp : q ≠ p := ne_of_none hq h.fp
  have qr : q ≠ A.r := ne_of_none hq h.fr
  have qw : q ≠ A.w := ne_of_none hq h.fw
  have qt : q ≠ A.t := ne_of_none hq h.ft
  have nm : q ≠ A.m := ne_of_none hq h.fm
  have ns : q ≠ A.s := ne_of_none hq h.fs
  have nl : q ≠ A.l := ne_of_none hq h.fl
  have hH := h.sm _ _ hq
  have tk : ∀ t xs, H t = some (.tup xs) → upd H q o t = some (.tup xs) := fun t xs e => by
    rw [upd_ne (fun z => by rw [z, hH] at e; exact nt xs (Option.some.inj e))]
    exact e
  obtain ⟨sv, tv, dv, hp, hz⟩ := h.hp
  exact {
    sm := fun b y e => by
      by_cases z : b = q
      · subst z
        rw [upd_same] at e ⊢
        exact e
      · rw [upd_ne z] at e ⊢
        exact h.sm _ _ e
    fp := by rw [upd_ne qp.symm]; exact h.fp
    fr := by rw [upd_ne qr.symm]; exact h.fr
    fw := by rw [upd_ne qw.symm]; exact h.fw
    ft := by rw [upd_ne qt.symm]; exact h.ft
    fm := by rw [upd_ne nm.symm]; exact h.fm
    fs := by rw [upd_ne ns.symm]; exact h.fs
    fl := by rw [upd_ne nl.symm]; exact h.fl
    hp := ⟨sv, tv, dv, by rw [upd_ne qp.symm]; exact hp, hz.mono tk⟩
    hr := by rw [upd_ne qr.symm]; exact h.hr
    hm := by rw [upd_ne nm.symm]; exact h.hm
    hw := by rw [upd_ne qw.symm]; exact h.hw
    hs := by rw [upd_ne ns.symm]; exact h.hs
    ht := by rw [upd_ne qt.symm]; exact h.ht
    hl := by rw [upd_ne nl.symm]; exact h.hl
    pm := h.pm
    rs := h.rs
    wt := h.wt
    wl := h.wl
    tl := h.tl
    us := h.us.mono tk
    ll := h.ll.mono tk
    lm := h.lm }
theorem sqL_upd {K : PySem.W.Frag} {H : Hp} {a q : Addr} {xs : List V} {o o0 : HO} (h : SqL K H a xs) (hq : H q = some o0) (n1 : ∀ xs, o0 ≠ .lst xs) (n2 : ∀ o xs, o0 ≠ .frz o (.lst xs)) : SqL K (upd H q o) a xs := by
  rcases h with (e | ⟨od, e⟩) | h
  · exact .inl (.inl (by rw [upd_ne (fun z => by rw [z, hq] at e; exact n1 _ (Option.some.inj e))]; exact e))
  · exact .inl (.inr ⟨od, by rw [upd_ne (fun z => by rw [z, hq] at e; exact n2 _ _ (Option.some.inj e))]; exact e⟩)
  · exact .inr h
theorem take_snoc {F : List Int} {j : Nat} {v : Int} (h : F[j]? = some v) : (F.take (j + 1)).map V.int = (F.take j).map V.int ++ [.int v] := by
  rw [List.take_succ, h, List.map_append]
  rfl
theorem getI {L : List Int} {j : Nat} {v : V} (h : (L.map V.int)[j]? = some v) : ∃ a, L[j]? = some a ∧ v = .int a := by
  rw [List.getElem?_map] at h
  cases e : L[j]? with
  | none => rw [e] at h; cases h
  | some a => rw [e] at h; exact ⟨a, rfl, (Option.some.inj h).symm⟩
end Bh

/-! Calls within calls: the way of a board through them. -/
namespace Bh
open PySem PySem.Spec PyProof.Rows L2
def stq (s : Int) (k : Nat) : Int := 10 + s * (k : Int)
theorem stq_lo {s : Int} (s0 : 0 ≤ s) (k : Nat) : 10 ≤ stq s k := by
  unfold stq
  have := Int.mul_nonneg s0 (Int.natCast_nonneg k)
  omega
theorem stq_hi {s : Int} (s0 : 0 ≤ s) (s1 : s ≤ 47) {k : Nat} (hk : k ≤ 7) : stq s k ≤ 339 := by
  unfold stq
  have h : s * (k : Int) ≤ 47 * 7 := Int.mul_le_mul s1 (by omega) (Int.natCast_nonneg k) (by decide)
  omega
theorem stq_add (s : Int) (k : Nat) : stq s (k + 1) = stq s k + s := by
  unfold stq
  have : s * ((k + 1 : Nat) : Int) = s * (k : Int) + s := by
    rw [Int.natCast_add, Int.mul_add]
    show s * (k : Int) + s * 1 = _
    rw [Int.mul_one]
  rw [this]
  omega
structure Prog (m : List Int) (N : Nat) (s : Int) (c : Nat → Nat) : Prop where
  l : m.length = 774
  top : rd m 769 = 0
  fl : rd m 770 = 0
  msk : rd m 771 = 0
  slp : rd m 1 = 1024 * 19 + 0
  p2 : 0 ≤ rd m 2
  w1 : ∀ k, k < N → rd m (stq s k) = 1024 * 1 + (100 + (k : Int))
  w2 : ∀ k, k < N → rd m (stq s k + 1) = 1024 * 17 + 0
  w3 : ∀ k, k < N → ∀ j : Nat, j < c k → rd m (stq s k + 2 + (j : Int)) = 1024 * 15 + stq s (k + 1)
  w4 : ∀ k, k < N → rd m (stq s k + 2 + (c k : Int)) = 1024 * 1 + 7
  w5 : ∀ k, k < N → rd m (stq s k + 3 + (c k : Int)) = 1024 * 18 + 0
  w6 : ∀ k, k < N → rd m (stq s k + 4 + (c k : Int)) = 1024 * 16 + 0
theorem Prog.st {m : List Int} {N : Nat} {s : Int} {c : Nat → Nat} (h : Prog m N s c) (s0 : 0 ≤ s) (s1 : s ≤ 47) (N8 : N ≤ 8) (c2 : ∀ k, c k ≤ 2) {i v : Int} (i0 : 512 ≤ i) (i1 : i < 768) : Prog (stM m i v) N s c where
  l := by rw [stM_len]; exact h.l
  top := by rw [rd_stM_ne (by omega) (by decide) (by omega)]; exact h.top
  fl := by rw [rd_stM_ne (by omega) (by decide) (by omega)]; exact h.fl
  msk := by rw [rd_stM_ne (by omega) (by decide) (by omega)]; exact h.msk
  slp := by rw [rd_stM_ne (by omega) (by decide) (by omega)]; exact h.slp
  p2 := by rw [rd_stM_ne (by omega) (by decide) (by omega)]; exact h.p2
  w1 := fun k hk => by
    have a := stq_lo s0 k; have b := stq_hi s0 s1 (k := k) (by omega)
    rw [rd_stM_ne (by omega) (by omega) (by omega)]; exact h.w1 k hk
  w2 := fun k hk => by
    have a := stq_lo s0 k; have b := stq_hi s0 s1 (k := k) (by omega)
    rw [rd_stM_ne (by omega) (by omega) (by omega)]; exact h.w2 k hk
  w3 := fun k hk j hj => by
    have a := stq_lo s0 k; have b := stq_hi s0 s1 (k := k) (by omega); have e := c2 k
    rw [rd_stM_ne (by omega) (by omega) (by omega)]; exact h.w3 k hk j hj
  w4 := fun k hk => by
    have a := stq_lo s0 k; have b := stq_hi s0 s1 (k := k) (by omega); have e := c2 k
    rw [rd_stM_ne (by omega) (by omega) (by omega)]; exact h.w4 k hk
  w5 := fun k hk => by
    have a := stq_lo s0 k; have b := stq_hi s0 s1 (k := k) (by omega); have e := c2 k
    rw [rd_stM_ne (by omega) (by omega) (by omega)]; exact h.w5 k hk
  w6 := fun k hk => by
    have a := stq_lo s0 k; have b := stq_hi s0 s1 (k := k) (by omega); have e := c2 k
    rw [rd_stM_ne (by omega) (by omega) (by omega)]; exact h.w6 k hk
abbrev Tr := Int × Int × Int
def loopM (g : Nat → List Tr) : Nat → List Tr
  | 0 => []
  | n + 1 => loopM g n ++ g n
def pathM (s : Int) (c : Nat → Nat) : Nat → Nat → Int → Int → List Tr
  | 0, _, _, _ => []
  | f + 1, k, sp, bh => [(stq s k + 1, sp, 100 + (k : Int)), (stq s k + 2, sp - 1, 100 + (k : Int))] ++ loopM (fun j => (stq s (k + 1), sp - 2, if 0 < j then 100 + (k : Int) + 1 else 100 + (k : Int)) :: pathM s c f (k + 1) (sp - 2) (stq s k + 3 + (j : Int))) (c k) ++ [(stq s k + 2 + (c k : Int) + 1, sp - 1, 7), (stq s k + 2 + (c k : Int) + 2, sp, 100 + (k : Int))] ++ [(bh, sp + 1, 100 + (k : Int))]
def Along : List Tr → Bd → Bd → Prop
  | [], x, y => x = y
  | t :: r, x, y => ∃ x', turnM x = (("deed" : Str), x') ∧ x'.pc = t.1 ∧ x'.sp = t.2.1 ∧ x'.a = t.2.2 ∧ PcOk x ∧ x.sent.length ≤ 5 ∧ Along r x' y
theorem Along.app : ∀ {l1 l2 : List Tr} {x y w : Bd}, Along l1 x y → Along l2 y w → Along (l1 ++ l2) x w
  | [], _, _, _, _, h1, h2 => by
    have e : _ = _ := h1
    subst e
    exact h2
  | _ :: _, _, _, _, _, ⟨x', a, b, c, d, e, f, g⟩, h2 => ⟨x', a, b, c, d, e, f, Along.app g h2⟩
theorem al {a pc sp bt a' pc' sp' bt' p q v : Int} {z z' : Bool} {m m' : List Int} {r : List Tr} {w : Bd} (h : turnM (S a 0 pc sp z bt m) = (("deed" : Str), S a' 0 pc' sp' z' bt' m')) (hw : 0 ≤ rd m pc) (e1 : pc' = p) (e2 : sp' = q) (e3 : a' = v) (A : Along r (S v 0 p q z' bt' m') w) : Along ((p, q, v) :: r) (S a 0 pc sp z bt m) w := by
  subst e1
  subst e2
  subst e3
  exact ⟨_, h, rfl, rfl, rfl, fun _ _ => hw, Nat.zero_le _, A⟩
theorem run12 {N : Nat} {s : Int} {c : Nat → Nat} (s0 : 0 ≤ s) (s1 : s ≤ 47) (N8 : N ≤ 8) (c2 : ∀ k, c k ≤ 2) (cl : ∀ k, N ≤ k + 1 → c k = 0) : ∀ (f k : Nat) (a sp bh bt : Int) (z : Bool) (m : List Int), k + f + 1 = N → Prog m N s c → 600 + 2 * (f : Int) ≤ sp → sp ≤ 766 → rd m (sp + 1) = bh → 0 ≤ bh → bh < 768 →
    ∃ z' bt' m', Along (pathM s c (f + 1) k sp bh) (S a 0 (stq s k) sp z bt m) (S (100 + (k : Int)) 0 bh (sp + 1) z' bt' m') ∧ Prog m' N s c ∧ (∀ j, sp + 1 ≤ j → rd m' j = rd m j) ∧ rd m' sp = 100 + (k : Int) := by
  intro f
  induction f using Nat.strongRecOn with
  | ind f ih =>
    intro k a sp bh bt z m hk P h0 h1 hb b0 b1
    have q0 := stq_lo s0 k
    have q1 := stq_hi s0 s1 (k := k) (by omega)
    have hkN : k < N := by omega
    have W1 := P.w1 k hkN
    have W2 := P.w2 k hkN
    have hc := c2 k
    have P1 : Prog (stM m sp (100 + (k : Int))) N s c := P.st s0 s1 N8 c2 (by omega) (by omega)
    have A1 : Along [(stq s k + 1, sp, 100 + (k : Int)), (stq s k + 2, sp - 1, 100 + (k : Int))] (S a 0 (stq s k) sp z bt m) (S (100 + (k : Int)) 0 (stq s k + 2) (sp - 1) (decide (100 + (k : Int) = 0)) (bt + 1 + 2) (stM m sp (100 + (k : Int)))) :=
      al (r_lit (b := 0) (by omega) (by omega) P.top (by omega) (by omega) W1) (by rw [W1]; omega) rfl rfl rfl
        (al (r_push (b := 0) (by omega) (by omega) P.top (by omega) (by omega) (by omega) (by omega) W2) (by rw [W2]; omega) (by omega) rfl rfl rfl)
    have A2 : ∀ n, n ≤ c k → ∃ z' bt' m', Along (loopM (fun j => (stq s (k + 1), sp - 2, if 0 < j then 100 + (k : Int) + 1 else 100 + (k : Int)) :: pathM s c f (k + 1) (sp - 2) (stq s k + 3 + (j : Int))) n) (S (100 + (k : Int)) 0 (stq s k + 2) (sp - 1) (decide (100 + (k : Int) = 0)) (bt + 1 + 2) (stM m sp (100 + (k : Int))))
        (S (if 0 < n then 100 + (k : Int) + 1 else 100 + (k : Int)) 0 (stq s k + 2 + (n : Int)) (sp - 1) z' bt' m') ∧ Prog m' N s c ∧ ∀ j, sp ≤ j → rd m' j = rd (stM m sp (100 + (k : Int))) j := by
      intro n
      induction n with
      | zero =>
        intro _
        refine ⟨decide (100 + (k : Int) = 0), bt + 1 + 2, stM m sp (100 + (k : Int)), ?_, P1, fun _ _ => rfl⟩
        have e : stq s k + 2 + ((0 : Nat) : Int) = stq s k + 2 := by omega
        rw [e]
        exact rfl
      | succ n ihn =>
        intro hn
        obtain ⟨z1, bt1, m1, B1, Q1, F1⟩ := ihn (by omega)
        have f1 : 1 ≤ f := by
          by_cases y : f = 0
          · have := cl k (by omega)
            omega
          · omega
        obtain ⟨f', rfl⟩ : ∃ f', f = f' + 1 := ⟨f - 1, by omega⟩
        have u0 := stq_lo s0 (k + 1)
        have u1 := stq_hi s0 s1 (k := k + 1) (by omega)
        have W3 := Q1.w3 k hkN n (by omega)
        have Q2 : Prog (stM m1 (sp - 1) (stq s k + 3 + (n : Int))) N s c := Q1.st s0 s1 N8 c2 (by omega) (by omega)
        have e1 : stq s k + 2 + (n : Int) + 1 = stq s k + 3 + (n : Int) := by omega
        have T := r_call (a := if 0 < n then 100 + (k : Int) + 1 else 100 + (k : Int)) (b := 0) (z := z1) (bt := bt1) (pc := stq s k + 2 + (n : Int)) (sp := sp - 1) (m := m1) (n := stq s (k + 1)) (by omega) (by omega) Q1.top (by omega) (by omega) (by omega) (by omega) W3
        rw [e1] at T
        obtain ⟨z2, bt2, m2, B2, Q3, F2, _⟩ := ih f' (by omega) (k + 1) (if 0 < n then 100 + (k : Int) + 1 else 100 + (k : Int)) (sp - 2) (stq s k + 3 + (n : Int)) (bt1 + 2) z1 (stM m1 (sp - 1) (stq s k + 3 + (n : Int))) (by omega) Q2 (by omega) (by omega) (by
          rw [show sp - 2 + 1 = sp - 1 by omega]
          exact rd_stM_same (by omega) (by rw [Q1.l]; omega)) (by omega) (by omega)
        refine ⟨z2, bt2, m2, Along.app B1 (al T (by rw [W3]; omega) rfl (by omega) rfl ?_), Q3, fun j hj => ?_⟩
        · have e2 : (100 + ((k + 1 : Nat) : Int)) = (if 0 < n + 1 then 100 + (k : Int) + 1 else 100 + (k : Int)) := by
            rw [if_pos (by omega)]
            omega
          have e3 : stq s k + 3 + (n : Int) = stq s k + 2 + ((n + 1 : Nat) : Int) := by omega
          have e4 : sp - 2 + 1 = sp - 1 := by omega
          rw [e2, e4] at B2
          have B2' : Along (pathM s c (f' + 1) (k + 1) (sp - 2) (stq s k + 3 + (n : Int))) (S (if 0 < n then 100 + (k : Int) + 1 else 100 + (k : Int)) 0 (stq s (k + 1)) (sp - 2) z1 (bt1 + 2) (stM m1 (sp - 1) (stq s k + 3 + (n : Int)))) (S (if 0 < n + 1 then 100 + (k : Int) + 1 else 100 + (k : Int)) 0 (stq s k + 2 + ((n + 1 : Nat) : Int)) (sp - 1) z2 bt2 m2) := e3 ▸ B2
          exact B2'
        · rw [F2 j (by omega), rd_stM_ne (by omega) (by omega) (by omega)]
          exact F1 j hj
    obtain ⟨z3, bt3, m3, A3, P3, F3⟩ := A2 (c k) (Nat.le_refl _)
    have W4 := P3.w4 k hkN
    have W5 := P3.w5 k hkN
    have W6 := P3.w6 k hkN
    have rsp : rd m3 sp = 100 + (k : Int) := by
      rw [F3 sp (by omega)]
      exact rd_stM_same (by omega) (by rw [P.l]; omega)
    have rsp1 : rd m3 (sp + 1) = bh := by
      rw [F3 (sp + 1) (by omega), rd_stM_ne (by omega) (by omega) (by omega)]
      exact hb
    have T5 := r_pop (a := 7) (b := 0) (z := decide ((7 : Int) = 0)) (bt := bt3 + 1) (pc := stq s k + 2 + (c k : Int) + 1) (sp := sp - 1) (m := m3) (n := 0) (by omega) (by omega) P3.top (by omega) (by omega) (by omega) (by omega) (by rw [show stq s k + 2 + (c k : Int) + 1 = stq s k + 3 + (c k : Int) by omega]; exact W5)
    rw [show sp - 1 + 1 = sp by omega, rsp] at T5
    have T6 := r_ret (a := 100 + (k : Int)) (b := 0) (z := decide (100 + (k : Int) = 0)) (bt := bt3 + 1 + 2) (pc := stq s k + 2 + (c k : Int) + 2) (sp := sp) (m := m3) (n := 0) (by omega) (by omega) P3.top (by omega) (by omega) (by omega) (by omega) (by rw [show stq s k + 2 + (c k : Int) + 2 = stq s k + 4 + (c k : Int) by omega]; exact W6)
    rw [rsp1] at T6
    have A4 : Along [(stq s k + 2 + (c k : Int) + 1, sp - 1, 7), (stq s k + 2 + (c k : Int) + 2, sp, 100 + (k : Int))] (S (if 0 < c k then 100 + (k : Int) + 1 else 100 + (k : Int)) 0 (stq s k + 2 + (c k : Int)) (sp - 1) z3 bt3 m3) (S (100 + (k : Int)) 0 (stq s k + 2 + (c k : Int) + 2) sp (decide (100 + (k : Int) = 0)) (bt3 + 1 + 2) m3) :=
      al (r_lit (b := 0) (by omega) (by omega) P3.top (by omega) (by omega) W4) (by rw [W4]; omega) rfl rfl rfl
        (al T5 (by rw [show stq s k + 2 + (c k : Int) + 1 = stq s k + 3 + (c k : Int) by omega, W5]; omega) (by omega) rfl rfl rfl)
    have A5 : Along [(bh, sp + 1, 100 + (k : Int))] (S (100 + (k : Int)) 0 (stq s k + 2 + (c k : Int) + 2) sp (decide (100 + (k : Int) = 0)) (bt3 + 1 + 2) m3) (S (100 + (k : Int)) 0 bh (sp + 1) (decide (100 + (k : Int) = 0)) (bt3 + 1 + 2 + 2) m3) :=
      al T6 (by rw [show stq s k + 2 + (c k : Int) + 2 = stq s k + 4 + (c k : Int) by omega, W6]; omega) rfl rfl rfl rfl
    refine ⟨decide (100 + (k : Int) = 0), bt3 + 1 + 2 + 2, m3, ?_, P3, fun j hj => ?_, rsp⟩
    · exact Along.app (Along.app (Along.app A1 A3) A4) A5
    · rw [F3 j (by omega), rd_stM_ne (by omega) (by omega) (by omega)]
theorem r_sleep {a b pc sp bt n : Int} {z : Bool} {m : List Int} (p0 : 0 ≤ pc) (p1 : pc < 768) (top : rd m 769 = 0) (n0 : 0 ≤ n) (n1 : n < 1024) (W : rd m pc = 1024 * 19 + n) : turnM (S a b pc sp z bt m) = (("deed" : Str), { S a b (pc + 1) sp z (bt + 1) m with asleep := true }) :=
  fin_of (turn_deed (calm_S p0 p1) (op := 19) W n0 n1 (by decide) (by decide) rfl) rfl top
theorem r_asleep {a b pc sp bt : Int} {z : Bool} {m : List Int} (f : rd m 770 = 0) (k : rd m 771 = 0) : ∃ y, turnM { S a b pc sp z bt m with asleep := true } = (("asleep" : Str), y) ∧ y.sp = sp := by
  refine ⟨passM 1 { S a b pc sp z bt m with asleep := true }, ?_, ?_⟩
  · unfold turnM
    rw [if_neg (fun h => h rfl), if_pos]
    refine ⟨rfl, ?_⟩
    show Builtin.bitAnd (rd m 770) (rd m 771) = 0
    rw [f, k]
    decide
  · rw [pass_nil 1 _ rfl]
    rfl
end Bh

/-! Calls within calls: the law's image. -/
namespace Bh
open PySem PySem.Spec PyProof.Rows L2
theorem joinA {Goal : Prop} {I : Hp → Addr → Prop} (R : Hp → Addr → Prop) (body : (∀ G' a, I G' a → R G' a) → Goal) (key : ∀ G' a, I G' a → R G' a) : Goal := body key
theorem atB {ds : List Int} {lo hi : Int} (hd : ∀ d ∈ ds, lo ≤ d ∧ d ≤ hi) {j : Int} (h0 : 0 ≤ j) (h1 : j < ds.length) : ∃ d, atI (ds.map V.int) j = some (.int d) ∧ lo ≤ d ∧ d ≤ hi := by
  have hj : j.toNat < ds.length := by omega
  refine ⟨rd ds j, atI_rd h0 h1, ?_⟩
  unfold rd
  rw [List.getD_eq_getElem?_getD, List.getElem?_eq_getElem hj]
  exact hd _ (List.getElem_mem hj)
theorem flat_rep' (n : Nat) (v : Int) : (List.replicate n [V.int v]).flatten = (List.replicate n v).map V.int := by
  induction n with
  | zero => rfl
  | succ n ih => rw [List.replicate_succ, List.flatten_cons, ih, List.replicate_succ, List.map_cons]; rfl

theorem wok_app {a b : List Int} (h1 : WordsOk a) (h2 : WordsOk b) : WordsOk (a ++ b) := fun z hz => by
  rcases List.mem_append.mp hz with h | h
  · exact h1 z h
  · exact h2 z h
def cOf (N : Nat) (ds : List Int) (k : Nat) : Nat := if N ≤ k + 1 then 0 else if 5 < N then 1 else (rd ds (2 + (k : Int)) % 2 + 1).toNat
theorem cOf2 (N : Nat) (ds : List Int) (k : Nat) : cOf N ds k ≤ 2 := by
  unfold cOf
  split
  · omega
  · split <;> omega
def dsq (s : Int) (N : Nat) (c : Nat → Nat) (k : Nat) : List Int := [1024 * 1 + 100 + (k : Int), 1024 * 17] ++ List.replicate (c k) (1024 * 15 + stq s (min (k + 1) (N - 1))) ++ [1024 * 1 + 7, 1024 * 18, 1024 * 16]
theorem dsq_len (s : Int) (N : Nat) (c : Nat → Nat) (k : Nat) : (dsq s N c k).length = 5 + c k := by
  unfold dsq
  rw [List.length_append, List.length_append, List.length_replicate]
  show 2 + c k + 3 = _
  omega
theorem dsq_ok {s : Int} {N : Nat} {c : Nat → Nat} {k : Nat} (s0 : 0 ≤ s) (s1 : s ≤ 47) (N1 : 1 ≤ N) (N8 : N ≤ 8) (hk : k < N) : WordsOk (dsq s N c k) := fun z hz => by
  have a := stq_lo s0 (min (k + 1) (N - 1))
  have b := stq_hi s0 s1 (k := min (k + 1) (N - 1)) (by omega)
  unfold dsq at hz
  rcases List.mem_append.mp hz with h | h
  · rcases List.mem_append.mp h with h | h
    · simp only [List.mem_cons, List.not_mem_nil, or_false] at h
      omega
    · rw [(List.mem_replicate.mp h).2]
      omega
  · simp only [List.mem_cons, List.not_mem_nil, or_false] at h
    omega
/-- level k stands in the image -/
def Lev (s : Int) (N : Nat) (c : Nat → Nat) (img : List Int) (k : Nat) : Prop := ∀ j : Nat, j < 5 + c k → rd img (stq s k + (j : Int)) = rd (dsq s N c k) (j : Int)
structure ImgOk (img : List Int) (N : Nat) (s : Int) (c : Nat → Nat) : Prop where
  n1 : 1 ≤ N
  n8 : N ≤ 8
  s0 : 8 ≤ s
  s1 : s ≤ 47
  c2 : ∀ k, c k ≤ 2
  cl : ∀ k, N ≤ k + 1 → c k = 0
  len : (img.length : Int) = stq s (N - 1) + 8
  wok : WordsOk img
  i0 : rd img 0 = 1024 * 15 + stq s 0
  i1 : rd img 1 = 1024 * 19
  lev : ∀ k, k < N → Lev s N c img k
theorem lev_w {s : Int} {N : Nat} {c : Nat → Nat} {img : List Int} {k : Nat} (h : Lev s N c img k) : rd img (stq s k) = 1024 * 1 + (100 + (k : Int)) ∧ rd img (stq s k + 1) = 1024 * 17 + 0 ∧ (∀ j : Nat, j < c k → rd img (stq s k + 2 + (j : Int)) = 1024 * 15 + stq s (min (k + 1) (N - 1))) ∧ rd img (stq s k + 2 + (c k : Int)) = 1024 * 1 + 7 ∧ rd img (stq s k + 3 + (c k : Int)) = 1024 * 18 + 0 ∧ rd img (stq s k + 4 + (c k : Int)) = 1024 * 16 + 0 := by
  have rn : ∀ (l : List Int) (j : Nat), rd l (j : Int) = l.getD j 0 := fun l j => rfl
  have e2 : ∀ j : Nat, j < c k → rd (dsq s N c k) ((2 + j : Nat) : Int) = 1024 * 15 + stq s (min (k + 1) (N - 1)) := fun j hj => by
    rw [rn]
    unfold dsq
    rw [List.getD_eq_getElem?_getD, List.getElem?_append_left (by rw [List.length_append, List.length_replicate]; show 2 + j < 2 + c k; omega), List.getElem?_append_right (by show 2 ≤ 2 + j; omega)]
    rw [show 2 + j - ([1024 * 1 + 100 + (k : Int), 1024 * 17] : List Int).length = j by show 2 + j - 2 = j; omega, List.getElem?_replicate, if_pos hj]
    rfl
  have e3 : ∀ i : Nat, rd (dsq s N c k) ((2 + c k + i : Nat) : Int) = ([1024 * 1 + 7, 1024 * 18, 1024 * 16] : List Int).getD i 0 := fun i => by
    rw [rn]
    unfold dsq
    have hl : ([1024 * 1 + 100 + (k : Int), 1024 * 17] ++ List.replicate (c k) (1024 * 15 + stq s (min (k + 1) (N - 1)))).length = 2 + c k := by rw [List.length_append, List.length_replicate]; rfl
    rw [List.getD_eq_getElem?_getD, List.getElem?_append_right (by rw [hl]; omega), hl, show 2 + c k + i - (2 + c k) = i by omega, ← List.getD_eq_getElem?_getD]
  refine ⟨?_, ?_, fun j hj => ?_, ?_, ?_, ?_⟩
  · have := h 0 (by omega)
    rw [show stq s k + ((0 : Nat) : Int) = stq s k by omega] at this
    rw [this]
    show 1024 * 1 + 100 + (k : Int) = _
    omega
  · have := h 1 (by omega)
    rw [show stq s k + ((1 : Nat) : Int) = stq s k + 1 by omega] at this
    rw [this]
    rfl
  · have := h (2 + j) (by omega)
    rw [e2 j hj] at this
    rw [← this]
    congr 1
    omega
  · have := h (2 + c k + 0) (by omega)
    rw [e3 0] at this
    rw [show stq s k + 2 + (c k : Int) = stq s k + ((2 + c k + 0 : Nat) : Int) by omega, this]
    rfl
  · have := h (2 + c k + 1) (by omega)
    rw [e3 1] at this
    rw [show stq s k + 3 + (c k : Int) = stq s k + ((2 + c k + 1 : Nat) : Int) by omega, this]
    rfl
  · have := h (2 + c k + 2) (by omega)
    rw [e3 2] at this
    rw [show stq s k + 4 + (c k : Int) = stq s k + ((2 + c k + 2 : Nat) : Int) by omega, this]
    rfl
theorem ImgOk.le {img : List Int} {N : Nat} {s : Int} {c : Nat → Nat} (h : ImgOk img N s c) : img.length ≤ 347 := by
  have := stq_hi (by have := h.s0; omega) h.s1 (k := N - 1) (by have := h.n8; omega)
  have := h.len
  omega
theorem rd_mem {img : List Int} (hl : img.length ≤ 512) {j : Int} (h0 : 0 ≤ j) (h1 : j < img.length) : rd (memOf img) j = rd img j := by
  obtain ⟨n, rfl⟩ : ∃ n : Nat, j = (n : Int) := ⟨j.toNat, by omega⟩
  exact memOf_rd hl (by omega)
theorem ImgOk.prog {img : List Int} {N : Nat} {s : Int} {c : Nat → Nat} (h : ImgOk img N s c) : Prog (memOf img) N s c := by
  have hl := h.le
  have s0 := h.s0
  have hn := h.n1
  have n8 := h.n8
  have low : ∀ k, k < N → stq s k + 8 ≤ img.length ∧ 10 ≤ stq s k := fun k hk => by
    have e := h.len
    have q := stq_lo (by omega) k (s := s)
    refine ⟨?_, q⟩
    have m : s * (k : Int) ≤ s * ((N - 1 : Nat) : Int) := Int.mul_le_mul_of_nonneg_left (by omega) (by omega)
    unfold stq at e ⊢
    omega
  have w := fun k hk => lev_w (h.lev k hk)
  have g : ∀ k, k < N → ∀ j : Int, 0 ≤ j → j < 8 → rd (memOf img) (stq s k + j) = rd img (stq s k + j) := fun k hk j h0 h1 => by
    obtain ⟨a, b⟩ := low k hk
    exact rd_mem (by omega) (by omega) (by omega)
  exact {
    l := by
      unfold memOf
      rw [List.length_append, List.length_append, List.length_replicate, List.length_replicate]
      omega
    top := by
      have := memOf_ram (ns := img) (by omega) (j := 769) (by decide) (by decide)
      exact this
    fl := by
      have := memOf_ram (ns := img) (by omega) (j := 770) (by decide) (by decide)
      exact this
    msk := by
      have := memOf_ram (ns := img) (by omega) (j := 771) (by decide) (by decide)
      exact this
    slp := by
      obtain ⟨a, b⟩ := low 0 (by omega)
      rw [rd_mem (by omega) (by decide) (by omega)]
      exact h.i1
    p2 := by
      obtain ⟨a, b⟩ := low 0 (by omega)
      rw [rd_mem (by omega) (by decide) (by omega)]
      have hv : (2 : Int).toNat < img.length := by show 2 < img.length; omega
      unfold rd
      rw [List.getD_eq_getElem?_getD, List.getElem?_eq_getElem hv]
      exact (h.wok _ (List.getElem_mem hv)).1
    w1 := fun k hk => by have := g k hk 0 (by decide) (by decide); rw [Int.add_zero] at this; rw [this]; exact (w k hk).1
    w2 := fun k hk => by rw [g k hk 1 (by decide) (by decide)]; exact (w k hk).2.1
    w3 := fun k hk j hj => by
      have z := h.c2 k
      have nl : ¬ N ≤ k + 1 := fun y => by have := h.cl k y; omega
      rw [show stq s k + 2 + (j : Int) = stq s k + (2 + (j : Int)) by omega, g k hk _ (by omega) (by omega), show stq s k + (2 + (j : Int)) = stq s k + 2 + (j : Int) by omega, (w k hk).2.2.1 j hj, show min (k + 1) (N - 1) = k + 1 by omega]
    w4 := fun k hk => by
      have z := h.c2 k
      rw [show stq s k + 2 + (c k : Int) = stq s k + (2 + (c k : Int)) by omega, g k hk _ (by omega) (by omega), show stq s k + (2 + (c k : Int)) = stq s k + 2 + (c k : Int) by omega]
      exact (w k hk).2.2.2.1
    w5 := fun k hk => by
      have z := h.c2 k
      rw [show stq s k + 3 + (c k : Int) = stq s k + (3 + (c k : Int)) by omega, g k hk _ (by omega) (by omega), show stq s k + (3 + (c k : Int)) = stq s k + 3 + (c k : Int) by omega]
      exact (w k hk).2.2.2.2.1
    w6 := fun k hk => by
      have z := h.c2 k
      rw [show stq s k + 4 + (c k : Int) = stq s k + (4 + (c k : Int)) by omega, g k hk _ (by omega) (by omega), show stq s k + (4 + (c k : Int)) = stq s k + 4 + (c k : Int) by omega]
      exact (w k hk).2.2.2.2.2 }
def stL (s : Int) (N : Nat) : List Int := (List.range N).map (stq s)
def cL (N : Nat) (c : Nat → Nat) : List Int := (List.range N).map fun k => (c k : Int)
theorem stL_at {s : Int} {N k : Nat} (h : k < N) : atI ((stL s N).map V.int) ((k : Nat) : Int) = some (.int (stq s k)) := atI_nat (by
  unfold stL
  rw [List.getElem?_map, List.getElem?_map, List.getElem?_range h]
  rfl)
theorem cL_at {N k : Nat} {c : Nat → Nat} (h : k < N) : atI ((cL N c).map V.int) ((k : Nat) : Int) = some (.int (c k : Int)) := atI_nat (by
  unfold cL
  rw [List.getElem?_map, List.getElem?_map, List.getElem?_range h]
  rfl)
theorem stL_last {s : Int} {N : Nat} (h : 1 ≤ N) : atI ((stL s N).map V.int) (-1) = some (.int (stq s (N - 1))) := by
  obtain ⟨k, rfl⟩ : ∃ k, N = k + 1 := ⟨N - 1, by omega⟩
  unfold stL
  rw [List.range_succ, List.map_append, List.map_append]
  exact atI_last _ _
def spNest : Sp := fun vs H Q _ => ∃ (r : Addr) (ds : List Int), vs = [.ref r] ∧ H r = some (.lst (ds.map V.int)) ∧ ds.length = 12 ∧ DigOk ds ∧
  ∀ (H' : Hp) (t im ls lc : Addr) (img : List Int) (N : Nat) (s : Int) (c : Nat → Nat), Same H H' → H' t = some (.tup [.ref im, .ref ls, .ref lc]) → H' im = some (.lst (img.map V.int)) → H' ls = some (.lst ((stL s N).map V.int)) → H' lc = some (.lst ((cL N c).map V.int)) → ImgOk img N s c → Q (.ref t) H'
section
variable {P : Program} {w : World} {K : PySem.W.Frag} {mg : Str → Option Value} {base : Heap} {CB CM : Addr}
structure PartI (img : List Int) (N : Nat) (s : Int) (c : Nat → Nat) (i : Nat) : Prop where
  len : (img.length : Int) = stq s (N - 1) + 8
  wok : WordsOk img
  i0 : rd img 0 = 1024 * 15 + stq s 0
  i1 : rd img 1 = 1024 * 19
  lev : ∀ k, k < i → Lev s N c img k
structure Fill (img img' : List Int) (at_ : Int) (ws : List Int) (j : Nat) : Prop where
  len : img'.length = img.length
  wok : WordsOk img'
  out : ∀ p : Int, 0 ≤ p → (p < at_ ∨ at_ + (j : Int) ≤ p) → rd img' p = rd img p
  ins : ∀ i : Nat, i < j → rd img' (at_ + (i : Int)) = rd ws (i : Int)
theorem Fill.step {img img' : List Int} {at_ : Int} {ws : List Int} {j : Nat} (h : Fill img img' at_ ws j) (a0 : 0 ≤ at_) (hw : 0 ≤ rd ws (j : Int) ∧ rd ws (j : Int) ≤ 65535) (hl : at_ + (j : Int) < img.length) : Fill img (stM img' (at_ + (j : Int)) (rd ws (j : Int))) at_ ws (j + 1) where
  len := by rw [stM_len]; exact h.len
  wok := fun z hz => by
    rcases List.mem_or_eq_of_mem_set hz with u | u
    · exact h.wok z u
    · rw [u]; exact hw
  out := fun p h0 h1 => by
    rw [rd_stM_ne (by omega) h0 (by omega)]
    exact h.out p h0 (by omega)
  ins := fun i hi => by
    by_cases y : i = j
    · subst y
      exact rd_stM_same (by omega) (by rw [h.len]; omega)
    · rw [rd_stM_ne (by omega) (by omega) (by omega)]
      exact h.ins i (by omega)
theorem lev_far {s : Int} (s8 : 8 ≤ s) {k' k : Nat} (h : k' < k) : stq s k' + 8 ≤ stq s k := by
  have m : s * ((k' + 1 : Nat) : Int) ≤ s * (k : Int) := Int.mul_le_mul_of_nonneg_left (by omega) (by omega)
  have e := stq_add s k'
  unfold stq at *
  omega
theorem PartI.step {img img' : List Int} {N : Nat} {s : Int} {c : Nat → Nat} {i : Nat} (h : PartI img N s c i) (s8 : 8 ≤ s) (c2 : ∀ k, c k ≤ 2) (f : Fill img img' (stq s i) (dsq s N c i) (5 + c i)) : PartI img' N s c (i + 1) where
  len := by rw [f.len]; exact h.len
  wok := f.wok
  i0 := by
    have := stq_lo (by omega) i (s := s)
    rw [f.out 0 (by decide) (by omega)]; exact h.i0
  i1 := by
    have := stq_lo (by omega) i (s := s)
    rw [f.out 1 (by decide) (by omega)]; exact h.i1
  lev := fun k hk j hj => by
    by_cases y : k = i
    · subst y
      exact f.ins j hj
    · have a := lev_far s8 (show k < i by omega)
      have b := stq_lo (by omega) k (s := s)
      have e := c2 k
      rw [f.out _ (by omega) (by omega)]
      exact h.lev k (by omega) j hj
theorem cL_lo {N : Nat} {ds : List Int} (h1 : 1 ≤ N) (h5 : ¬ 5 < N) (hd : ∀ k : Nat, k < N → 0 ≤ rd ds (2 + (k : Int))) : (List.range (N - 1)).map (fun k : Nat => rd ds (2 + (k : Int)) % 2 + 1) ++ [0] = cL N (cOf N ds) := by
  obtain ⟨n, rfl⟩ : ∃ n, N = n + 1 := ⟨N - 1, by omega⟩
  unfold cL
  rw [List.range_succ, List.map_append]
  have e1 : [(0 : Int)] = List.map (fun k => (cOf (n + 1) ds k : Int)) [n] := by
    show [(0 : Int)] = [(cOf (n + 1) ds n : Int)]
    unfold cOf
    rw [if_pos (by omega)]
    rfl
  rw [e1]
  congr 1
  refine List.map_congr_left fun k hk => ?_
  have hk : k < n := List.mem_range.mp hk
  have := hd k (by omega)
  unfold cOf
  rw [if_neg (by omega), if_neg h5]
  omega
theorem cL_hi {N : Nat} {ds : List Int} (h5 : 5 < N) : List.replicate (N - 1) (1 : Int) ++ [0] = cL N (cOf N ds) := by
  obtain ⟨n, rfl⟩ : ∃ n, N = n + 1 := ⟨N - 1, by omega⟩
  unfold cL
  rw [List.range_succ, List.map_append]
  have e1 : [(0 : Int)] = List.map (fun k => (cOf (n + 1) ds k : Int)) [n] := by
    show [(0 : Int)] = [(cOf (n + 1) ds n : Int)]
    unfold cOf
    rw [if_pos (by omega)]
    rfl
  rw [e1]
  congr 1
  refine List.ext_getElem ?_ fun k a b => ?_
  · rw [List.length_replicate, List.length_map, List.length_range]
    omega
  · rw [List.length_replicate] at a
    rw [List.getElem_replicate, List.getElem_map, List.getElem_range]
    unfold cOf
    rw [if_neg (by omega), if_pos h5]
    rfl
abbrev sLnest : Stmt := topS 68
def scLnestN : List Str := ["_law_row", "_law_many", "_law_step", "_law_starts", "_law_calls", "_law_image", "_law_k", "_law_deeds", "_law_j"]
theorem scLnest : FnScope scLnestN ["_law_row"] (defScope sLnest) := ⟨rfl, rfl, rfl, by decide +kernel, rfl, by decide +kernel, by decide +kernel⟩
theorem ok_Lnest {f : Addr} {fd : FuncData} (F : Fun K "_law_nest" "_law_nest" sLnest f fd) (T : Tx K mg CB CM)
    (z_min : mg "min" = none) : FnOk P w K mg base CX0 1 f fd ["_law_row"] (spNest) := by
  refine F.ok scLnest (fun vs H Q E h => by obtain ⟨_, _, rfl, _⟩ := h; rfl) (fun cdv A outer s H vs Q E hr h => ?_)
  have hu := hu_of hr
  have z_len := T.z_len
  have z_range := T.z_range
  obtain ⟨r, ds, rfl, hR, hlen, hdg, q⟩ := h
  have hR0 := hR
  refine ⟨_, (pss_cons (ps_set (i := 1) scLnest.nd rfl (.inl rfl) (pe_op op_add pe_int (pe_op op_mod (pe_ix ix_list (pv 0) pe_int (fun _ _ => rfl)) pe_int)))
    (pss_cons (ps_set (i := 2) scLnest.nd rfl (.inr rfl) (pe_op op_add pe_int (pe_op op_mod (pe_ix ix_list (pv 0) pe_int (fun _ _ => rfl)) pe_int)))
    (pss_cons (ps_setLc (i := 3) (own := [("_law_k", 6)]) (g := gName 6) (tt := tYes) (by rfl) scLnest.nd rfl rfl rfl (pi_range1 (by rfl) z_range (pa_cons (pv 1) pa_nil)) (blkOk_by (own := [("_law_k", 6)]) (N := scLnestN) (sc := defScope sLnest) (by decide +kernel)) (fun _ _ _ _ _ => (pg_name (i := 6) scLnest.nd rfl (.inl rfl))) (fun _ _ _ _ _ => pts_nil) (fun _ _ _ _ _ => (pe_op op_add pe_int (pe_op op_mul (pv 2) (pv 6)))))
    (pss_cons (ps_set (i := 4) scLnest.nd rfl (.inl rfl) (pe_op op_cat (pe_lc (own := [("_law_k", 6)]) (g := gName 6) (tt := tYes) (by rfl) scLnest.nd (pi_range1 (by rfl) z_range (pa_cons (pe_op op_sub (pv 1) pe_int) pa_nil)) (blkOk_by (own := [("_law_k", 6)]) (N := scLnestN) (sc := defScope sLnest) (by decide +kernel)) (fun _ _ _ _ _ => (pg_name (i := 6) scLnest.nd rfl (.inl rfl))) (fun _ _ _ _ _ => pts_nil) (fun _ _ _ _ _ => (pe_op op_add (pe_op op_mod (pe_ix (ix_listK (K := K)) (pv 0) (pe_op op_add pe_int (pv 6)) (fun _ _ => rfl)) pe_int) pe_int))) (pe_lst (pa_cons pe_int pa_nil))))
    (pss_cons (ps_if (pt_cmpR op_gt (pv 1) pe_int (nomark _)) (pss_one (ps_set (i := 4) scLnest.nd rfl (.inl rfl) (pe_op op_cat (pe_op op_rep (pe_lst (pa_cons pe_int pa_nil)) (pe_op op_sub (pv 1) pe_int)) (pe_lst (pa_cons pe_int pa_nil))))) pss_nil)
    (pss_cons (ps_set (i := 5) scLnest.nd rfl (.inl rfl) (pe_lst (pa_cons (pe_op op_add (pe_op op_mul pe_int pe_int) (pe_ix ix_list (pv 3) pe_int (fun _ _ => rfl))) (pa_cons (pe_op op_mul pe_int pe_int) pa_nil))))
    (pss_cons (ps_set (i := 5) scLnest.nd rfl (.inl rfl) (pe_op op_cat (pv 5) (pe_op op_rep (pe_lst (pa_cons pe_int pa_nil)) (pe_op op_sub (pe_op op_add (pe_ix ix_list (pv 3) (pe_un un_neg pe_int) (fun _ _ => rfl)) pe_int) (pe_callB call_len_seq (by rfl) z_len PySem.boot_len (pa_cons (pv 5) pa_nil))))))
    (pss_cons (ps_for PassesOwn.never rfl (pi_range1 (by rfl) z_range (pa_cons (pv 1) pa_nil)) (pg_name (i := 6) scLnest.nd rfl (.inl rfl))
      (pss_cons (ps_set (i := 7) scLnest.nd rfl (.inl rfl) (pe_op op_cat (pe_lst (pa_cons (pe_op op_add (pe_op op_add (pe_op op_mul pe_int pe_int) pe_int) (pv 6)) (pa_cons (pe_op op_mul pe_int pe_int) pa_nil))) (pe_op op_rep (pe_lst (pa_cons (pe_op op_add (pe_op op_mul pe_int pe_int) (pe_ix ix_list (pv 3) (pe_callB (call_min2 rfl) (by rfl) z_min (by decide +kernel) (pa_cons (pe_op op_add (pv 6) pe_int) (pa_cons (pe_op op_sub (pv 1) pe_int) pa_nil))) (fun _ _ => rfl))) pa_nil)) (pe_ix ix_list (pv 4) (pv 6) (fun _ _ => rfl)))))
    (pss_cons (ps_set (i := 7) scLnest.nd rfl (.inl rfl) (pe_op op_cat (pv 7) (pe_lst (pa_cons (pe_op op_add (pe_op op_mul pe_int pe_int) pe_int) (pa_cons (pe_op op_mul pe_int pe_int) (pa_cons (pe_op op_mul pe_int pe_int) pa_nil))))))
    (pss_one (ps_for PassesOwn.never rfl (pi_range1 (by rfl) z_range (pa_cons (pe_callB call_len_seq (by rfl) z_len PySem.boot_len (pa_cons (pv 7) pa_nil)) pa_nil)) (pg_name (i := 8) scLnest.nd rfl (.inl rfl))
      (pss_one (ps_asg (pe_ix ix_list (pv 7) (pv 8) (fun _ _ => rfl)) (pg_sub (pv 5) (pe_op op_add (pe_ix ix_list (pv 3) (pv 6) (fun _ _ => rfl)) (pv 8)) set_list))))))))
    (pss_one (ps_ret (pe_tup (pa_cons (pv 5) (pa_cons (pv 3) (pa_cons (pv 4) pa_nil)))))))))))))), ?_⟩
  obtain ⟨d0, e0, b0, c0⟩ := atN hdg (j := 0) (by decide) (by rw [hlen]; decide)
  obtain ⟨d1, e1, b1, c1⟩ := atN hdg (j := 1) (by decide) (by rw [hlen]; decide)
  refine ⟨_, rfl, r, _, 0, _, rfl, rfl, SqL.of hR, e0, _, _, rfl, rfl, (by show (0 : Int) < 8; decide), _, _, rfl, rfl, ?_⟩
  show gName 1 (V.int (1 + d0 % 8)) _ _ _
  obtain ⟨N, eN, N1, N8⟩ : ∃ N : Nat, 1 + d0 % 8 = (N : Int) ∧ 1 ≤ N ∧ N ≤ 8 := ⟨(1 + d0 % 8).toNat, by omega, by omega, by omega⟩
  rw [eN]
  refine ⟨_, rfl, r, _, 1, _, rfl, rfl, SqL.of hR, e1, _, _, rfl, rfl, (by show (0 : Int) < 40; decide), _, _, rfl, rfl, ?_⟩
  show gName 2 (V.int (8 + d1 % 40)) _ _ _
  obtain ⟨s_, es, s8, s47⟩ : ∃ s : Int, 8 + d1 % 40 = s ∧ 8 ≤ s ∧ s ≤ 47 := ⟨_, rfl, by omega, by omega⟩
  rw [es]
  refine ⟨_, rfl, (N : Int), rfl, by omega, by omega, fun ls nls => ?_⟩
  refine lc_range (lo := 0) (n := ((N : Int)).toNat) (fun i H' => Same H H' ∧ H' ls = some (.lst ((stL s_ i).map V.int))) ⟨same_upd' nls, upd_same⟩ ?_ ?_
  · rintro i H' hi ⟨sm, hD⟩
    refine ⟨rfl, ?_⟩
    refine ⟨_, rfl, _, rfl, _, _, rfl, rfl, .inl ⟨by omega, by omega⟩, _, _, rfl, rfl, ?_⟩
    refine ⟨_, hD, ?_, same_of sm nls, ?_⟩
    · unfold stL
      rw [List.length_map, List.length_map, List.length_range]
      exact small1000 (by omega)
    · unfold stL
      rw [upd_same, List.range_succ, List.map_append, List.map_append, show (0 + (i : Int)) = (i : Int) by omega]
      rfl
  rintro G1 ⟨s1, hls⟩
  have hls : G1 ls = some (.lst ((stL s_ N).map V.int)) := hls
  have hR := s1 _ _ hR
  have hdr : ∀ k : Nat, k < N → 0 ≤ rd ds (2 + (k : Int)) := fun k hk => by
    have h : 2 + k < ds.length := by omega
    have e : rd ds (2 + (k : Int)) = ds[2 + k] := by
      unfold rd
      rw [show (2 + (k : Int)).toNat = 2 + k by omega, List.getD_eq_getElem?_getD, List.getElem?_eq_getElem h]
      rfl
    rw [e]
    exact (hdg _ (List.getElem_mem h)).1
  refine ⟨_, rfl, _, _, rfl, rfl, (N : Int) - 1, rfl, by omega, by omega, fun D nD => ?_⟩
  refine lc_range (lo := 0) (n := ((N : Int) - 1).toNat) (fun i H' => Same G1 H' ∧ H' D = some (.lst (((List.range i).map (fun k : Nat => rd ds (2 + (k : Int)) % 2 + 1)).map V.int))) ⟨same_upd' nD, upd_same⟩ ?_ ?_
  · rintro i H' hi ⟨sm, hD⟩
    refine ⟨rfl, ?_⟩
    refine ⟨_, rfl, _, rfl, _, _, rfl, rfl, r, _, _, _, rfl, rfl, SqL.of (sm _ _ hR), atI_rd (m := ds) (i := 2 + (0 + (i : Int))) (by omega) (by rw [hlen]; omega), _, _, rfl, rfl, (by show (0 : Int) < 2; decide), _, _, rfl, rfl, ?_⟩
    refine ⟨_, hD, ?_, same_of sm nD, ?_⟩
    · rw [List.length_map, List.length_map, List.length_range]
      exact small1000 (by omega)
    · rw [upd_same, List.range_succ, List.map_append, List.map_append, show (0 + (i : Int)) = (i : Int) by omega]
      rfl
  rintro G2 ⟨s2, hD⟩
  have hD : G2 D = some (.lst (((List.range (N - 1)).map (fun k : Nat => rd ds (2 + (k : Int)) % 2 + 1)).map V.int)) := by
    rw [show ((N : Int) - 1).toNat = N - 1 by omega] at hD
    exact hD
  have hls := s2 _ _ hls
  refine ⟨(by show 1 ≤ sizeLine; decide), fun l3 n3 => ?_⟩
  have r3 := same_upd' (o := .lst [V.int 0]) n3
  have h3 : upd G2 l3 (.lst [V.int 0]) l3 = some (.lst [V.int 0]) := upd_same
  have hD := r3 _ _ hD
  have hls := r3 _ _ hls
  generalize upd G2 l3 (.lst [V.int 0]) = G3 at *
  refine ⟨D, l3, _, _, rfl, rfl, hD, h3, (by rw [List.length_map, List.length_map, List.length_range]; exact hsz (by show N - 1 + 1 ≤ 100000; omega)), fun l4 n4 => ?_⟩
  rw [show ((List.range (N - 1)).map (fun k : Nat => rd ds (2 + (k : Int)) % 2 + 1)).map V.int ++ [V.int 0] = ((List.range (N - 1)).map (fun k : Nat => rd ds (2 + (k : Int)) % 2 + 1) ++ [0]).map V.int by rw [List.map_append]; rfl]
  have r4 := same_upd' (o := .lst (((List.range (N - 1)).map (fun k : Nat => rd ds (2 + (k : Int)) % 2 + 1) ++ [0]).map V.int)) n4
  have h4 : upd G3 l4 (.lst (((List.range (N - 1)).map (fun k : Nat => rd ds (2 + (k : Int)) % 2 + 1) ++ [0]).map V.int)) l4 = some (.lst (((List.range (N - 1)).map (fun k : Nat => rd ds (2 + (k : Int)) % 2 + 1) ++ [0]).map V.int)) := upd_same
  have hls := r4 _ _ hls
  generalize upd G3 l4 (.lst (((List.range (N - 1)).map (fun k : Nat => rd ds (2 + (k : Int)) % 2 + 1) ++ [0]).map V.int)) = G4 at *
  have s4 := ((s1.trans s2).trans r3).trans r4
  apply joinA (I := fun G lc => Same H G ∧ G ls = some (.lst ((stL s_ N).map V.int)) ∧ G lc = some (.lst ((cL N (cOf N ds)).map V.int)))
  case body =>
    intro k
    refine ⟨_, rfl, _, _, rfl, rfl, _, rfl, ifB (fun h => ?_) (fun h => ?_)⟩
    · have h := of_decide_eq_true h
      refine ⟨(by show 1 ≤ sizeLine; decide), fun l5 n5 => ?_⟩
      have r5 := same_upd' (o := .lst [V.int 1]) n5
      have h5 : upd G4 l5 (.lst [V.int 1]) l5 = some (.lst [V.int 1]) := upd_same
      have hls := r5 _ _ hls
      generalize upd G4 l5 (.lst [V.int 1]) = G5 at *
      refine ⟨_, rfl, _, _, rfl, rfl, l5, _, _, rfl, rfl, h5, by omega, by omega, ?_, fun l6 n6 => ?_⟩
      · show 1 * ((N : Int) - 1).toNat ≤ sizeLine
        exact hsz (by omega)
      rw [flat_rep', show ((N : Int) - 1).toNat = N - 1 by omega]
      have r6 := same_upd' (o := .lst ((List.replicate (N - 1) (1 : Int)).map V.int)) n6
      have h6 : upd G5 l6 (.lst ((List.replicate (N - 1) (1 : Int)).map V.int)) l6 = some (.lst ((List.replicate (N - 1) (1 : Int)).map V.int)) := upd_same
      have hls := r6 _ _ hls
      generalize upd G5 l6 (.lst ((List.replicate (N - 1) (1 : Int)).map V.int)) = G6 at *
      refine ⟨(by show 1 ≤ sizeLine; decide), fun l7 n7 => ?_⟩
      have r7 := same_upd' (o := .lst [V.int 0]) n7
      have h7 : upd G6 l7 (.lst [V.int 0]) l7 = some (.lst [V.int 0]) := upd_same
      have hls := r7 _ _ hls
      have h6 := r7 _ _ h6
      generalize upd G6 l7 (.lst [V.int 0]) = G7 at *
      refine ⟨l6, l7, _, _, rfl, rfl, h6, h7, (by rw [List.length_map, List.length_replicate]; exact hsz (by show N - 1 + 1 ≤ 100000; omega)), fun l8 n8 => ?_⟩
      rw [show (List.replicate (N - 1) (1 : Int)).map V.int ++ [V.int 0] = (List.replicate (N - 1) (1 : Int) ++ [0]).map V.int by rw [List.map_append]; rfl, cL_hi (ds := ds) (by omega)]
      have r8 := same_upd' (o := .lst ((cL N (cOf N ds)).map V.int)) n8
      have h8 : upd G7 l8 (.lst ((cL N (cOf N ds)).map V.int)) l8 = some (.lst ((cL N (cOf N ds)).map V.int)) := upd_same
      have hls := r8 _ _ hls
      generalize upd G7 l8 (.lst ((cL N (cOf N ds)).map V.int)) = G8 at *
      exact k G8 l8 ⟨(((s4.trans r5).trans r6).trans r7).trans r8, hls, h8⟩
    · have h := of_decide_eq_false h
      rw [cL_lo N1 (by omega) hdr] at h4
      exact k G4 l4 ⟨s4, hls, h4⟩
  case key =>
    intro G lc hI
    obtain ⟨sG, hls, hlc⟩ := hI
    have hR := sG _ _ hR0
    generalize hcc : cOf N ds = cc at *
    have cc2 : ∀ k, cc k ≤ 2 := fun k => by rw [← hcc]; exact cOf2 N ds k
    have ccl : ∀ k, N ≤ k + 1 → cc k = 0 := fun k hk => by
      rw [← hcc]
      unfold cOf
      rw [if_pos hk]
    clear hdr hD h3 h4
    refine ⟨_, _, rfl, rfl, .inl ⟨by decide, by decide⟩, _, rfl, ls, _, _, _, rfl, rfl, SqL.of hls, stL_at (k := 0) (by omega), _, _, rfl, rfl, _, _, rfl, rfl, .inl ⟨by decide, by decide⟩, (by show 2 ≤ sizeLine; decide), fun l6 n6 => ?_⟩
    have r6 := same_upd' (o := .lst [V.int (1024 * 15 + stq s_ 0), V.int (1024 * 19)]) n6
    have h6 : upd G l6 (.lst [V.int (1024 * 15 + stq s_ 0), V.int (1024 * 19)]) l6 = some (.lst [V.int (1024 * 15 + stq s_ 0), V.int (1024 * 19)]) := upd_same
    have hls := r6 _ _ hls
    have hlc := r6 _ _ hlc
    generalize upd G l6 (.lst [V.int (1024 * 15 + stq s_ 0), V.int (1024 * 19)]) = G6 at *
    refine ⟨_, rfl, (by show 1 ≤ sizeLine; decide), fun l7 n7 => ?_⟩
    have r7 := same_upd' (o := .lst [V.int 65535]) n7
    have h7 : upd G6 l7 (.lst [V.int 65535]) l7 = some (.lst [V.int 65535]) := upd_same
    have hls := r7 _ _ hls
    have hlc := r7 _ _ hlc
    have h6 := r7 _ _ h6
    generalize upd G6 l7 (.lst [V.int 65535]) = G7 at *
    have q0 := stq_lo (by omega) (N - 1) (s := s_)
    have q1 := stq_hi (by omega) s47 (k := N - 1) (by omega)
    refine ⟨_, rfl, _, rfl, ls, _, _, _, rfl, rfl, SqL.of hls, stL_last N1, _, _, rfl, rfl, _, rfl, l6, _, rfl, .inl (SqL.of h6), _, _, rfl, rfl, l7, _, _, rfl, rfl, h7, ?_, ?_, ?_, fun l8 n8 => ?_⟩
    · have el : (([V.int (1024 * 15 + stq s_ 0), V.int (1024 * 19)] : List V).length : Int) = 2 := rfl
      omega
    · have el : (([V.int (1024 * 15 + stq s_ 0), V.int (1024 * 19)] : List V).length : Int) = 2 := rfl
      omega
    · show 1 * (stq s_ (N - 1) + 8 - 2).toNat ≤ sizeLine
      exact hsz (by omega)
    rw [flat_rep']
    rw [show (stq s_ (N - 1) + 8 - (([V.int (1024 * 15 + stq s_ 0), V.int (1024 * 19)] : List V).length : Int)).toNat = (stq s_ (N - 1) + 6).toNat by show (stq s_ (N - 1) + 8 - 2).toNat = _; congr 1; omega]
    have r8 := same_upd' (o := .lst ((List.replicate (stq s_ (N - 1) + 6).toNat (65535 : Int)).map V.int)) n8
    have h8 : upd G7 l8 (.lst ((List.replicate (stq s_ (N - 1) + 6).toNat (65535 : Int)).map V.int)) l8 = some (.lst ((List.replicate (stq s_ (N - 1) + 6).toNat (65535 : Int)).map V.int)) := upd_same
    have hls := r8 _ _ hls
    have hlc := r8 _ _ hlc
    have h6 := r8 _ _ h6
    generalize upd G7 l8 (.lst ((List.replicate (stq s_ (N - 1) + 6).toNat (65535 : Int)).map V.int)) = G8 at *
    refine ⟨l6, l8, _, _, rfl, rfl, h6, h8, ?_, fun im nim => ?_⟩
    · rw [List.length_map, List.length_replicate]
      exact hsz (by show 2 + _ ≤ _; omega)
    rw [show [V.int (1024 * 15 + stq s_ 0), V.int (1024 * 19)] ++ (List.replicate (stq s_ (N - 1) + 6).toNat (65535 : Int)).map V.int = ([1024 * 15 + stq s_ 0, 1024 * 19] ++ List.replicate (stq s_ (N - 1) + 6).toNat (65535 : Int)).map V.int by rw [List.map_append]; rfl]
    have him : upd G8 im (.lst (([1024 * 15 + stq s_ 0, 1024 * 19] ++ List.replicate (stq s_ (N - 1) + 6).toNat (65535 : Int)).map V.int)) im = some (.lst (([1024 * 15 + stq s_ 0, 1024 * 19] ++ List.replicate (stq s_ (N - 1) + 6).toNat (65535 : Int)).map V.int)) := upd_same
    have rim := same_upd' (o := .lst (([1024 * 15 + stq s_ 0, 1024 * 19] ++ List.replicate (stq s_ (N - 1) + 6).toNat (65535 : Int)).map V.int)) nim
    have sm8 := ((sG.trans r6).trans r7).trans r8
    have fim : H im = none := sm8.free nim
    have ns_ : ls ≠ im := ne_of_none hls nim
    have nc_ : lc ≠ im := ne_of_none hlc nim
    have hls := rim _ _ hls
    have hlc := rim _ _ hlc
    have sm9 := sm8.trans rim
    generalize upd G8 im (.lst (([1024 * 15 + stq s_ 0, 1024 * 19] ++ List.replicate (stq s_ (N - 1) + 6).toNat (65535 : Int)).map V.int)) = G9 at *
    have P0 : PartI ([1024 * 15 + stq s_ 0, 1024 * 19] ++ List.replicate (stq s_ (N - 1) + 6).toNat (65535 : Int)) N s_ cc 0 := {
      len := by
        rw [List.length_append, List.length_replicate]
        show ((2 + _ : Nat) : Int) = _
        omega
      wok := by
        have z0 := stq_lo (by omega) 0 (s := s_)
        have z1 := stq_hi (by omega) s47 (k := 0) (by omega)
        refine wok_app (fun z hz => ?_) (fun z hz => ?_)
        · simp only [List.mem_cons, List.not_mem_nil, or_false] at hz
          omega
        · rw [(List.mem_replicate.mp hz).2]
          omega
      i0 := rfl
      i1 := rfl
      lev := fun k hk => absurd hk (by omega) }
    clear h6 h7 h8 r6 r7 r8 rim nim
    refine ⟨_, rfl, (N : Int), rfl, by omega, by omega, ?_⟩
    refine for_range (lo := 0) (n := ((N : Int)).toNat) (fun i σ H' => ∃ (y6 y7 y8 : Option V) (img : List Int), σ = [some (.ref r), some (.int (N : Int)), some (.int s_), some (.ref ls), some (.ref lc), some (.ref im), y6, y7, y8] ∧ Same H H' ∧ H' ls = some (.lst ((stL s_ N).map V.int)) ∧ H' lc = some (.lst ((cL N cc).map V.int)) ∧ H' im = some (.lst (img.map V.int)) ∧ PartI img N s_ cc i) ⟨none, none, none, _, rfl, sm9, hls, hlc, him, P0⟩ ?_ ?_
    rotate_left
    · rintro σ H1 ⟨y6, y7, y8, img, rfl, sm, hls, hlc, him, P⟩
      have P : PartI img N s_ cc N := P
      refine ⟨_, rfl, _, rfl, _, rfl, (by show 3 ≤ sizeLine; decide), fun t nt => ?_⟩
      have rt := same_upd' (o := .tup [V.ref im, V.ref ls, V.ref lc]) nt
      exact q _ t im ls lc img N s_ cc (sm.trans rt) upd_same (rt _ _ him) (rt _ _ hls) (rt _ _ hlc) ⟨N1, N8, s8, s47, cc2, ccl, P.len, P.wok, P.i0, P.i1, P.lev⟩
    rintro i σ H1 hi ⟨y6, y7, y8, img, rfl, sm, hls, hlc, him, P⟩
    have hi : i < N := by omega
    have ei : (0 + (i : Int)) = ((i : Nat) : Int) := by omega
    rw [ei]
    have c2i := cc2 i
    refine ⟨_, _, rfl, rfl, .inl ⟨by decide, by decide⟩, _, _, rfl, rfl, _, rfl, _, _, rfl, rfl, _, _, rfl, rfl, .inl ⟨by decide, by decide⟩, (by show 2 ≤ sizeLine; decide), fun l1 n1 => ?_⟩
    have r1 := same_upd' (o := .lst [V.int (1024 * 1 + 100 + (i : Int)), V.int (1024 * 17)]) n1
    have h1 : upd H1 l1 (.lst [V.int (1024 * 1 + 100 + (i : Int)), V.int (1024 * 17)]) l1 = some (.lst [V.int (1024 * 1 + 100 + (i : Int)), V.int (1024 * 17)]) := upd_same
    have hls := r1 _ _ hls
    have hlc := r1 _ _ hlc
    have him := r1 _ _ him
    generalize upd H1 l1 (.lst [V.int (1024 * 1 + 100 + (i : Int)), V.int (1024 * 17)]) = G1 at *
    have emin : atI ((stL s_ N).map V.int) (if (N : Int) - 1 < (i : Int) + 1 then (N : Int) - 1 else (i : Int) + 1) = some (.int (stq s_ (min (i + 1) (N - 1)))) := by
      rw [show (if (N : Int) - 1 < (i : Int) + 1 then (N : Int) - 1 else (i : Int) + 1) = ((min (i + 1) (N - 1) : Nat) : Int) by split <;> omega]
      exact stL_at (by omega)
    refine ⟨_, _, rfl, rfl, .inl ⟨by decide, by decide⟩, _, rfl, _, rfl, _, _, rfl, rfl, _, rfl, _, _, rfl, rfl, _, _, rfl, ls, _, _, _, rfl, rfl, SqL.of hls, emin, _, _, rfl, rfl, (by show 1 ≤ sizeLine; decide), fun l2 n2 => ?_⟩
    have r2 := same_upd' (o := .lst [V.int (1024 * 15 + stq s_ (min (i + 1) (N - 1)))]) n2
    have h2 : upd G1 l2 (.lst [V.int (1024 * 15 + stq s_ (min (i + 1) (N - 1)))]) l2 = some (.lst [V.int (1024 * 15 + stq s_ (min (i + 1) (N - 1)))]) := upd_same
    have hls := r2 _ _ hls
    have hlc := r2 _ _ hlc
    have him := r2 _ _ him
    have h1 := r2 _ _ h1
    generalize upd G1 l2 (.lst [V.int (1024 * 15 + stq s_ (min (i + 1) (N - 1)))]) = G2 at *
    refine ⟨_, rfl, _, rfl, lc, _, _, _, rfl, rfl, SqL.of hlc, cL_at hi, l2, _, _, rfl, rfl, h2, by omega, by omega, ?_, fun l3 n3 => ?_⟩
    · show 1 * ((cc i : Int)).toNat ≤ sizeLine
      exact hsz (by omega)
    rw [flat_rep', show ((cc i : Int)).toNat = cc i by omega]
    have r3 := same_upd' (o := .lst ((List.replicate (cc i) (1024 * 15 + stq s_ (min (i + 1) (N - 1)))).map V.int)) n3
    have h3 : upd G2 l3 (.lst ((List.replicate (cc i) (1024 * 15 + stq s_ (min (i + 1) (N - 1)))).map V.int)) l3 = some (.lst ((List.replicate (cc i) (1024 * 15 + stq s_ (min (i + 1) (N - 1)))).map V.int)) := upd_same
    have hls := r3 _ _ hls
    have hlc := r3 _ _ hlc
    have him := r3 _ _ him
    have h1 := r3 _ _ h1
    generalize upd G2 l3 (.lst ((List.replicate (cc i) (1024 * 15 + stq s_ (min (i + 1) (N - 1)))).map V.int)) = G3 at *
    refine ⟨l1, l3, _, _, rfl, rfl, h1, h3, ?_, fun l4 n4 => ?_⟩
    · rw [List.length_map, List.length_replicate]
      exact hsz (by show 2 + cc i ≤ _; omega)
    rw [show [V.int (1024 * 1 + 100 + (i : Int)), V.int (1024 * 17)] ++ (List.replicate (cc i) (1024 * 15 + stq s_ (min (i + 1) (N - 1)))).map V.int = ([1024 * 1 + 100 + (i : Int), 1024 * 17] ++ List.replicate (cc i) (1024 * 15 + stq s_ (min (i + 1) (N - 1)))).map V.int by rw [List.map_append]; rfl]
    have r4 := same_upd' (o := .lst (([1024 * 1 + 100 + (i : Int), 1024 * 17] ++ List.replicate (cc i) (1024 * 15 + stq s_ (min (i + 1) (N - 1)))).map V.int)) n4
    have h4 : upd G3 l4 (.lst (([1024 * 1 + 100 + (i : Int), 1024 * 17] ++ List.replicate (cc i) (1024 * 15 + stq s_ (min (i + 1) (N - 1)))).map V.int)) l4 = some (.lst (([1024 * 1 + 100 + (i : Int), 1024 * 17] ++ List.replicate (cc i) (1024 * 15 + stq s_ (min (i + 1) (N - 1)))).map V.int)) := upd_same
    have hls := r4 _ _ hls
    have hlc := r4 _ _ hlc
    have him := r4 _ _ him
    generalize upd G3 l4 (.lst (([1024 * 1 + 100 + (i : Int), 1024 * 17] ++ List.replicate (cc i) (1024 * 15 + stq s_ (min (i + 1) (N - 1)))).map V.int)) = G4 at *
    refine ⟨_, rfl, _, _, rfl, rfl, .inl ⟨by decide, by decide⟩, _, _, rfl, rfl, _, _, rfl, rfl, .inl ⟨by decide, by decide⟩, _, _, rfl, rfl, .inl ⟨by decide, by decide⟩, (by show 3 ≤ sizeLine; decide), fun l5 n5 => ?_⟩
    have r5 := same_upd' (o := .lst [V.int (1024 * 1 + 7), V.int (1024 * 18), V.int (1024 * 16)]) n5
    have h5 : upd G4 l5 (.lst [V.int (1024 * 1 + 7), V.int (1024 * 18), V.int (1024 * 16)]) l5 = some (.lst [V.int (1024 * 1 + 7), V.int (1024 * 18), V.int (1024 * 16)]) := upd_same
    have hls := r5 _ _ hls
    have hlc := r5 _ _ hlc
    have him := r5 _ _ him
    have h4 := r5 _ _ h4
    generalize upd G4 l5 (.lst [V.int (1024 * 1 + 7), V.int (1024 * 18), V.int (1024 * 16)]) = G5 at *
    refine ⟨l4, l5, _, _, rfl, rfl, h4, h5, ?_, fun l6 n6 => ?_⟩
    · rw [List.length_map, List.length_append, List.length_replicate]
      exact hsz (by show 2 + cc i + 3 ≤ _; omega)
    rw [show ([1024 * 1 + 100 + (i : Int), 1024 * 17] ++ List.replicate (cc i) (1024 * 15 + stq s_ (min (i + 1) (N - 1)))).map V.int ++ [V.int (1024 * 1 + 7), V.int (1024 * 18), V.int (1024 * 16)] = (dsq s_ N cc i).map V.int by unfold dsq; rw [List.map_append, List.map_append, List.map_append]; rfl]
    have nd6 : l6 ≠ im := (ne_of_none him n6).symm
    have r6 := same_upd' (o := .lst ((dsq s_ N cc i).map V.int)) n6
    have h6 : upd G5 l6 (.lst ((dsq s_ N cc i).map V.int)) l6 = some (.lst ((dsq s_ N cc i).map V.int)) := upd_same
    have hls := r6 _ _ hls
    have hlc := r6 _ _ hlc
    have him := r6 _ _ him
    generalize upd G5 l6 (.lst ((dsq s_ N cc i).map V.int)) = G6 at *
    have sm6 := (((((sm.trans r1).trans r2).trans r3).trans r4).trans r5).trans r6
    have dl := dsq_len s_ N cc i
    have dok := dsq_ok (c := cc) (by omega) s47 N1 N8 hi
    have a0 := stq_lo (by omega) i (s := s_)
    have aN : stq s_ i + 8 ≤ img.length := by
      have e := P.len
      by_cases y : i = N - 1
      · rw [y]; omega
      · have := lev_far s8 (show i < N - 1 by omega)
        omega
    clear h1 h2 h3 h4 h5 r1 r2 r3 r4 r5 r6
    refine ⟨_, rfl, l6, _, rfl, .inl (SqL.of h6), ((5 + cc i : Nat) : Int), by rw [List.length_map, dl], by omega, by omega, ?_⟩
    refine for_range (lo := 0) (n := (((5 + cc i : Nat) : Int)).toNat) (fun j σ H' => ∃ (y8 : Option V) (img' : List Int), σ = [some (.ref r), some (.int (N : Int)), some (.int s_), some (.ref ls), some (.ref lc), some (.ref im), some (.int (i : Int)), some (.ref l6), y8] ∧ Same H H' ∧ H' ls = some (.lst ((stL s_ N).map V.int)) ∧ H' lc = some (.lst ((cL N cc).map V.int)) ∧ H' im = some (.lst (img'.map V.int)) ∧ H' l6 = some (.lst ((dsq s_ N cc i).map V.int)) ∧ Fill img img' (stq s_ i) (dsq s_ N cc i) j) ⟨y8, img, rfl, sm6, hls, hlc, him, h6, ⟨rfl, P.wok, fun _ _ _ => rfl, fun j hj => absurd hj (by omega)⟩⟩ ?_ ?_
    · rintro j σ H2 hj ⟨y8, img', rfl, sm, hls, hlc, him, h6, F1⟩
      have hj : j < 5 + cc i := by omega
      have ej : (0 + (j : Int)) = ((j : Nat) : Int) := by omega
      rw [ej]
      have fl := F1.len
      refine ⟨_, rfl, _, rfl, l6, _, _, _, rfl, rfl, SqL.of h6, atI_rd (m := dsq s_ N cc i) (i := (j : Int)) (by omega) (by rw [dl]; omega), ?_⟩
      refine ⟨_, rfl, _, rfl, _, rfl, ls, _, _, _, rfl, rfl, SqL.of hls, stL_at hi, _, rfl, _, _, rfl, rfl, im, _, _, _, rfl, rfl, him, ixN_in (by omega) (by rw [List.length_map, fl]; omega), ?_⟩
      rw [set_map]
      have hw : 0 ≤ rd (dsq s_ N cc i) (j : Int) ∧ rd (dsq s_ N cc i) (j : Int) ≤ 65535 := by
        unfold rd
        rw [List.getD_eq_getElem?_getD, List.getElem?_eq_getElem (show ((j : Int)).toNat < (dsq s_ N cc i).length by rw [dl]; omega)]
        exact dok _ (List.getElem_mem _)
      refine ⟨_, _, rfl, same_of sm fim, by rw [upd_ne ns_]; exact hls, by rw [upd_ne nc_]; exact hlc, upd_same, by rw [upd_ne nd6]; exact h6, ?_⟩
      exact F1.step (by omega) hw (by omega)
    · rintro σ H2 ⟨y8, img', rfl, sm, hls, hlc, him, h6, F1⟩
      have F1 : Fill img img' (stq s_ i) (dsq s_ N cc i) (5 + cc i) := F1
      exact ⟨_, _, _, img', rfl, sm, hls, hlc, him, P.step s8 cc2 F1⟩
end
end Bh

/-! Calls within calls: the path that the law tells. -/
namespace Bh
open PySem PySem.Spec PyProof.Rows L2
def TrisAt (H : Hp) : List V → List Tr → Prop := Paired fun v u => ∃ t, v = .ref t ∧ H t = some (.tup [.int u.1, .int u.2.1, .int u.2.2])
theorem TrisAt.mono {H H' : Hp} (k : ∀ t xs, H t = some (.tup xs) → H' t = some (.tup xs)) : ∀ {us : List V} {ls : List Tr}, TrisAt H us ls → TrisAt H' us ls
  | _, _, .nil => .nil
  | _, _, .cons h r => .cons (let ⟨t, e, q⟩ := h; ⟨t, e, k _ _ q⟩) (TrisAt.mono k r)
theorem TrisAt.app {H : Hp} : ∀ {us vs : List V} {ls ks : List Tr}, TrisAt H us ls → TrisAt H vs ks → TrisAt H (us ++ vs) (ls ++ ks)
  | _, _, _, _, .nil, h => h
  | _, _, _, _, .cons a r, h => .cons a (TrisAt.app r h)
theorem TrisAt.one {H : Hp} {t : Addr} {a b c : Int} (h : H t = some (.tup [.int a, .int b, .int c])) : TrisAt H [.ref t] [(a, b, c)] := .cons ⟨t, rfl, h⟩ .nil
theorem TrisAt.len {H : Hp} : ∀ {us : List V} {ls : List Tr}, TrisAt H us ls → us.length = ls.length
  | _, _, .nil => rfl
  | _, _, .cons _ r => by rw [List.length_cons, List.length_cons, TrisAt.len r]
theorem loop_len {g : Nat → List Tr} {b : Nat} (h : ∀ j, (g j).length ≤ b) : ∀ n, (loopM g n).length ≤ n * b
  | 0 => Nat.zero_le _
  | n + 1 => by
    show (loopM g n ++ g n).length ≤ _
    rw [List.length_append, Nat.succ_mul]
    have := loop_len h n
    have := h n
    omega
theorem path_len {s : Int} {c : Nat → Nat} (c2 : ∀ k, c k ≤ 2) : ∀ (f k : Nat) (sp bh : Int), (pathM s c f k sp bh).length + 7 ≤ 7 * 2 ^ f
  | 0, _, _, _ => by show 0 + 7 ≤ _; decide
  | f + 1, k, sp, bh => by
    have h : ∀ j : Nat, ((fun j : Nat => ((stq s (k + 1), sp - 2, if 0 < j then 100 + (k : Int) + 1 else 100 + (k : Int)) : Tr) :: pathM s c f (k + 1) (sp - 2) (stq s k + 3 + (j : Int))) j).length ≤ 7 * 2 ^ f - 6 := fun j => by
      have := path_len (s := s) c2 f (k + 1) (sp - 2) (stq s k + 3 + (j : Int))
      show (pathM s c f (k + 1) (sp - 2) (stq s k + 3 + (j : Int))).length + 1 ≤ _
      omega
    have l := loop_len h (c k)
    have m : c k * (7 * 2 ^ f - 6) ≤ 2 * (7 * 2 ^ f - 6) := Nat.mul_le_mul_right _ (c2 k)
    have p : 2 ^ (f + 1) = 2 * 2 ^ f := by rw [Nat.pow_succ, Nat.mul_comm]
    have q : 1 ≤ 2 ^ f := Nat.one_le_two_pow
    show (_ ++ loopM _ (c k) ++ _ ++ _ : List Tr).length + 7 ≤ _
    rw [List.length_append, List.length_append, List.length_append, p]
    show 2 + _ + 2 + 1 + 7 ≤ _
    omega
theorem loop_path {s : Int} {c : Nat → Nat} (c2 : ∀ k, c k ≤ 2) {f k : Nat} (hf : f ≤ 8) {sp : Int} {n : Nat} (hn : n ≤ 2) : (loopM (fun j => (stq s (k + 1), sp - 2, if 0 < j then 100 + (k : Int) + 1 else 100 + (k : Int)) :: pathM s c f (k + 1) (sp - 2) (stq s k + 3 + (j : Int))) n).length ≤ 3600 := by
  have h : ∀ j : Nat, ((fun j : Nat => ((stq s (k + 1), sp - 2, if 0 < j then 100 + (k : Int) + 1 else 100 + (k : Int)) : Tr) :: pathM s c f (k + 1) (sp - 2) (stq s k + 3 + (j : Int))) j).length ≤ 1800 := fun j => by
    have a := path_len (s := s) c2 f (k + 1) (sp - 2) (stq s k + 3 + (j : Int))
    have b : 2 ^ f ≤ 2 ^ 8 := Nat.pow_le_pow_right (by decide) hf
    have e : 2 ^ 8 = 256 := by decide
    show (pathM s c f (k + 1) (sp - 2) (stq s k + 3 + (j : Int))).length + 1 ≤ _
    omega
  have l := loop_len h n
  have m : n * 1800 ≤ 2 * 1800 := Nat.mul_le_mul_right _ hn
  omega
def spPathL (L : Nat) : Sp := fun vs H Q _ => ∃ (ls lc : Addr) (N f k : Nat) (s sp bh : Int) (c : Nat → Nat), vs = [.ref ls, .ref lc, .int (k : Int), .int sp, .int bh] ∧ H ls = some (.lst ((stL s N).map V.int)) ∧ H lc = some (.lst ((cL N c).map V.int)) ∧ k + f + 1 = N ∧ f < L ∧ (∀ k, c k ≤ 2) ∧ (∀ k, N ≤ k + 1 → c k = 0) ∧ N ≤ 8 ∧
  ∀ (H' : Hp) (p : Addr) (us : List V), Same H H' → H p = none → H' p = some (.lst us) → TrisAt H' us (pathM s c (f + 1) k sp bh) → Q (.ref p) H'
theorem kAK (n : Nat) (a b : Int) : atI [V.int a, V.int b] (if decide ((n : Int) > 0) = true then 1 else 0) = some (.int (if 0 < n then b else a)) := by
  by_cases h : 0 < n
  · rw [if_pos h, decide_eq_true (show (n : Int) > 0 by omega)]
    rfl
  · rw [if_neg h, decide_eq_false (show ¬ (n : Int) > 0 by omega)]
    rfl
section
variable {P : Program} {w : World} {K : PySem.W.Frag} {mg : Str → Option Value} {base : Heap} {CB CM : Addr} {n : Nat}
abbrev sLpaths : Stmt := topS 69
def scLpathsN : List Str := ["_law_starts", "_law_calls", "_law_k", "_law_sp", "_law_behind", "_law_at", "_law_found", "_law_j", "_law_end"]
theorem scLpaths : FnScope scLpathsN ["_law_starts", "_law_calls", "_law_k", "_law_sp", "_law_behind"] (defScope sLpaths) := ⟨rfl, rfl, rfl, by decide +kernel, rfl, by decide +kernel, by decide +kernel⟩
theorem ok_Lpaths {f : Addr} {fd : FuncData} {fL_path : Addr} {dL_path : FuncData} (F : Fun K "_law_path" "_law_path" sLpaths f fd) (T : Tx K mg CB CM)
    (L_path : CalF P w K mg base n "_law_path" ["_law_starts", "_law_calls", "_law_k", "_law_sp", "_law_behind"] (spPathL n) fL_path dL_path) : FnOk P w K mg base CX0 (n + 1) f fd ["_law_starts", "_law_calls", "_law_k", "_law_sp", "_law_behind"] (spPathL (n + 1)) := by
  refine F.ok scLpaths (fun vs H Q E h => by obtain ⟨_, _, _, _, _, _, _, _, _, rfl, _⟩ := h; rfl) (fun cdv A outer s H vs Q E hr h => ?_)
  have hu := hu_of hr
  have z_int := T.z_int
  have z_range := T.z_range
  obtain ⟨ls, lc, N, f, k, s_, sp, bh, cc, rfl, hls, hlc, hk, hL, cc2, ccl, N8, q⟩ := h
  have hls0 := hls
  have hlc0 := hlc
  refine ⟨_, (pss_cons (ps_set (i := 5) scLpaths.nd rfl (.inl rfl) (pe_ix ix_list (pv 0) (pv 2) (fun _ _ => rfl)))
    (pss_cons (ps_set (i := 6) scLpaths.nd rfl (.inl rfl) (pe_lst (pa_cons (pe_tup (pa_cons (pe_op op_add (pv 5) pe_int) (pa_cons (pv 3) (pa_cons (pe_op op_add pe_int (pv 2)) pa_nil)))) (pa_cons (pe_tup (pa_cons (pe_op op_add (pv 5) pe_int) (pa_cons (pe_op op_sub (pv 3) pe_int) (pa_cons (pe_op op_add pe_int (pv 2)) pa_nil)))) pa_nil))))
    (pss_cons (ps_for PassesOwn.never rfl (pi_range1 (by rfl) z_range (pa_cons (pe_ix ix_list (pv 1) (pv 2) (fun _ _ => rfl)) pa_nil)) (pg_name (i := 7) scLpaths.nd rfl (.inl rfl))
      (pss_cons (ps_expr (pe_bm PySem.F.plainAttrs_list PySem.F.slot_list_append PySem.F.type_list_append mt_append (pv 6) (pa_cons (pe_tup (pa_cons (pe_ix ix_list (pv 0) (pe_op op_add (pv 2) pe_int) (fun _ _ => rfl)) (pa_cons (pe_op op_sub (pv 3) pe_int) (pa_cons (pe_ix ix_list (pe_lst (pa_cons (pe_op op_add pe_int (pv 2)) (pa_cons (pe_op op_add (pe_op op_add pe_int (pv 2)) pe_int) pa_nil))) (pe_callTy call_int1 (by rfl) z_int (by decide +kernel) (pa_cons (pe_cmpR op_gt (pv 7) pe_int (nomark _)) pa_nil)) (fun _ _ => rfl)) pa_nil)))) pa_nil)))
    (pss_one (ps_set (i := 6) scLpaths.nd rfl (.inl rfl) (pe_op op_cat (pv 6) (pe_call L_path.G (hr.mono (Nat.le_refl _)) (by rfl) L_path.g L_path.kp L_path.b .nil pass0 (pa_cons (pv 0) (pa_cons (pv 1) (pa_cons (pe_op op_add (pv 2) pe_int) (pa_cons (pe_op op_sub (pv 3) pe_int) (pa_cons (pe_op op_add (pe_op op_add (pv 5) pe_int) (pv 7)) pa_nil)))))))))))
    (pss_cons (ps_set (i := 8) scLpaths.nd rfl (.inl rfl) (pe_op op_add (pe_op op_add (pv 5) pe_int) (pe_ix ix_list (pv 1) (pv 2) (fun _ _ => rfl))))
    (pss_cons (ps_set (i := 6) scLpaths.nd rfl (.inl rfl) (pe_op op_cat (pv 6) (pe_lst (pa_cons (pe_tup (pa_cons (pe_op op_add (pv 8) pe_int) (pa_cons (pe_op op_sub (pv 3) pe_int) (pa_cons pe_int pa_nil)))) (pa_cons (pe_tup (pa_cons (pe_op op_add (pv 8) pe_int) (pa_cons (pv 3) (pa_cons (pe_op op_add pe_int (pv 2)) pa_nil)))) pa_nil)))))
    (pss_one (ps_ret (pe_op op_cat (pv 6) (pe_lst (pa_cons (pe_tup (pa_cons (pv 4) (pa_cons (pe_op op_add (pv 3) pe_int) (pa_cons (pe_op op_add pe_int (pv 2)) pa_nil)))) pa_nil)))))))))), ?_⟩
  have kN : k < N := by omega
  refine ⟨_, rfl, _, rfl, ls, _, _, _, rfl, rfl, SqL.of hls, stL_at kN, ?_⟩
  refine ⟨_, rfl, _, _, rfl, rfl, _, rfl, _, rfl, _, _, rfl, rfl, (by show 3 ≤ sizeLine; decide), fun l1 n1 => ?_⟩
  have r1 := same_upd' (o := .tup [V.int (stq s_ k + 1), V.int sp, V.int (100 + (k : Int))]) n1
  have h1 : upd H l1 (.tup [V.int (stq s_ k + 1), V.int sp, V.int (100 + (k : Int))]) l1 = some (.tup [V.int (stq s_ k + 1), V.int sp, V.int (100 + (k : Int))]) := upd_same
  have hls := r1 _ _ hls
  have hlc := r1 _ _ hlc
  generalize upd H l1 (.tup [V.int (stq s_ k + 1), V.int sp, V.int (100 + (k : Int))]) = G1 at *
  refine ⟨_, rfl, _, _, rfl, rfl, _, rfl, _, _, rfl, rfl, _, rfl, _, _, rfl, rfl, (by show 3 ≤ sizeLine; decide), fun l2 n2 => ?_⟩
  have r2 := same_upd' (o := .tup [V.int (stq s_ k + 2), V.int (sp - 1), V.int (100 + (k : Int))]) n2
  have h2 : upd G1 l2 (.tup [V.int (stq s_ k + 2), V.int (sp - 1), V.int (100 + (k : Int))]) l2 = some (.tup [V.int (stq s_ k + 2), V.int (sp - 1), V.int (100 + (k : Int))]) := upd_same
  have hls := r2 _ _ hls
  have hlc := r2 _ _ hlc
  have h1 := r2 _ _ h1
  generalize upd G1 l2 (.tup [V.int (stq s_ k + 2), V.int (sp - 1), V.int (100 + (k : Int))]) = G2 at *
  refine ⟨(by show 2 ≤ sizeLine; decide), fun l3 n3 => ?_⟩
  have r3 := same_upd' (o := .lst [V.ref l1, V.ref l2]) n3
  have h3 : upd G2 l3 (.lst [V.ref l1, V.ref l2]) l3 = some (.lst [V.ref l1, V.ref l2]) := upd_same
  have hls := r3 _ _ hls
  have hlc := r3 _ _ hlc
  have h1 := r3 _ _ h1
  have h2 := r3 _ _ h2
  generalize upd G2 l3 (.lst [V.ref l1, V.ref l2]) = G3 at *
  have s3 := (r1.trans r2).trans r3
  have f3 : H l3 = none := (r1.trans r2).free n3
  have T3 : TrisAt G3 [V.ref l1, V.ref l2] [(stq s_ k + 1, sp, 100 + (k : Int)), (stq s_ k + 2, sp - 1, 100 + (k : Int))] := .cons ⟨l1, rfl, h1⟩ (.cons ⟨l2, rfl, h2⟩ .nil)
  clear h1 h2 r1 r2 r3
  refine ⟨_, rfl, _, rfl, lc, _, _, _, rfl, rfl, SqL.of hlc, cL_at kN, (cc k : Int), rfl, by omega, (by have := cc2 k; omega), ?_⟩
  refine for_range (lo := 0) (n := ((cc k : Int)).toNat) (fun j σ H' => ∃ (y7 : Option V) (p : Addr) (us : List V), σ = [some (.ref ls), some (.ref lc), some (.int (k : Int)), some (.int sp), some (.int bh), some (.int (stq s_ k)), some (.ref p), y7, none] ∧ Same H H' ∧ H p = none ∧ H' p = some (.lst us) ∧ TrisAt H' us ([(stq s_ k + 1, sp, 100 + (k : Int)), (stq s_ k + 2, sp - 1, 100 + (k : Int))] ++ loopM (fun j => (stq s_ (k + 1), sp - 2, if 0 < j then 100 + (k : Int) + 1 else 100 + (k : Int)) :: pathM s_ cc f (k + 1) (sp - 2) (stq s_ k + 3 + (j : Int))) j)) ⟨none, l3, _, rfl, s3, f3, h3, T3⟩ ?_ ?_
  · rintro j σ H1 hj ⟨y7, p, us, rfl, sm, fp, hp, ht⟩
    have hj : j < cc k := by omega
    have ck := cc2 k
    have nl : ¬ N ≤ k + 1 := fun y => by have := ccl k y; omega
    obtain ⟨f', rfl⟩ : ∃ f', f = f' + 1 := ⟨f - 1, by omega⟩
    have ej : (0 + (j : Int)) = ((j : Nat) : Int) := by omega
    rw [ej]
    have ll := loop_path (s := s_) cc2 (k := k) (f := f' + 1) (by omega) (sp := sp) (n := j) (by omega)
    have ul := ht.len
    rw [List.length_append] at ul
    have ul : us.length ≤ 3700 := by
      have e : ([(stq s_ k + 1, sp, 100 + (k : Int)), (stq s_ k + 2, sp - 1, 100 + (k : Int))] : List Tr).length = 2 := rfl
      omega
    have hls1 := sm _ _ hls0
    have hlc1 := sm _ _ hlc0
    refine ⟨_, rfl, .inl ⟨rfl, _, SqL.of hp⟩, _, rfl, _, rfl, _, _, rfl, rfl, ls, _, _, _, rfl, rfl, SqL.of hls1, (show atI ((stL s_ N).map V.int) ((k : Int) + 1) = _ from stL_at (k := k + 1) (by omega)), _, rfl, _, _, rfl, rfl, _, rfl, _, _, rfl, rfl, _, rfl, _, _, rfl, rfl, _, _, rfl, rfl, (by show 2 ≤ sizeLine; decide), fun l4 n4 => ?_⟩
    have r4 := same_upd' (o := .lst [V.int (100 + (k : Int)), V.int (100 + (k : Int) + 1)]) n4
    have h4 : upd H1 l4 (.lst [V.int (100 + (k : Int)), V.int (100 + (k : Int) + 1)]) l4 = some (.lst [V.int (100 + (k : Int)), V.int (100 + (k : Int) + 1)]) := upd_same
    have hp := r4 _ _ hp
    have ht := ht.mono fun t xs e => r4 _ _ e
    have sm := sm.trans r4
    generalize upd H1 l4 (.lst [V.int (100 + (k : Int)), V.int (100 + (k : Int) + 1)]) = G4 at *
    refine ⟨_, rfl, _, _, rfl, rfl, .inr ⟨_, rfl, l4, _, _, _, rfl, rfl, SqL.of h4, kAK j _ _, (by show 3 ≤ sizeLine; decide), fun l5 n5 => ?_⟩⟩
    have r5 := same_upd' (o := .tup [V.int (stq s_ (k + 1)), V.int (sp - 2), V.int (if 0 < j then 100 + (k : Int) + 1 else 100 + (k : Int))]) n5
    have h5 : upd G4 l5 (.tup [V.int (stq s_ (k + 1)), V.int (sp - 2), V.int (if 0 < j then 100 + (k : Int) + 1 else 100 + (k : Int))]) l5 = some (.tup [V.int (stq s_ (k + 1)), V.int (sp - 2), V.int (if 0 < j then 100 + (k : Int) + 1 else 100 + (k : Int))]) := upd_same
    have hp := r5 _ _ hp
    generalize upd G4 l5 (.tup [V.int (stq s_ (k + 1)), V.int (sp - 2), V.int (if 0 < j then 100 + (k : Int) + 1 else 100 + (k : Int))]) = G5 at *
    have ht := ht.mono fun t xs e => r5 _ _ e
    have sm := sm.trans r5
    refine ⟨p, us, .ref l5, rfl, rfl, hp, hsz (by omega), ?_⟩
    have sm6 : Same H (upd G5 p (.lst (us ++ [V.ref l5]))) := same_of sm fp
    have hp6 : upd G5 p (.lst (us ++ [V.ref l5])) p = some (.lst (us ++ [V.ref l5])) := upd_same
    have t6 : ∀ t xs, G5 t = some (.tup xs) → upd G5 p (.lst (us ++ [V.ref l5])) t = some (.tup xs) := fun t xs e => by
      rw [upd_ne (ne_of e hp (by intro z; cases z))]
      exact e
    have ht6 := (ht.app (TrisAt.one h5)).mono t6
    generalize upd G5 p (.lst (us ++ [V.ref l5])) = G6 at *
    refine ⟨_, rfl, _, rfl, _, rfl, _, rfl, _, _, rfl, rfl, _, rfl, _, _, rfl, rfl, _, rfl, _, _, rfl, rfl, _, rfl, _, _, rfl, rfl, ls, lc, N, f', k + 1, s_, sp - 2, stq s_ k + 3 + (j : Int), cc, rfl, sm6 _ _ hls0, sm6 _ _ hlc0, by omega, by omega, cc2, ccl, N8, fun H7 p7 us7 s7 f7 hp7 ht7 => ?_⟩
    have pl := path_len (s := s_) cc2 (f' + 1) (k + 1) (sp - 2) (stq s_ k + 3 + (j : Int))
    have ul7 := ht7.len
    have pb : 2 ^ (f' + 1) ≤ 2 ^ 8 := Nat.pow_le_pow_right (by decide) (by omega)
    have pe : 2 ^ 8 = 256 := by decide
    refine ⟨p, p7, _, _, rfl, rfl, s7 _ _ hp6, hp7, ?_, fun l8 n8 => ?_⟩
    · rw [List.length_append]
      exact hsz (by show us.length + 1 + us7.length ≤ 100000; omega)
    have r8 := same_upd' (o := .lst (us ++ [V.ref l5] ++ us7)) n8
    have sm8 := sm6.trans s7
    refine ⟨_, l8, _, rfl, sm8.trans r8, sm8.free n8, upd_same, ?_⟩
    have z := ((ht6.mono fun t xs e => s7 _ _ e).app ht7).mono fun t xs e => r8 _ _ e
    rw [List.append_assoc, List.append_assoc] at z
    rw [List.append_assoc]
    exact z
  rintro σ H1 ⟨y7, p, us, rfl, sm, fp, hp, ht⟩
  have ck := cc2 k
  have ht : TrisAt H1 us ([(stq s_ k + 1, sp, 100 + (k : Int)), (stq s_ k + 2, sp - 1, 100 + (k : Int))] ++ loopM (fun j => (stq s_ (k + 1), sp - 2, if 0 < j then 100 + (k : Int) + 1 else 100 + (k : Int)) :: pathM s_ cc f (k + 1) (sp - 2) (stq s_ k + 3 + (j : Int))) (cc k)) := ht
  have ll := loop_path (s := s_) cc2 (k := k) (f := f) (by omega) (sp := sp) (n := cc k) ck
  have ul := ht.len
  rw [List.length_append] at ul
  have ul : us.length ≤ 3700 := by
    have e : ([(stq s_ k + 1, sp, 100 + (k : Int)), (stq s_ k + 2, sp - 1, 100 + (k : Int))] : List Tr).length = 2 := rfl
    omega
  have hlc1 := sm _ _ hlc0
  refine ⟨_, rfl, _, _, rfl, rfl, _, rfl, _, rfl, lc, _, _, _, rfl, rfl, SqL.of hlc1, cL_at kN, _, _, rfl, rfl, ?_⟩
  refine ⟨_, rfl, _, rfl, _, _, rfl, rfl, _, rfl, _, _, rfl, rfl, (by show 3 ≤ sizeLine; decide), fun l1 n1 => ?_⟩
  have r1 := same_upd' (o := .tup [V.int (stq s_ k + 2 + (cc k : Int) + 1), V.int (sp - 1), V.int 7]) n1
  have h1 : upd H1 l1 (.tup [V.int (stq s_ k + 2 + (cc k : Int) + 1), V.int (sp - 1), V.int 7]) l1 = some (.tup [V.int (stq s_ k + 2 + (cc k : Int) + 1), V.int (sp - 1), V.int 7]) := upd_same
  have hp := r1 _ _ hp
  generalize upd H1 l1 (.tup [V.int (stq s_ k + 2 + (cc k : Int) + 1), V.int (sp - 1), V.int 7]) = G1 at *
  refine ⟨_, rfl, _, _, rfl, rfl, _, rfl, _, rfl, _, _, rfl, rfl, (by show 3 ≤ sizeLine; decide), fun l2 n2 => ?_⟩
  have r2 := same_upd' (o := .tup [V.int (stq s_ k + 2 + (cc k : Int) + 2), V.int sp, V.int (100 + (k : Int))]) n2
  have h2 : upd G1 l2 (.tup [V.int (stq s_ k + 2 + (cc k : Int) + 2), V.int sp, V.int (100 + (k : Int))]) l2 = some (.tup [V.int (stq s_ k + 2 + (cc k : Int) + 2), V.int sp, V.int (100 + (k : Int))]) := upd_same
  have hp := r2 _ _ hp
  have h1 := r2 _ _ h1
  generalize upd G1 l2 (.tup [V.int (stq s_ k + 2 + (cc k : Int) + 2), V.int sp, V.int (100 + (k : Int))]) = G2 at *
  refine ⟨(by show 2 ≤ sizeLine; decide), fun l3 n3 => ?_⟩
  have r3 := same_upd' (o := .lst [V.ref l1, V.ref l2]) n3
  have h3 : upd G2 l3 (.lst [V.ref l1, V.ref l2]) l3 = some (.lst [V.ref l1, V.ref l2]) := upd_same
  have hp := r3 _ _ hp
  have h1 := r3 _ _ h1
  have h2 := r3 _ _ h2
  generalize upd G2 l3 (.lst [V.ref l1, V.ref l2]) = G3 at *
  refine ⟨p, l3, _, _, rfl, rfl, hp, h3, hsz (by show us.length + 2 ≤ 100000; omega), fun l4 n4 => ?_⟩
  have r4 := same_upd' (o := .lst (us ++ [V.ref l1, V.ref l2])) n4
  have h4 : upd G3 l4 (.lst (us ++ [V.ref l1, V.ref l2])) l4 = some (.lst (us ++ [V.ref l1, V.ref l2])) := upd_same
  have h1 := r4 _ _ h1
  have h2 := r4 _ _ h2
  generalize upd G3 l4 (.lst (us ++ [V.ref l1, V.ref l2])) = G4 at *
  refine ⟨_, rfl, _, rfl, _, rfl, _, _, rfl, rfl, _, rfl, _, _, rfl, rfl, (by show 3 ≤ sizeLine; decide), fun l5 n5 => ?_⟩
  have r5 := same_upd' (o := .tup [V.int bh, V.int (sp + 1), V.int (100 + (k : Int))]) n5
  have h5 : upd G4 l5 (.tup [V.int bh, V.int (sp + 1), V.int (100 + (k : Int))]) l5 = some (.tup [V.int bh, V.int (sp + 1), V.int (100 + (k : Int))]) := upd_same
  have h1 := r5 _ _ h1
  have h2 := r5 _ _ h2
  have h4 := r5 _ _ h4
  generalize upd G4 l5 (.tup [V.int bh, V.int (sp + 1), V.int (100 + (k : Int))]) = G5 at *
  refine ⟨(by show 1 ≤ sizeLine; decide), fun l6 n6 => ?_⟩
  have r6 := same_upd' (o := .lst [V.ref l5]) n6
  have h6 : upd G5 l6 (.lst [V.ref l5]) l6 = some (.lst [V.ref l5]) := upd_same
  have h1 := r6 _ _ h1
  have h2 := r6 _ _ h2
  have h4 := r6 _ _ h4
  have h5 := r6 _ _ h5
  generalize upd G5 l6 (.lst [V.ref l5]) = G6 at *
  refine ⟨l4, l6, _, _, rfl, rfl, h4, h6, ?_, fun l7 n7 => ?_⟩
  · rw [List.length_append]
    exact hsz (by show us.length + 2 + 1 ≤ 100000; omega)
  have s6 := ((((r1.trans r2).trans r3).trans r4).trans r5).trans r6
  have r7 := same_upd' (o := .lst (us ++ [V.ref l1, V.ref l2] ++ [V.ref l5])) n7
  refine q _ l7 _ (sm.trans (s6.trans r7)) ((sm.trans s6).free n7) upd_same ?_
  have a1 : TrisAt G6 [V.ref l1, V.ref l2] [(stq s_ k + 2 + (cc k : Int) + 1, sp - 1, 7), (stq s_ k + 2 + (cc k : Int) + 2, sp, 100 + (k : Int))] := .cons ⟨l1, rfl, h1⟩ (.cons ⟨l2, rfl, h2⟩ .nil)
  exact (((ht.mono fun t xs e => s6 _ _ e).app a1).app (TrisAt.one h5)).mono fun t xs e => r7 _ _ e
theorem ok_Lpath {f : Addr} {fd : FuncData} (F : Fun K "_law_path" "_law_path" sLpaths f fd) (T : Tx K mg CB CM) (g : mg "_law_path" = some (.ref f)) (kp : PySem.W.keepIn K (.ref f) = true) (b : Binds K fd ["_law_starts", "_law_calls", "_law_k", "_law_sp", "_law_behind"] []) : ∀ n, FnOk P w K mg base CX0 n f fd ["_law_starts", "_law_calls", "_law_k", "_law_sp", "_law_behind"] (spPathL n)
  | 0 => ⟨fun vs H Q E (h : spPathL 0 vs H Q E) => by
      obtain ⟨_, _, _, _, _, _, _, _, _, rfl, _⟩ := h; rfl, fun _ _ _ H _ _ vs Q E _ _ _ _ (h : spPathL 0 vs H Q E) => by
      obtain ⟨_, _, _, _, _, _, _, _, _, _, _, _, _, z, _⟩ := h
      exact absurd z (Nat.not_lt_zero _)⟩
  | n + 1 => ok_Lpaths F T ⟨g, kp, b, ok_Lpath F T g kp b n⟩
end
end Bh

/-! Calls within calls: the law. -/
namespace Bh
open PySem PySem.Spec PyProof.Rows L2
theorem take_snc {α : Type} {l : List α} {i : Nat} {u : α} (h : l[i]? = some u) : l.take (i + 1) = l.take i ++ [u] := by
  rw [List.take_add_one, h]
  rfl
theorem Bp.base_new {CB CM p : Addr} {H0 H H' : Hp} {A : Ad} {ts ls : List V} {x : Bd} (B : Bp CB CM H0 H p A ts ls x) {b : Addr} {o : HO} (n : H b = none) (e : H' b = some o) : baseOf H' p A b = some o := by
  obtain ⟨sv, tv, dv, hp, _⟩ := B.hp
  unfold baseOf
  rw [if_neg]
  · exact e
  · rintro (z | z | z | z | z | z | z) <;> rw [z] at n
    · rw [hp] at n; cases n
    · rw [B.hr] at n; cases n
    · rw [B.hw] at n; cases n
    · rw [B.ht] at n; cases n
    · rw [B.hm] at n; cases n
    · rw [B.hs] at n; cases n
    · rw [B.hl] at n; cases n
theorem TrisAt.get {H : Hp} : ∀ {us : List V} {ls : List Tr} {i : Nat} {v : V}, TrisAt H us ls → us[i]? = some v → ∃ t u, v = .ref t ∧ ls[i]? = some u ∧ H t = some (.tup [.int u.1, .int u.2.1, .int u.2.2])
  | _, _, _, _, .nil, h => by cases h
  | _, _, 0, _, .cons a _, h => by
    obtain ⟨t, e, q⟩ := a
    cases h
    exact ⟨t, _, e, rfl, q⟩
  | _, _, i + 1, _, .cons _ r, h => by
    rw [List.getElem?_cons_succ] at h
    obtain ⟨t, u, e1, e2, e3⟩ := TrisAt.get r h
    exact ⟨t, u, e1, by rw [List.getElem?_cons_succ]; exact e2, e3⟩
theorem tup3 (a b c : Int) : SeqAt.shaped (.tuple [.int a, .int b, .int c]) = true ∧ PyData.canLay0 (.tuple [.int a, .int b, .int c]) = true := ⟨rfl, rfl⟩
/-- the whole way: the first call, the path, the state behind it -/
theorem way12 {img : List Int} {N : Nat} {s : Int} {c : Nat → Nat} (I : ImgOk img N s c) : ∃ z bt m, Along ((stq s 0, 766, 0) :: pathM s c (N - 1 + 1) 0 766 1) (newBd img []) (S 100 0 1 767 z bt m) ∧ Prog m N s c ∧ rd m 767 = 1 ∧ rd m 766 = 100 := by
  have P := I.prog
  have s8 := I.s0
  have s0 : 0 ≤ s := by omega
  have hl := I.le
  have ll := I.len
  have N1 := I.n1
  have N8 := I.n8
  have q0 := stq_lo s0 (N - 1)
  have W0 : rd (memOf img) 0 = 1024 * 15 + stq s 0 := by
    rw [rd_mem (by omega) (by decide) (by omega)]
    exact I.i0
  have u0 := stq_lo s0 0
  have u1 := stq_hi s0 I.s1 (k := 0) (by omega)
  have P1 : Prog (stM (memOf img) 767 1) N s c := P.st s0 I.s1 N8 I.c2 (by decide) (by decide)
  have T := r_call (a := 0) (b := 0) (pc := 0) (sp := 767) (z := false) (bt := 0) (m := memOf img) (n := stq s 0) (by decide) (by decide) P.top (by omega) (by omega) (by decide) (by decide) W0
  obtain ⟨z, bt, m, A, P2, F2, F3⟩ := run12 s0 I.s1 N8 I.c2 I.cl (N - 1) 0 0 766 1 (0 + 2) false (stM (memOf img) 767 1) (by omega) P1 (by omega) (by decide) (rd_stM_same (by decide) (by rw [P.l]; decide)) (by decide) (by decide)
  refine ⟨z, bt, m, ?_, P2, ?_, F3⟩
  · rw [new_S]
    exact al T (by rw [W0]; omega) rfl rfl rfl A
  · rw [F2 767 (by decide)]
    exact rd_stM_same (by decide) (by rw [P.l]; decide)
section
variable {P : Program} {w : World} {K : PySem.W.Frag} {mg : Str → Option Value} {base : Heap} {CB CM : Addr}
abbrev sLaw : Stmt := topS 70
def scLlawN : List Str := ["_law_script", "_law_cells", "_law_cell_here", "_law_image", "_law_starts", "_law_calls", "_law_board", "_law_due", "_law_pc", "_law_sp", "_law_a", "_law_found", "_law_address"]
theorem scLlaw : FnScope scLlawN ["_law_script"] (defScope sLaw) := ⟨rfl, rfl, rfl, by decide +kernel, rfl, by decide +kernel, by decide +kernel⟩
theorem ok_Llaw {f : Addr} {fd : FuncData} {fC_board : Addr} {dC_board : FuncData} {fL_dig : Addr} {dL_dig : FuncData} {fL_nest : Addr} {dL_nest : FuncData} {fL_path : Addr} {dL_path : FuncData} {fM_at : Addr} {dM_at : FuncData} {fM_turn : Addr} {dM_turn : FuncData} (F : Fun K "law" "law" sLaw f fd) (T : Tx K mg CB CM)
    (C_board : CalC P w K mg base CB 6 "Board" ["self", "image", "line"] (spBI CB CM) fC_board dC_board)
    (L_dig : CalF P w K mg base 1 "_law_digits" ["_law_cell_here", "_law_many"] (spDig) fL_dig dL_dig)
    (L_nest : CalF P w K mg base 1 "_law_nest" ["_law_row"] (spNest) fL_nest dL_nest)
    (L_path : CalF P w K mg base 8 "_law_path" ["_law_starts", "_law_calls", "_law_k", "_law_sp", "_law_behind"] (spPathL 8) fL_path dL_path)
    (M_at : CalM P w K mg base CM 1 "word_at" ["self", "address"] (spMAt CM) fM_at dM_at)
    (M_turn : CalM P w K mg base CB 6 "turn" ["self"] (spTurn CB CM) fM_turn dM_turn) : FnOk P w K mg base CX0 9 f fd ["_law_script"] (spLaw K) := by
  refine F.ok scLlaw (fun vs H Q E h => by obtain ⟨_, _, rfl, _⟩ := h; rfl) (fun cdv A outer s H vs Q E hr h => ?_)
  have hu := hu_of hr
  obtain ⟨a, ns, rfl, hS, hn, q⟩ := h
  have hu64 := hr.units
  refine ⟨_, (pss_cons (ps_set (i := 1) scLlaw.nd rfl (.inl rfl) (pe_slice sl_list (pv 0) po_none (po_some pe_int)))
    (pss_cons (ps_if (pt_cmpR (op_eqD hu64) (pv 1) (pe_lst pa_nil) (nomark _)) (pss_one (ps_set (i := 1) scLlaw.nd rfl (.inl rfl) (pe_lst (pa_cons pe_int (pa_cons pe_int pa_nil))))) pss_nil)
    (pss_cons (ps_for PassesOwn.never rfl (pi_list (pv 1)) (pg_name (i := 2) scLlaw.nd rfl (.inl rfl))
      (pss_cons (ps_asg (pe_call L_nest.G (hr.mono (by decide)) (by rfl) L_nest.g L_nest.kp L_nest.b .nil pass0 (pa_cons (pe_call L_dig.G (hr.mono (by decide)) (by rfl) L_dig.g L_dig.kp L_dig.b .nil pass0 (pa_cons (pv 2) (pa_cons pe_int pa_nil))) pa_nil)) (pg_tup rfl (pgs_cons (pg_name (i := 3) scLlaw.nd rfl (.inl rfl)) (pgs_cons (pg_name (i := 4) scLlaw.nd rfl (.inl rfl)) (pgs_cons (pg_name (i := 5) scLlaw.nd rfl (.inl rfl)) pgs_nil)))))
    (pss_cons (ps_set (i := 6) scLlaw.nd rfl (.inr rfl) (pe_make C_board.M C_board.I (hr.mono (by decide)) rfl C_board.g C_board.b .nil pass0 (pa_cons (pv 3) (pa_cons (pe_lst pa_nil) pa_nil))))
    (pss_cons (ps_set (i := 7) scLlaw.nd rfl (.inl rfl) (pe_op op_cat (pe_lst (pa_cons (pe_tup (pa_cons (pe_ix ix_list (pv 4) pe_int (fun _ _ => rfl)) (pa_cons pe_int (pa_cons pe_int pa_nil)))) pa_nil)) (pe_call L_path.G (hr.mono (by decide)) (by rfl) L_path.g L_path.kp L_path.b .nil pass0 (pa_cons (pv 4) (pa_cons (pv 5) (pa_cons pe_int (pa_cons pe_int (pa_cons pe_int pa_nil))))))))
    (pss_cons (ps_for PassesOwn.never rfl (pi_list (pv 7)) (pg_tup rfl (pgs_cons (pg_name (i := 8) scLlaw.nd rfl (.inl rfl)) (pgs_cons (pg_name (i := 9) scLlaw.nd rfl (.inl rfl)) (pgs_cons (pg_name (i := 10) scLlaw.nd rfl (.inl rfl)) pgs_nil))))
      (pss_cons (ps_if (pt_cmpR op_ne (pe_meth0 (pv 6) M_turn.c M_turn.m M_turn.G (hr.mono (by decide)) M_turn.b .nil pass0) pe_str (nomark _)) (pss_one (ps_ret pe_bl)) pss_nil)
    (pss_one (ps_if (pt_cmpR (op_neD hu64) (pe_tup (pa_cons (pe_dget hu (pe_fld (pv 6) rfl) pe_str (fun _ _ => rfl)) (pa_cons (pe_dget hu (pe_fld (pv 6) rfl) pe_str (fun _ _ => rfl)) (pa_cons (pe_dget hu (pe_fld (pv 6) rfl) pe_str (fun _ _ => rfl)) pa_nil)))) (pe_tup (pa_cons (pv 8) (pa_cons (pv 9) (pa_cons (pv 10) pa_nil)))) (nomark _)) (pss_one (ps_ret pe_bl)) pss_nil))))
    (pss_cons (ps_setLc (i := 11) (own := [("_law_address", 12)]) (g := gName 12) (tt := tYes) (by rfl) scLlaw.nd rfl rfl rfl (pi_list (pe_lst (pa_cons pe_int (pa_cons pe_int pa_nil)))) (blkOk_by (own := [("_law_address", 12)]) (N := scLlawN) (sc := defScope sLaw) (by decide +kernel)) (fun _ _ _ _ _ => (pg_name (i := 12) scLlaw.nd rfl (.inl rfl))) (fun _ _ _ _ _ => pts_nil) (fun _ _ _ _ _ => (pe_meth (pe_fldK (K := K) (by rfl) (pv 6) (by rfl)) M_at.c M_at.m M_at.G (hr.mono (by decide)) M_at.b .nil pass0 (pa_cons (pv 12) pa_nil))))
    (pss_cons (ps_if (PW.pt (pw_or (pt_cmpR (op_neD hu64) (pv 11) (pe_lst (pa_cons pe_int (pa_cons pe_int pa_nil))) (nomark _)) (pw_or (pt_cmpR op_ne (pe_meth0 (pv 6) M_turn.c M_turn.m M_turn.G (hr.mono (by decide)) M_turn.b .nil pass0) pe_str (nomark _)) (pw_or1 (pt_cmpR op_notBl (pe_fld (pv 6) rfl) pe_bl (by rfl)))))) (pss_one (ps_ret pe_bl)) pss_nil)
    (pss_one (ps_if (PW.pt (pw_or (pt_cmpR op_ne (pe_meth0 (pv 6) M_turn.c M_turn.m M_turn.G (hr.mono (by decide)) M_turn.b .nil pass0) pe_str (nomark _)) (pw_or1 (pt_cmpR op_ne (pe_dget hu (pe_fld (pv 6) rfl) pe_str (fun _ _ => rfl)) pe_int (nomark _))))) (pss_one (ps_ret pe_bl)) pss_nil)))))))))
    (pss_one (ps_ret pe_bl))))), ?_⟩
  obtain ⟨ms, ems, hms⟩ := cut_ints ns none (some 6)
  refine ⟨_, rfl, _, rfl, a, _, rfl, hS, fun c nc => ?_⟩
  rw [ems]
  have hc0 : SqL K (upd H c (.lst (ms.map V.int))) c (ms.map V.int) := .inl (.inl upd_same)
  refine ⟨_, rfl, Nat.zero_le _, fun e0 ne0 => ?_⟩
  have hc1 : SqL K (upd (upd H c (.lst (ms.map V.int))) e0 (.lst [])) c (ms.map V.int) := (same_upd' ne0).seq hc0
  refine ⟨_, _, .lst hc1 (dp_ints ms), .lst (.inl (.inl upd_same)) .nil, shaped_ints ms, shaped_ints [], _, rfl, ifB (fun _ => ⟨(by show 2 ≤ sizeLine; decide), fun ca nca => ?_⟩) (fun _ => ?_)⟩
  · obtain ⟨ms', hca⟩ : ∃ ms' : List Int, SqL K (upd (upd (upd H c (.lst (ms.map V.int))) e0 (.lst [])) ca (.lst [.int 4, .int 19])) ca (ms'.map V.int) := ⟨[4, 19], .inl (.inl upd_same)⟩
    refine ⟨_, rfl, ca, rfl, ⟨_, hca⟩, ?_⟩
    refine for_list (K := K) (a := ca) (xs := ms'.map V.int) (fun i σ H' => SqL K H' ca (ms'.map V.int) ∧ ∃ y2 y3 y4 y5 y6 y7 y8 y9 y10 y11 y12 : Option V, σ = [some (.ref a), some (.ref ca), y2, y3, y4, y5, y6, y7, y8, y9, y10, y11, y12]) ⟨hca, none, none, none, none, none, none, none, none, none, none, none, rfl⟩ (fun _ _ _ _ h => h.1) ?_ ?_
    · rintro i v σ H1 hi ⟨hca, y2, y3, y4, y5, y6, y7, y8, y9, y10, y11, y12, rfl⟩
      obtain ⟨cell, _, rfl⟩ := getI hi
      refine ⟨_, rfl, cell, 12, rfl, by decide, fun G1 r ds hlen hdg s1 f1 hR => ?_⟩
      refine ⟨r, ds, rfl, hR, hlen, hdg, fun G2 t im ls lc img N s_ cc s2 ht him hls hlc I => ?_⟩
      refine ⟨t, _, rfl, SqT.of ht, rfl, _, _, rfl, _, _, rfl, _, _, rfl, rfl, ?_⟩
      have s12 := s1.trans s2
      have hca := s12.seq hca
      clear s1 s2 hR ht
      refine ⟨_, rfl, Nat.zero_le _, fun l1 n1 => ?_⟩
      have r1 := same_upd' (o := .lst []) n1
      have h1 : upd G2 l1 (.lst []) l1 = some (.lst []) := upd_same
      have him := r1 _ _ him
      have hls := r1 _ _ hls
      have hlc := r1 _ _ hlc
      have hca := r1.seq hca
      generalize upd G2 l1 (.lst []) = G3 at *
      intro p dx nb ndx hdx
      have sb : Same G3 (upd (upd G3 dx (.own p)) p (.ins CB dx [])) := fun z o ez => by
        rw [upd_ne (ne_of_none ez nb), upd_ne (ne_of_none ez ndx)]
        exact ez
      have hl := I.le
      refine ⟨G3, p, dx, im, l1, [], img, [], rfl, sb, nb, upd_same, sb _ _ him, by omega, I.wok, sb _ _ h1, .nil, trivial, fun G4 R => ⟨rfl, ?_⟩⟩
      obtain ⟨A, ts, lsv, B⟩ := R
      have hls4 := B.sm _ _ hls
      have hlc4 := B.sm _ _ hlc
      have N1 := I.n1
      have N8 := I.n8
      refine ⟨_, rfl, ls, _, _, _, rfl, rfl, SqL.of hls4, stL_at (k := 0) (by omega), (by show 3 ≤ sizeLine; decide), fun l2 n2 => ?_⟩
      have r2 := same_upd' (o := .tup [V.int (stq s_ 0), V.int 766, V.int 0]) n2
      have h2 : upd G4 l2 (.tup [V.int (stq s_ 0), V.int 766, V.int 0]) l2 = some (.tup [V.int (stq s_ 0), V.int 766, V.int 0]) := upd_same
      have hls4 := r2 _ _ hls4
      have hlc4 := r2 _ _ hlc4
      generalize upd G4 l2 (.tup [V.int (stq s_ 0), V.int 766, V.int 0]) = G2 at *
      refine ⟨(by show 1 ≤ sizeLine; decide), fun l3 n3 => ?_⟩
      have r3 := same_upd' (o := .lst [V.ref l2]) n3
      have h3 : upd G2 l3 (.lst [V.ref l2]) l3 = some (.lst [V.ref l2]) := upd_same
      have hls4 := r3 _ _ hls4
      have hlc4 := r3 _ _ hlc4
      have h2 := r3 _ _ h2
      generalize upd G2 l3 (.lst [V.ref l2]) = G3 at *
      refine ⟨_, rfl, _, rfl, ls, lc, N, N - 1, 0, s_, 766, 1, cc, rfl, hls4, hlc4, by omega, by omega, I.c2, I.cl, N8, fun G5 p2 us s5 f5 hp2 ht5 => ?_⟩
      have pl := path_len (s := s_) I.c2 (N - 1 + 1) 0 766 1
      have ul := ht5.len
      have pb : 2 ^ (N - 1 + 1) ≤ 2 ^ 8 := Nat.pow_le_pow_right (by decide) (by omega)
      have pe : 2 ^ 8 = 256 := by decide
      refine ⟨l3, p2, _, _, rfl, rfl, s5 _ _ h3, hp2, hsz (by show 1 + us.length ≤ 100000; omega), fun l4 n4 => ?_⟩
      have r4 := same_upd' (o := .lst ([V.ref l2] ++ us)) n4
      have h4 : upd G5 l4 (.lst ([V.ref l2] ++ us)) l4 = some (.lst ([V.ref l2] ++ us)) := upd_same
      have TT : TrisAt (upd G5 l4 (.lst ([V.ref l2] ++ us))) ([V.ref l2] ++ us) ((stq s_ 0, 766, 0) :: pathM s_ cc (N - 1 + 1) 0 766 1) := .cons ⟨l2, rfl, r4 _ _ (s5 _ _ h2)⟩ (ht5.mono fun t xs e => r4 _ _ e)
      have n45 := n4
      have s45 : Same G4 G5 := (r2.trans r3).trans s5
      have B5 := B.same s45
      have Bn := (B5.same r4).rebase
      have hcb : SqL K (baseOf (upd G5 l4 (.lst ([V.ref l2] ++ us))) p A) ca (ms'.map V.int) := (B5.same r4).base_same.seq hca
      have h4b := B5.base_new n45 h4
      have Tb := TT.mono (B5.same r4).base_tup
      generalize upd G5 l4 (.lst ([V.ref l2] ++ us)) = G6 at *
      generalize baseOf G6 p A = Hb at *
      clear B B5 r2 r3 r4 s5 s45 TT h4 h2 h3 hp2 ht5 hls4 hlc4
      obtain ⟨zf, btf, mf, AL, PF, m7, m6⟩ := way12 I
      refine ⟨_, rfl, l4, rfl, ⟨_, SqL.of (Bn.sm _ _ h4b)⟩, ?_⟩
      refine for_list (K := K) (a := l4) (xs := [V.ref l2] ++ us) (fun i σ H' => SqL K H' l4 ([V.ref l2] ++ us) ∧ ∃ (y8 y9 y10 : Option V) (x : Bd), σ = [some (.ref a), some (.ref ca), some (.int cell), some (.ref im), some (.ref ls), some (.ref lc), some (.ref p), some (.ref l4), y8, y9, y10, y11, y12] ∧ BoardAt CB CM Hb H' p x ∧ Along (((stq s_ 0, 766, 0) :: pathM s_ cc (N - 1 + 1) 0 766 1).drop i) x (S 100 0 1 767 zf btf mf)) ⟨SqL.of (Bn.sm _ _ h4b), y8, y9, y10, _, rfl, ⟨_, _, _, Bn⟩, AL⟩ (fun _ _ _ _ h => h.1) ?_ ?_
      · rintro j v σ H2 hj ⟨hl4, y8, y9, y10, x, rfl, R, AL⟩
        obtain ⟨tt, u, rfl, hu_, htu⟩ := Tb.get hj
        obtain ⟨A2, ts2, ls2, B2⟩ := R
        obtain ⟨sv2, tv2, dv2, hp2, hz2⟩ := B2.hp
        obtain ⟨hjl, ej⟩ := List.getElem?_eq_some_iff.mp hu_
        rw [List.drop_eq_getElem_cons hjl, ej] at AL
        obtain ⟨x', et, e1, e2, e3, pk, se, AL⟩ := AL
        refine ⟨tt, _, rfl, SqT.of (B2.sm _ _ htu), rfl, _, _, rfl, _, _, rfl, _, _, rfl, rfl, ?_⟩
        refine ⟨_, rfl, p, A2.dx, _, rfl, hp2, bN_turn, Hb, p, x, rfl, ⟨A2, ts2, ls2, B2⟩, by omega, pk, fun H3 R3 => ?_⟩
        rw [et] at R3 ⊢
        refine ⟨rfl, _, rfl, ifN (fun h => absurd rfl (of_decide_eq_false h)) (fun _ => ?_)⟩
        obtain ⟨A3, ts3, ls3, B3⟩ := R3
        obtain ⟨sv3, tv3, dv3, hp3, hz3⟩ := B3.hp
        refine ⟨_, rfl, p, CB, A3.dx, _, _, rfl, hp3, T.cB, T.n_registers, bF_reg, A3.r, _, rfl, dg (k := Sum.inr "pc") B3.hr rG_pc, _, rfl, p, CB, A3.dx, _, _, rfl, hp3, T.cB, T.n_registers, bF_reg, A3.r, _, rfl, dg (k := Sum.inr "sp") B3.hr rG_sp, _, rfl, p, CB, A3.dx, _, _, rfl, hp3, T.cB, T.n_registers, bF_reg, A3.r, _, rfl, dg (k := Sum.inr "a") B3.hr rG_a, (by show 3 ≤ sizeLine; decide), fun l7 n7 => ?_⟩
        have e1 : x'.pc = u.1 := e1
        have e2 : x'.sp = u.2.1 := e2
        have e3 : x'.a = u.2.2 := e3
        have r7 := same_upd' (o := .tup [V.int x'.pc, V.int x'.sp, V.int x'.a]) n7
        have h7 : upd H3 l7 (.tup [V.int x'.pc, V.int x'.sp, V.int x'.a]) l7 = some (.tup [V.int x'.pc, V.int x'.sp, V.int x'.a]) := upd_same
        generalize upd H3 l7 (.tup [V.int x'.pc, V.int x'.sp, V.int x'.a]) = H4 at *
        refine ⟨_, rfl, _, rfl, _, rfl, (by show 3 ≤ sizeLine; decide), fun l8 n8 => ?_⟩
        have r8 := same_upd' (o := .tup [V.int u.1, V.int u.2.1, V.int u.2.2]) n8
        have h8 : upd H4 l8 (.tup [V.int u.1, V.int u.2.1, V.int u.2.2]) l8 = some (.tup [V.int u.1, V.int u.2.1, V.int u.2.2]) := upd_same
        have h7 := r8 _ _ h7
        generalize upd H4 l8 (.tup [V.int u.1, V.int u.2.1, V.int u.2.2]) = H5 at *
        refine ⟨_, _, .tup (SqT.of h7) (.cons (.int _) (.cons (.int _) (.cons (.int _) .nil))), .tup (SqT.of h8) (.cons (.int _) (.cons (.int _) (.cons (.int _) .nil))), (tup3 _ _ _).1, (tup3 _ _ _).1, _, rfl, ?_⟩
        rw [e1, e2, e3, SeqAt.eqv_refl _ (tup3 _ _ _).2]
        refine ifB (fun h => by cases h) (fun _ => ?_)
        have s35 := r7.trans r8
        exact ⟨SqL.of (s35 _ _ (B3.sm _ _ h4b)), _, _, _, x', rfl, ⟨_, _, _, B3.same s35⟩, AL⟩
      rintro σ H2 ⟨hl4, y8, y9, y10, x, rfl, R, AL⟩
      have el : (([V.ref l2] ++ us : List V).length) = ((stq s_ 0, 766, 0) :: pathM s_ cc (N - 1 + 1) 0 766 1 : List Tr).length := Tb.len
      rw [el, List.drop_length] at AL
      have ex : x = S 100 0 1 767 zf btf mf := AL
      subst ex
      obtain ⟨A2, ts2, ls2, B2⟩ := R
      refine ⟨(by show 2 ≤ sizeLine; decide), fun k1 nk1 => ?_⟩
      have q1 := same_upd' (o := .lst [V.int 767, V.int 766]) nk1
      have hk1 : upd H2 k1 (.lst [V.int 767, V.int 766]) k1 = some (.lst (([767, 766] : List Int).map V.int)) := upd_same
      generalize upd H2 k1 (.lst [V.int 767, V.int 766]) = H3 at *
      refine ⟨k1, rfl, ⟨_, SqL.of hk1⟩, fun D nD => ?_⟩
      refine lc_list (K := K) (a := k1) (xs := ([767, 766] : List Int).map V.int) (fun i' H' => Same H3 H' ∧ H' D = some (.lst ((([767, 766] : List Int).map fun z => V.int (rd mf z)).take i'))) ⟨same_upd' nD, upd_same⟩ (fun i' H' _ h => SqL.of (h.1 _ _ hk1)) ?_ ?_
      · rintro j v H' hv ⟨sm, hD⟩
        obtain ⟨z, hz, rfl⟩ := getI hv
        have hj : j < 2 := (List.getElem?_eq_some_iff.mp hz).1
        have hz2 := List.mem_of_getElem? hz
        have Bj := B2.same (q1.trans sm)
        obtain ⟨sv1, tv1, dv1, hp1, hz1⟩ := Bj.hp
        refine ⟨rfl, ?_⟩
        simp only [List.mem_cons, List.not_mem_nil, or_false] at hz2
        refine ⟨_, rfl, p, CB, A2.dx, _, _, rfl, hp1, T.cB, T.n_memory, bF_mem, A2.m, A2.dm, _, rfl, Bj.hm, mN_at, _, rfl, A2.m, A2.dm, A2.w, A2.s, mf, z, rfl, Bj.mem, by omega, by omega, ?_⟩
        have e2 : (([767, 766] : List Int).map fun z => V.int (rd mf z))[j]? = some (.int (rd mf z)) := by rw [List.getElem?_map, hz]; rfl
        refine ⟨_, hD, ?_, same_of sm nD, ?_⟩
        · exact small1000 (Nat.le_trans (List.length_take_le' ..) (show 2 ≤ 1000 by decide))
        · rw [upd_same, take_snc e2]
      rintro H4 ⟨s4, hD⟩
      have hD : H4 D = some (.lst [V.int (rd mf 767), V.int (rd mf 766)]) := hD
      rw [m7, m6] at hD
      refine ⟨_, rfl, (by show 2 ≤ sizeLine; decide), fun k2 nk2 => ?_⟩
      have q2 := same_upd' (o := .lst [V.int 1, V.int 100]) nk2
      have hk2 : upd H4 k2 (.lst [V.int 1, V.int 100]) k2 = some (.lst (([1, 100] : List Int).map V.int)) := upd_same
      have hD := q2 _ _ hD
      generalize upd H4 k2 (.lst [V.int 1, V.int 100]) = H5 at *
      refine ⟨_, _, .lst (SqL.of hD) (dp_ints [1, 100]), .lst (SqL.of hk2) (dp_ints [1, 100]), shaped_ints [1, 100], shaped_ints [1, 100], _, rfl, ?_⟩
      rw [SeqAt.eqv_refl (.list (([1, 100] : List Int).map PyData.int)) (show PyData.canLay0 (.list (([1, 100] : List Int).map PyData.int)) = true from can_ints _)]
      refine ifB (fun h => by cases h) (fun _ => ?_)
      have B5 := B2.same ((q1.trans s4).trans q2)
      obtain ⟨sv5, tv5, dv5, hp5, hz5⟩ := B5.hp
      have pk5 : PcOk (S 100 0 1 767 zf btf mf) := fun _ _ => by
        show 0 ≤ rd mf 1
        rw [PF.slp]
        decide
      have t5 := r_sleep (a := 100) (b := 0) (pc := 1) (sp := 767) (z := zf) (bt := btf) (m := mf) (n := 0) (by decide) (by decide) PF.top (by decide) (by decide) PF.slp
      refine ⟨_, rfl, p, A2.dx, _, rfl, hp5, bN_turn, Hb, p, _, rfl, ⟨_, _, _, B5⟩, (by show 0 < 900000; decide), pk5, fun H6 R6 => ?_⟩
      rw [t5] at R6 ⊢
      refine ⟨rfl, _, rfl, ifN (fun h => absurd rfl (of_decide_eq_false h)) (fun _ => ?_)⟩
      obtain ⟨A6, ts6, ls6, B6⟩ := R6
      obtain ⟨sv6, tv6, dv6, hp6, hz6⟩ := B6.hp
      refine ⟨_, rfl, p, CB, A6.dx, _, _, rfl, hp6, T.cB, T.n_asleep, bF_asleep, _, _, rfl, rfl, _, rfl, ifN (fun h => absurd rfl (of_decide_eq_false h)) (fun _ => ?_)⟩
      obtain ⟨y, t6, e6⟩ := r_asleep (a := 100) (b := 0) (pc := 1 + 1) (sp := 767) (z := zf) (bt := btf + 1) (m := mf) PF.fl PF.msk
      have pk6 : PcOk { S 100 0 (1 + 1) 767 zf (btf + 1) mf with asleep := true } := fun _ _ => PF.p2
      refine ⟨_, rfl, p, A6.dx, _, rfl, hp6, bN_turn, Hb, p, _, rfl, ⟨_, _, _, B6⟩, (by show 0 < 900000; decide), pk6, fun H7 R7 => ?_⟩
      rw [t6] at R7 ⊢
      refine ⟨rfl, _, rfl, ifN (fun h => absurd rfl (of_decide_eq_false h)) (fun _ => ?_)⟩
      obtain ⟨A7, ts7, ls7, B7⟩ := R7
      obtain ⟨sv7, tv7, dv7, hp7, hz7⟩ := B7.hp
      refine ⟨_, rfl, p, CB, A7.dx, _, _, rfl, hp7, T.cB, T.n_registers, bF_reg, A7.r, _, rfl, dg (k := Sum.inr "sp") B7.hr rG_sp, rfl, _, rfl, ?_⟩
      rw [e6]
      refine ifN (fun h => absurd rfl (of_decide_eq_false h)) (fun _ => ?_)
      exact ⟨B7.sm.seq hcb, _, _, _, _, _, _, _, _, _, _, _, rfl⟩
    · rintro σ H1 ⟨_, y2, y3, y4, y5, y6, y7, y8, y9, y10, y11, y12, rfl⟩
      exact q _
  · obtain ⟨ms', hca⟩ : ∃ ms' : List Int, SqL K (upd (upd H c (.lst (ms.map V.int))) e0 (.lst [])) c (ms'.map V.int) := ⟨ms, hc1⟩
    refine ⟨_, rfl, c, rfl, ⟨_, hca⟩, ?_⟩
    refine for_list (K := K) (a := c) (xs := ms'.map V.int) (fun i σ H' => SqL K H' c (ms'.map V.int) ∧ ∃ y2 y3 y4 y5 y6 y7 y8 y9 y10 y11 y12 : Option V, σ = [some (.ref a), some (.ref c), y2, y3, y4, y5, y6, y7, y8, y9, y10, y11, y12]) ⟨hca, none, none, none, none, none, none, none, none, none, none, none, rfl⟩ (fun _ _ _ _ h => h.1) ?_ ?_
    · rintro i v σ H1 hi ⟨hca, y2, y3, y4, y5, y6, y7, y8, y9, y10, y11, y12, rfl⟩
      obtain ⟨cell, _, rfl⟩ := getI hi
      refine ⟨_, rfl, cell, 12, rfl, by decide, fun G1 r ds hlen hdg s1 f1 hR => ?_⟩
      refine ⟨r, ds, rfl, hR, hlen, hdg, fun G2 t im ls lc img N s_ cc s2 ht him hls hlc I => ?_⟩
      refine ⟨t, _, rfl, SqT.of ht, rfl, _, _, rfl, _, _, rfl, _, _, rfl, rfl, ?_⟩
      have s12 := s1.trans s2
      have hca := s12.seq hca
      clear s1 s2 hR ht
      refine ⟨_, rfl, Nat.zero_le _, fun l1 n1 => ?_⟩
      have r1 := same_upd' (o := .lst []) n1
      have h1 : upd G2 l1 (.lst []) l1 = some (.lst []) := upd_same
      have him := r1 _ _ him
      have hls := r1 _ _ hls
      have hlc := r1 _ _ hlc
      have hca := r1.seq hca
      generalize upd G2 l1 (.lst []) = G3 at *
      intro p dx nb ndx hdx
      have sb : Same G3 (upd (upd G3 dx (.own p)) p (.ins CB dx [])) := fun z o ez => by
        rw [upd_ne (ne_of_none ez nb), upd_ne (ne_of_none ez ndx)]
        exact ez
      have hl := I.le
      refine ⟨G3, p, dx, im, l1, [], img, [], rfl, sb, nb, upd_same, sb _ _ him, by omega, I.wok, sb _ _ h1, .nil, trivial, fun G4 R => ⟨rfl, ?_⟩⟩
      obtain ⟨A, ts, lsv, B⟩ := R
      have hls4 := B.sm _ _ hls
      have hlc4 := B.sm _ _ hlc
      have N1 := I.n1
      have N8 := I.n8
      refine ⟨_, rfl, ls, _, _, _, rfl, rfl, SqL.of hls4, stL_at (k := 0) (by omega), (by show 3 ≤ sizeLine; decide), fun l2 n2 => ?_⟩
      have r2 := same_upd' (o := .tup [V.int (stq s_ 0), V.int 766, V.int 0]) n2
      have h2 : upd G4 l2 (.tup [V.int (stq s_ 0), V.int 766, V.int 0]) l2 = some (.tup [V.int (stq s_ 0), V.int 766, V.int 0]) := upd_same
      have hls4 := r2 _ _ hls4
      have hlc4 := r2 _ _ hlc4
      generalize upd G4 l2 (.tup [V.int (stq s_ 0), V.int 766, V.int 0]) = G2 at *
      refine ⟨(by show 1 ≤ sizeLine; decide), fun l3 n3 => ?_⟩
      have r3 := same_upd' (o := .lst [V.ref l2]) n3
      have h3 : upd G2 l3 (.lst [V.ref l2]) l3 = some (.lst [V.ref l2]) := upd_same
      have hls4 := r3 _ _ hls4
      have hlc4 := r3 _ _ hlc4
      have h2 := r3 _ _ h2
      generalize upd G2 l3 (.lst [V.ref l2]) = G3 at *
      refine ⟨_, rfl, _, rfl, ls, lc, N, N - 1, 0, s_, 766, 1, cc, rfl, hls4, hlc4, by omega, by omega, I.c2, I.cl, N8, fun G5 p2 us s5 f5 hp2 ht5 => ?_⟩
      have pl := path_len (s := s_) I.c2 (N - 1 + 1) 0 766 1
      have ul := ht5.len
      have pb : 2 ^ (N - 1 + 1) ≤ 2 ^ 8 := Nat.pow_le_pow_right (by decide) (by omega)
      have pe : 2 ^ 8 = 256 := by decide
      refine ⟨l3, p2, _, _, rfl, rfl, s5 _ _ h3, hp2, hsz (by show 1 + us.length ≤ 100000; omega), fun l4 n4 => ?_⟩
      have r4 := same_upd' (o := .lst ([V.ref l2] ++ us)) n4
      have h4 : upd G5 l4 (.lst ([V.ref l2] ++ us)) l4 = some (.lst ([V.ref l2] ++ us)) := upd_same
      have TT : TrisAt (upd G5 l4 (.lst ([V.ref l2] ++ us))) ([V.ref l2] ++ us) ((stq s_ 0, 766, 0) :: pathM s_ cc (N - 1 + 1) 0 766 1) := .cons ⟨l2, rfl, r4 _ _ (s5 _ _ h2)⟩ (ht5.mono fun t xs e => r4 _ _ e)
      have n45 := n4
      have s45 : Same G4 G5 := (r2.trans r3).trans s5
      have B5 := B.same s45
      have Bn := (B5.same r4).rebase
      have hcb : SqL K (baseOf (upd G5 l4 (.lst ([V.ref l2] ++ us))) p A) c (ms'.map V.int) := (B5.same r4).base_same.seq hca
      have h4b := B5.base_new n45 h4
      have Tb := TT.mono (B5.same r4).base_tup
      generalize upd G5 l4 (.lst ([V.ref l2] ++ us)) = G6 at *
      generalize baseOf G6 p A = Hb at *
      clear B B5 r2 r3 r4 s5 s45 TT h4 h2 h3 hp2 ht5 hls4 hlc4
      obtain ⟨zf, btf, mf, AL, PF, m7, m6⟩ := way12 I
      refine ⟨_, rfl, l4, rfl, ⟨_, SqL.of (Bn.sm _ _ h4b)⟩, ?_⟩
      refine for_list (K := K) (a := l4) (xs := [V.ref l2] ++ us) (fun i σ H' => SqL K H' l4 ([V.ref l2] ++ us) ∧ ∃ (y8 y9 y10 : Option V) (x : Bd), σ = [some (.ref a), some (.ref c), some (.int cell), some (.ref im), some (.ref ls), some (.ref lc), some (.ref p), some (.ref l4), y8, y9, y10, y11, y12] ∧ BoardAt CB CM Hb H' p x ∧ Along (((stq s_ 0, 766, 0) :: pathM s_ cc (N - 1 + 1) 0 766 1).drop i) x (S 100 0 1 767 zf btf mf)) ⟨SqL.of (Bn.sm _ _ h4b), y8, y9, y10, _, rfl, ⟨_, _, _, Bn⟩, AL⟩ (fun _ _ _ _ h => h.1) ?_ ?_
      · rintro j v σ H2 hj ⟨hl4, y8, y9, y10, x, rfl, R, AL⟩
        obtain ⟨tt, u, rfl, hu_, htu⟩ := Tb.get hj
        obtain ⟨A2, ts2, ls2, B2⟩ := R
        obtain ⟨sv2, tv2, dv2, hp2, hz2⟩ := B2.hp
        obtain ⟨hjl, ej⟩ := List.getElem?_eq_some_iff.mp hu_
        rw [List.drop_eq_getElem_cons hjl, ej] at AL
        obtain ⟨x', et, e1, e2, e3, pk, se, AL⟩ := AL
        refine ⟨tt, _, rfl, SqT.of (B2.sm _ _ htu), rfl, _, _, rfl, _, _, rfl, _, _, rfl, rfl, ?_⟩
        refine ⟨_, rfl, p, A2.dx, _, rfl, hp2, bN_turn, Hb, p, x, rfl, ⟨A2, ts2, ls2, B2⟩, by omega, pk, fun H3 R3 => ?_⟩
        rw [et] at R3 ⊢
        refine ⟨rfl, _, rfl, ifN (fun h => absurd rfl (of_decide_eq_false h)) (fun _ => ?_)⟩
        obtain ⟨A3, ts3, ls3, B3⟩ := R3
        obtain ⟨sv3, tv3, dv3, hp3, hz3⟩ := B3.hp
        refine ⟨_, rfl, p, CB, A3.dx, _, _, rfl, hp3, T.cB, T.n_registers, bF_reg, A3.r, _, rfl, dg (k := Sum.inr "pc") B3.hr rG_pc, _, rfl, p, CB, A3.dx, _, _, rfl, hp3, T.cB, T.n_registers, bF_reg, A3.r, _, rfl, dg (k := Sum.inr "sp") B3.hr rG_sp, _, rfl, p, CB, A3.dx, _, _, rfl, hp3, T.cB, T.n_registers, bF_reg, A3.r, _, rfl, dg (k := Sum.inr "a") B3.hr rG_a, (by show 3 ≤ sizeLine; decide), fun l7 n7 => ?_⟩
        have e1 : x'.pc = u.1 := e1
        have e2 : x'.sp = u.2.1 := e2
        have e3 : x'.a = u.2.2 := e3
        have r7 := same_upd' (o := .tup [V.int x'.pc, V.int x'.sp, V.int x'.a]) n7
        have h7 : upd H3 l7 (.tup [V.int x'.pc, V.int x'.sp, V.int x'.a]) l7 = some (.tup [V.int x'.pc, V.int x'.sp, V.int x'.a]) := upd_same
        generalize upd H3 l7 (.tup [V.int x'.pc, V.int x'.sp, V.int x'.a]) = H4 at *
        refine ⟨_, rfl, _, rfl, _, rfl, (by show 3 ≤ sizeLine; decide), fun l8 n8 => ?_⟩
        have r8 := same_upd' (o := .tup [V.int u.1, V.int u.2.1, V.int u.2.2]) n8
        have h8 : upd H4 l8 (.tup [V.int u.1, V.int u.2.1, V.int u.2.2]) l8 = some (.tup [V.int u.1, V.int u.2.1, V.int u.2.2]) := upd_same
        have h7 := r8 _ _ h7
        generalize upd H4 l8 (.tup [V.int u.1, V.int u.2.1, V.int u.2.2]) = H5 at *
        refine ⟨_, _, .tup (SqT.of h7) (.cons (.int _) (.cons (.int _) (.cons (.int _) .nil))), .tup (SqT.of h8) (.cons (.int _) (.cons (.int _) (.cons (.int _) .nil))), (tup3 _ _ _).1, (tup3 _ _ _).1, _, rfl, ?_⟩
        rw [e1, e2, e3, SeqAt.eqv_refl _ (tup3 _ _ _).2]
        refine ifB (fun h => by cases h) (fun _ => ?_)
        have s35 := r7.trans r8
        exact ⟨SqL.of (s35 _ _ (B3.sm _ _ h4b)), _, _, _, x', rfl, ⟨_, _, _, B3.same s35⟩, AL⟩
      rintro σ H2 ⟨hl4, y8, y9, y10, x, rfl, R, AL⟩
      have el : (([V.ref l2] ++ us : List V).length) = ((stq s_ 0, 766, 0) :: pathM s_ cc (N - 1 + 1) 0 766 1 : List Tr).length := Tb.len
      rw [el, List.drop_length] at AL
      have ex : x = S 100 0 1 767 zf btf mf := AL
      subst ex
      obtain ⟨A2, ts2, ls2, B2⟩ := R
      refine ⟨(by show 2 ≤ sizeLine; decide), fun k1 nk1 => ?_⟩
      have q1 := same_upd' (o := .lst [V.int 767, V.int 766]) nk1
      have hk1 : upd H2 k1 (.lst [V.int 767, V.int 766]) k1 = some (.lst (([767, 766] : List Int).map V.int)) := upd_same
      generalize upd H2 k1 (.lst [V.int 767, V.int 766]) = H3 at *
      refine ⟨k1, rfl, ⟨_, SqL.of hk1⟩, fun D nD => ?_⟩
      refine lc_list (K := K) (a := k1) (xs := ([767, 766] : List Int).map V.int) (fun i' H' => Same H3 H' ∧ H' D = some (.lst ((([767, 766] : List Int).map fun z => V.int (rd mf z)).take i'))) ⟨same_upd' nD, upd_same⟩ (fun i' H' _ h => SqL.of (h.1 _ _ hk1)) ?_ ?_
      · rintro j v H' hv ⟨sm, hD⟩
        obtain ⟨z, hz, rfl⟩ := getI hv
        have hj : j < 2 := (List.getElem?_eq_some_iff.mp hz).1
        have hz2 := List.mem_of_getElem? hz
        have Bj := B2.same (q1.trans sm)
        obtain ⟨sv1, tv1, dv1, hp1, hz1⟩ := Bj.hp
        refine ⟨rfl, ?_⟩
        simp only [List.mem_cons, List.not_mem_nil, or_false] at hz2
        refine ⟨_, rfl, p, CB, A2.dx, _, _, rfl, hp1, T.cB, T.n_memory, bF_mem, A2.m, A2.dm, _, rfl, Bj.hm, mN_at, _, rfl, A2.m, A2.dm, A2.w, A2.s, mf, z, rfl, Bj.mem, by omega, by omega, ?_⟩
        have e2 : (([767, 766] : List Int).map fun z => V.int (rd mf z))[j]? = some (.int (rd mf z)) := by rw [List.getElem?_map, hz]; rfl
        refine ⟨_, hD, ?_, same_of sm nD, ?_⟩
        · exact small1000 (Nat.le_trans (List.length_take_le' ..) (show 2 ≤ 1000 by decide))
        · rw [upd_same, take_snc e2]
      rintro H4 ⟨s4, hD⟩
      have hD : H4 D = some (.lst [V.int (rd mf 767), V.int (rd mf 766)]) := hD
      rw [m7, m6] at hD
      refine ⟨_, rfl, (by show 2 ≤ sizeLine; decide), fun k2 nk2 => ?_⟩
      have q2 := same_upd' (o := .lst [V.int 1, V.int 100]) nk2
      have hk2 : upd H4 k2 (.lst [V.int 1, V.int 100]) k2 = some (.lst (([1, 100] : List Int).map V.int)) := upd_same
      have hD := q2 _ _ hD
      generalize upd H4 k2 (.lst [V.int 1, V.int 100]) = H5 at *
      refine ⟨_, _, .lst (SqL.of hD) (dp_ints [1, 100]), .lst (SqL.of hk2) (dp_ints [1, 100]), shaped_ints [1, 100], shaped_ints [1, 100], _, rfl, ?_⟩
      rw [SeqAt.eqv_refl (.list (([1, 100] : List Int).map PyData.int)) (show PyData.canLay0 (.list (([1, 100] : List Int).map PyData.int)) = true from can_ints _)]
      refine ifB (fun h => by cases h) (fun _ => ?_)
      have B5 := B2.same ((q1.trans s4).trans q2)
      obtain ⟨sv5, tv5, dv5, hp5, hz5⟩ := B5.hp
      have pk5 : PcOk (S 100 0 1 767 zf btf mf) := fun _ _ => by
        show 0 ≤ rd mf 1
        rw [PF.slp]
        decide
      have t5 := r_sleep (a := 100) (b := 0) (pc := 1) (sp := 767) (z := zf) (bt := btf) (m := mf) (n := 0) (by decide) (by decide) PF.top (by decide) (by decide) PF.slp
      refine ⟨_, rfl, p, A2.dx, _, rfl, hp5, bN_turn, Hb, p, _, rfl, ⟨_, _, _, B5⟩, (by show 0 < 900000; decide), pk5, fun H6 R6 => ?_⟩
      rw [t5] at R6 ⊢
      refine ⟨rfl, _, rfl, ifN (fun h => absurd rfl (of_decide_eq_false h)) (fun _ => ?_)⟩
      obtain ⟨A6, ts6, ls6, B6⟩ := R6
      obtain ⟨sv6, tv6, dv6, hp6, hz6⟩ := B6.hp
      refine ⟨_, rfl, p, CB, A6.dx, _, _, rfl, hp6, T.cB, T.n_asleep, bF_asleep, _, _, rfl, rfl, _, rfl, ifN (fun h => absurd rfl (of_decide_eq_false h)) (fun _ => ?_)⟩
      obtain ⟨y, t6, e6⟩ := r_asleep (a := 100) (b := 0) (pc := 1 + 1) (sp := 767) (z := zf) (bt := btf + 1) (m := mf) PF.fl PF.msk
      have pk6 : PcOk { S 100 0 (1 + 1) 767 zf (btf + 1) mf with asleep := true } := fun _ _ => PF.p2
      refine ⟨_, rfl, p, A6.dx, _, rfl, hp6, bN_turn, Hb, p, _, rfl, ⟨_, _, _, B6⟩, (by show 0 < 900000; decide), pk6, fun H7 R7 => ?_⟩
      rw [t6] at R7 ⊢
      refine ⟨rfl, _, rfl, ifN (fun h => absurd rfl (of_decide_eq_false h)) (fun _ => ?_)⟩
      obtain ⟨A7, ts7, ls7, B7⟩ := R7
      obtain ⟨sv7, tv7, dv7, hp7, hz7⟩ := B7.hp
      refine ⟨_, rfl, p, CB, A7.dx, _, _, rfl, hp7, T.cB, T.n_registers, bF_reg, A7.r, _, rfl, dg (k := Sum.inr "sp") B7.hr rG_sp, rfl, _, rfl, ?_⟩
      rw [e6]
      refine ifN (fun h => absurd rfl (of_decide_eq_false h)) (fun _ => ?_)
      exact ⟨B7.sm.seq hcb, _, _, _, _, _, _, _, _, _, _, _, rfl⟩
    · rintro σ H1 ⟨_, y2, y3, y4, y5, y6, y7, y8, y9, y10, y11, y12, rfl⟩
      exact q _
end
end Bh

/-! What the top has written; the head. -/
namespace Bh
open PySem PySem.Spec PyProof.Rows L2
def relB : List Str → List Value → Bool
  | [], [] => true
  | x :: xs, u :: us => Value.isStrOf x u && relB xs us
  | _, _ => false
theorem relB_vals : ∀ {xs : List Str} {us : List Value}, relB xs us = true → Vals (xs.map V.str) us
  | [], [], _ => .nil
  | x :: xs, u :: us, h => by
    unfold relB at h
    rw [Bool.and_eq_true] at h
    obtain ⟨t, e⟩ := Value.isStrOf_shape h.1
    exact .cons ⟨t, e⟩ (relB_vals h.2)
  | [], _ :: _, h => by cases h
  | _ :: _, [], h => by cases h
theorem tup_of {K : PySem.W.Frag} {a : Addr} {xs : List Str} {its : Array Value} {n : Nat} {sl : Array (Option Value)} (l : K.lookup a = some ⟨.type "tuple", none, .seq its n, sl⟩) (v : relB xs its.toList = true) (hx : xs.length ≤ 1000) : ∀ H, SqT K H a (xs.map V.str) := fun H => by
  have r := relB_vals v
  have hl := r.length
  rw [List.length_map] at hl
  refine .inr ⟨_, its, n, l, rfl, rfl, ?_, r⟩
  rw [← Array.length_toList, ← hl]
  exact Nat.le_of_lt (small1000 hx)
theorem fun_mk {K : PySem.W.Frag} {x qual : Str} {st : Stmt} {f : Addr} {oc : Value} {od : Option Addr} {kV doc pm : Value} {an : Option Addr} {cdv ct : Value} {osl : Array (Option Value)} (l : K.lookup f = some ⟨oc, od, .func (PySem.W.fnOf x qual (defArgs st) (defBody st) (defScope st) .none kV doc pm an cdv ct), osl⟩)
    (c : PySem.W.codeIn K cdv qual = true) (kp : PySem.W.keepIn K (.ref f) = true) : Fun K x qual st f (PySem.W.fnOf x qual (defArgs st) (defBody st) (defScope st) .none kV doc pm an cdv ct) := ⟨⟨_, _, _, _, _, _, _, _, _, rfl, l, c⟩, kp⟩
set_option linter.unusedVariables false in
theorem all_mk {l : PySem.W.OpenLaw} {w : World} {K : PySem.W.Frag} {h : Heap} {mg : Str → Option Value} {fa CB CM : Addr} (X : K.In h) (G : h.Ns mainGlobals mg) (hfa : mg "law" = some (.ref fa))
    {f_barof f_iswhole f_isbetween f_isword f_isimage f_isline f_islinerow f_touchesof f_give f_firstregisters f_dolit f_doget f_doput f_doadd f_dosub f_doand f_doxor f_doputb f_dotob f_doswap f_dogo f_doifz f_doifn f_docall f_doret f_dopush f_dopop f_dosleep f_dolet f_doback f_dohalf f_lawdigits f_lawnest f_lawpath f_law f_CMinit f_CMwordat f_CMread f_CMput f_CMcalledflags f_CMtakeline f_CMgotimer f_CBinit f_CBcoming f_CBturn f_CBbegininterrupt f_CBdodeed f_CBmaytouch f_CBstop f_CBputbyturn f_CBputword f_CBpassbeats f_CBcomeline aR aO aD : Addr} {od_barof an_barof od_iswhole an_iswhole od_isbetween an_isbetween od_isword an_isword od_isimage an_isimage od_isline an_isline od_islinerow an_islinerow od_touchesof an_touchesof od_give an_give od_firstregisters an_firstregisters od_dolit an_dolit od_doget an_doget od_doput an_doput od_doadd an_doadd od_dosub an_dosub od_doand an_doand od_doxor an_doxor od_doputb an_doputb od_dotob an_dotob od_doswap an_doswap od_dogo an_dogo od_doifz an_doifz od_doifn an_doifn od_docall an_docall od_doret an_doret od_dopush an_dopush od_dopop an_dopop od_dosleep an_dosleep od_dolet an_dolet od_doback an_doback od_dohalf an_dohalf od_lawdigits an_lawdigits od_lawnest an_lawnest od_lawpath an_lawpath od_law an_law od_CMinit an_CMinit od_CMwordat an_CMwordat od_CMread an_CMread od_CMput an_CMput od_CMcalledflags an_CMcalledflags od_CMtakeline an_CMtakeline od_CMgotimer an_CMgotimer od_CBinit an_CBinit od_CBcoming an_CBcoming od_CBturn an_CBturn od_CBbegininterrupt an_CBbegininterrupt od_CBdodeed an_CBdodeed od_CBmaytouch an_CBmaytouch od_CBstop an_CBstop od_CBputbyturn an_CBputbyturn od_CBputword an_CBputword od_CBpassbeats an_CBpassbeats od_CBcomeline an_CBcomeline : Option Addr} {sl_barof sl_iswhole sl_isbetween sl_isword sl_isimage sl_isline sl_islinerow sl_touchesof sl_give sl_firstregisters sl_dolit sl_doget sl_doput sl_doadd sl_dosub sl_doand sl_doxor sl_doputb sl_dotob sl_doswap sl_dogo sl_doifz sl_doifn sl_docall sl_doret sl_dopush sl_dopop sl_dosleep sl_dolet sl_doback sl_dohalf sl_lawdigits sl_lawnest sl_lawpath sl_law sl_CMinit sl_CMwordat sl_CMread sl_CMput sl_CMcalledflags sl_CMtakeline sl_CMgotimer sl_CBinit sl_CBcoming sl_CBturn sl_CBbegininterrupt sl_CBdodeed sl_CBmaytouch sl_CBstop sl_CBputbyturn sl_CBputword sl_CBpassbeats sl_CBcomeline sl_aR sl_aO : Array (Option Value)} {oc_barof kV_barof dc_barof pm_barof cd_barof ct_barof oc_iswhole kV_iswhole dc_iswhole pm_iswhole cd_iswhole ct_iswhole oc_isbetween kV_isbetween dc_isbetween pm_isbetween cd_isbetween ct_isbetween oc_isword kV_isword dc_isword pm_isword cd_isword ct_isword oc_isimage kV_isimage dc_isimage pm_isimage cd_isimage ct_isimage oc_isline kV_isline dc_isline pm_isline cd_isline ct_isline oc_islinerow kV_islinerow dc_islinerow pm_islinerow cd_islinerow ct_islinerow oc_touchesof kV_touchesof dc_touchesof pm_touchesof cd_touchesof ct_touchesof oc_give kV_give dc_give pm_give cd_give ct_give oc_firstregisters kV_firstregisters dc_firstregisters pm_firstregisters cd_firstregisters ct_firstregisters oc_dolit kV_dolit dc_dolit pm_dolit cd_dolit ct_dolit oc_doget kV_doget dc_doget pm_doget cd_doget ct_doget oc_doput kV_doput dc_doput pm_doput cd_doput ct_doput oc_doadd kV_doadd dc_doadd pm_doadd cd_doadd ct_doadd oc_dosub kV_dosub dc_dosub pm_dosub cd_dosub ct_dosub oc_doand kV_doand dc_doand pm_doand cd_doand ct_doand oc_doxor kV_doxor dc_doxor pm_doxor cd_doxor ct_doxor oc_doputb kV_doputb dc_doputb pm_doputb cd_doputb ct_doputb oc_dotob kV_dotob dc_dotob pm_dotob cd_dotob ct_dotob oc_doswap kV_doswap dc_doswap pm_doswap cd_doswap ct_doswap oc_dogo kV_dogo dc_dogo pm_dogo cd_dogo ct_dogo oc_doifz kV_doifz dc_doifz pm_doifz cd_doifz ct_doifz oc_doifn kV_doifn dc_doifn pm_doifn cd_doifn ct_doifn oc_docall kV_docall dc_docall pm_docall cd_docall ct_docall oc_doret kV_doret dc_doret pm_doret cd_doret ct_doret oc_dopush kV_dopush dc_dopush pm_dopush cd_dopush ct_dopush oc_dopop kV_dopop dc_dopop pm_dopop cd_dopop ct_dopop oc_dosleep kV_dosleep dc_dosleep pm_dosleep cd_dosleep ct_dosleep oc_dolet kV_dolet dc_dolet pm_dolet cd_dolet ct_dolet oc_doback kV_doback dc_doback pm_doback cd_doback ct_doback oc_dohalf kV_dohalf dc_dohalf pm_dohalf cd_dohalf ct_dohalf oc_lawdigits kV_lawdigits dc_lawdigits pm_lawdigits cd_lawdigits ct_lawdigits oc_lawnest kV_lawnest dc_lawnest pm_lawnest cd_lawnest ct_lawnest oc_lawpath kV_lawpath dc_lawpath pm_lawpath cd_lawpath ct_lawpath oc_law kV_law dc_law pm_law cd_law ct_law oc_CMinit kV_CMinit dc_CMinit pm_CMinit cd_CMinit ct_CMinit oc_CMwordat kV_CMwordat dc_CMwordat pm_CMwordat cd_CMwordat ct_CMwordat oc_CMread kV_CMread dc_CMread pm_CMread cd_CMread ct_CMread oc_CMput kV_CMput dc_CMput pm_CMput cd_CMput ct_CMput oc_CMcalledflags kV_CMcalledflags dc_CMcalledflags pm_CMcalledflags cd_CMcalledflags ct_CMcalledflags oc_CMtakeline kV_CMtakeline dc_CMtakeline pm_CMtakeline cd_CMtakeline ct_CMtakeline oc_CMgotimer kV_CMgotimer dc_CMgotimer pm_CMgotimer cd_CMgotimer ct_CMgotimer oc_CBinit kV_CBinit dc_CBinit pm_CBinit cd_CBinit ct_CBinit oc_CBcoming kV_CBcoming dc_CBcoming pm_CBcoming cd_CBcoming ct_CBcoming oc_CBturn kV_CBturn dc_CBturn pm_CBturn cd_CBturn ct_CBturn oc_CBbegininterrupt kV_CBbegininterrupt dc_CBbegininterrupt pm_CBbegininterrupt cd_CBbegininterrupt ct_CBbegininterrupt oc_CBdodeed kV_CBdodeed dc_CBdodeed pm_CBdodeed cd_CBdodeed ct_CBdodeed oc_CBmaytouch kV_CBmaytouch dc_CBmaytouch pm_CBmaytouch cd_CBmaytouch ct_CBmaytouch oc_CBstop kV_CBstop dc_CBstop pm_CBstop cd_CBstop ct_CBstop oc_CBputbyturn kV_CBputbyturn dc_CBputbyturn pm_CBputbyturn cd_CBputbyturn ct_CBputbyturn oc_CBputword kV_CBputword dc_CBputword pm_CBputword cd_CBputword ct_CBputword oc_CBpassbeats kV_CBpassbeats dc_CBpassbeats pm_CBpassbeats cd_CBpassbeats ct_CBpassbeats oc_CBcomeline kV_CBcomeline dc_CBcomeline pm_CBcomeline cd_CBcomeline ct_CBcomeline : Value} {t_FLASH_END t_RAM_END t_PLACES_END t_COUNT t_TOP t_FLAGS t_MASK t_LINE_IN t_LINE_OUT t_TIMER_FLAG t_LINE_FLAG t_WORD_MOST t_ERASED t_X_SPAN t_LINE_MOST t_STACK_TOP t_INTERRUPT_BEATS t_TIMER_PC t_LINE_PC t_WORDS t_HIGH : Tok} {its_aR its_aO : Array Value} {n_aR n_aO n_aD : Nat} {es_aD : Array DictEntry}
    (a_barof : PySem.W.nsIn K mainGlobals "bar_of" = some (some (.ref f_barof)))
    (l_barof : K.lookup f_barof = some ⟨oc_barof, od_barof, .func (PySem.W.fnOf "bar_of" "bar_of" (defArgs sFbar) (defBody sFbar) (defScope sFbar) .none kV_barof dc_barof pm_barof an_barof cd_barof ct_barof), sl_barof⟩)
    (c_barof : PySem.W.codeIn K cd_barof "bar_of" = true)
    (k_barof : PySem.W.keepIn K (.ref f_barof) = true)
    (a_iswhole : PySem.W.nsIn K mainGlobals "is_whole" = some (some (.ref f_iswhole)))
    (l_iswhole : K.lookup f_iswhole = some ⟨oc_iswhole, od_iswhole, .func (PySem.W.fnOf "is_whole" "is_whole" (defArgs sFwhole) (defBody sFwhole) (defScope sFwhole) .none kV_iswhole dc_iswhole pm_iswhole an_iswhole cd_iswhole ct_iswhole), sl_iswhole⟩)
    (c_iswhole : PySem.W.codeIn K cd_iswhole "is_whole" = true)
    (k_iswhole : PySem.W.keepIn K (.ref f_iswhole) = true)
    (a_isbetween : PySem.W.nsIn K mainGlobals "is_between" = some (some (.ref f_isbetween)))
    (l_isbetween : K.lookup f_isbetween = some ⟨oc_isbetween, od_isbetween, .func (PySem.W.fnOf "is_between" "is_between" (defArgs sFbetw) (defBody sFbetw) (defScope sFbetw) .none kV_isbetween dc_isbetween pm_isbetween an_isbetween cd_isbetween ct_isbetween), sl_isbetween⟩)
    (c_isbetween : PySem.W.codeIn K cd_isbetween "is_between" = true)
    (k_isbetween : PySem.W.keepIn K (.ref f_isbetween) = true)
    (a_isword : PySem.W.nsIn K mainGlobals "is_word" = some (some (.ref f_isword)))
    (l_isword : K.lookup f_isword = some ⟨oc_isword, od_isword, .func (PySem.W.fnOf "is_word" "is_word" (defArgs sFword) (defBody sFword) (defScope sFword) .none kV_isword dc_isword pm_isword an_isword cd_isword ct_isword), sl_isword⟩)
    (c_isword : PySem.W.codeIn K cd_isword "is_word" = true)
    (k_isword : PySem.W.keepIn K (.ref f_isword) = true)
    (a_isimage : PySem.W.nsIn K mainGlobals "is_image" = some (some (.ref f_isimage)))
    (l_isimage : K.lookup f_isimage = some ⟨oc_isimage, od_isimage, .func (PySem.W.fnOf "is_image" "is_image" (defArgs sFimage) (defBody sFimage) (defScope sFimage) .none kV_isimage dc_isimage pm_isimage an_isimage cd_isimage ct_isimage), sl_isimage⟩)
    (c_isimage : PySem.W.codeIn K cd_isimage "is_image" = true)
    (k_isimage : PySem.W.keepIn K (.ref f_isimage) = true)
    (a_isline : PySem.W.nsIn K mainGlobals "is_line" = some (some (.ref f_isline)))
    (l_isline : K.lookup f_isline = some ⟨oc_isline, od_isline, .func (PySem.W.fnOf "is_line" "is_line" (defArgs sFline) (defBody sFline) (defScope sFline) .none kV_isline dc_isline pm_isline an_isline cd_isline ct_isline), sl_isline⟩)
    (c_isline : PySem.W.codeIn K cd_isline "is_line" = true)
    (k_isline : PySem.W.keepIn K (.ref f_isline) = true)
    (a_islinerow : PySem.W.nsIn K mainGlobals "is_line_row" = some (some (.ref f_islinerow)))
    (l_islinerow : K.lookup f_islinerow = some ⟨oc_islinerow, od_islinerow, .func (PySem.W.fnOf "is_line_row" "is_line_row" (defArgs sFlrow) (defBody sFlrow) (defScope sFlrow) .none kV_islinerow dc_islinerow pm_islinerow an_islinerow cd_islinerow ct_islinerow), sl_islinerow⟩)
    (c_islinerow : PySem.W.codeIn K cd_islinerow "is_line_row" = true)
    (k_islinerow : PySem.W.keepIn K (.ref f_islinerow) = true)
    (a_touchesof : PySem.W.nsIn K mainGlobals "touches_of" = some (some (.ref f_touchesof)))
    (l_touchesof : K.lookup f_touchesof = some ⟨oc_touchesof, od_touchesof, .func (PySem.W.fnOf "touches_of" "touches_of" (defArgs sFtou) (defBody sFtou) (defScope sFtou) .none kV_touchesof dc_touchesof pm_touchesof an_touchesof cd_touchesof ct_touchesof), sl_touchesof⟩)
    (c_touchesof : PySem.W.codeIn K cd_touchesof "touches_of" = true)
    (k_touchesof : PySem.W.keepIn K (.ref f_touchesof) = true)
    (a_give : PySem.W.nsIn K mainGlobals "give" = some (some (.ref f_give)))
    (l_give : K.lookup f_give = some ⟨oc_give, od_give, .func (PySem.W.fnOf "give" "give" (defArgs sFgive) (defBody sFgive) (defScope sFgive) .none kV_give dc_give pm_give an_give cd_give ct_give), sl_give⟩)
    (c_give : PySem.W.codeIn K cd_give "give" = true)
    (k_give : PySem.W.keepIn K (.ref f_give) = true)
    (a_firstregisters : PySem.W.nsIn K mainGlobals "first_registers" = some (some (.ref f_firstregisters)))
    (l_firstregisters : K.lookup f_firstregisters = some ⟨oc_firstregisters, od_firstregisters, .func (PySem.W.fnOf "first_registers" "first_registers" (defArgs sFfirst) (defBody sFfirst) (defScope sFfirst) .none kV_firstregisters dc_firstregisters pm_firstregisters an_firstregisters cd_firstregisters ct_firstregisters), sl_firstregisters⟩)
    (c_firstregisters : PySem.W.codeIn K cd_firstregisters "first_registers" = true)
    (k_firstregisters : PySem.W.keepIn K (.ref f_firstregisters) = true)
    (a_dolit : PySem.W.nsIn K mainGlobals "do_lit" = some (some (.ref f_dolit)))
    (l_dolit : K.lookup f_dolit = some ⟨oc_dolit, od_dolit, .func (PySem.W.fnOf "do_lit" "do_lit" (defArgs sD1) (defBody sD1) (defScope sD1) .none kV_dolit dc_dolit pm_dolit an_dolit cd_dolit ct_dolit), sl_dolit⟩)
    (c_dolit : PySem.W.codeIn K cd_dolit "do_lit" = true)
    (k_dolit : PySem.W.keepIn K (.ref f_dolit) = true)
    (a_doget : PySem.W.nsIn K mainGlobals "do_get" = some (some (.ref f_doget)))
    (l_doget : K.lookup f_doget = some ⟨oc_doget, od_doget, .func (PySem.W.fnOf "do_get" "do_get" (defArgs sD2) (defBody sD2) (defScope sD2) .none kV_doget dc_doget pm_doget an_doget cd_doget ct_doget), sl_doget⟩)
    (c_doget : PySem.W.codeIn K cd_doget "do_get" = true)
    (k_doget : PySem.W.keepIn K (.ref f_doget) = true)
    (a_doput : PySem.W.nsIn K mainGlobals "do_put" = some (some (.ref f_doput)))
    (l_doput : K.lookup f_doput = some ⟨oc_doput, od_doput, .func (PySem.W.fnOf "do_put" "do_put" (defArgs sD3) (defBody sD3) (defScope sD3) .none kV_doput dc_doput pm_doput an_doput cd_doput ct_doput), sl_doput⟩)
    (c_doput : PySem.W.codeIn K cd_doput "do_put" = true)
    (k_doput : PySem.W.keepIn K (.ref f_doput) = true)
    (a_doadd : PySem.W.nsIn K mainGlobals "do_add" = some (some (.ref f_doadd)))
    (l_doadd : K.lookup f_doadd = some ⟨oc_doadd, od_doadd, .func (PySem.W.fnOf "do_add" "do_add" (defArgs sD4) (defBody sD4) (defScope sD4) .none kV_doadd dc_doadd pm_doadd an_doadd cd_doadd ct_doadd), sl_doadd⟩)
    (c_doadd : PySem.W.codeIn K cd_doadd "do_add" = true)
    (k_doadd : PySem.W.keepIn K (.ref f_doadd) = true)
    (a_dosub : PySem.W.nsIn K mainGlobals "do_sub" = some (some (.ref f_dosub)))
    (l_dosub : K.lookup f_dosub = some ⟨oc_dosub, od_dosub, .func (PySem.W.fnOf "do_sub" "do_sub" (defArgs sD5) (defBody sD5) (defScope sD5) .none kV_dosub dc_dosub pm_dosub an_dosub cd_dosub ct_dosub), sl_dosub⟩)
    (c_dosub : PySem.W.codeIn K cd_dosub "do_sub" = true)
    (k_dosub : PySem.W.keepIn K (.ref f_dosub) = true)
    (a_doand : PySem.W.nsIn K mainGlobals "do_and" = some (some (.ref f_doand)))
    (l_doand : K.lookup f_doand = some ⟨oc_doand, od_doand, .func (PySem.W.fnOf "do_and" "do_and" (defArgs sD6) (defBody sD6) (defScope sD6) .none kV_doand dc_doand pm_doand an_doand cd_doand ct_doand), sl_doand⟩)
    (c_doand : PySem.W.codeIn K cd_doand "do_and" = true)
    (k_doand : PySem.W.keepIn K (.ref f_doand) = true)
    (a_doxor : PySem.W.nsIn K mainGlobals "do_xor" = some (some (.ref f_doxor)))
    (l_doxor : K.lookup f_doxor = some ⟨oc_doxor, od_doxor, .func (PySem.W.fnOf "do_xor" "do_xor" (defArgs sD7) (defBody sD7) (defScope sD7) .none kV_doxor dc_doxor pm_doxor an_doxor cd_doxor ct_doxor), sl_doxor⟩)
    (c_doxor : PySem.W.codeIn K cd_doxor "do_xor" = true)
    (k_doxor : PySem.W.keepIn K (.ref f_doxor) = true)
    (a_doputb : PySem.W.nsIn K mainGlobals "do_putb" = some (some (.ref f_doputb)))
    (l_doputb : K.lookup f_doputb = some ⟨oc_doputb, od_doputb, .func (PySem.W.fnOf "do_putb" "do_putb" (defArgs sD9) (defBody sD9) (defScope sD9) .none kV_doputb dc_doputb pm_doputb an_doputb cd_doputb ct_doputb), sl_doputb⟩)
    (c_doputb : PySem.W.codeIn K cd_doputb "do_putb" = true)
    (k_doputb : PySem.W.keepIn K (.ref f_doputb) = true)
    (a_dotob : PySem.W.nsIn K mainGlobals "do_tob" = some (some (.ref f_dotob)))
    (l_dotob : K.lookup f_dotob = some ⟨oc_dotob, od_dotob, .func (PySem.W.fnOf "do_tob" "do_tob" (defArgs sD10) (defBody sD10) (defScope sD10) .none kV_dotob dc_dotob pm_dotob an_dotob cd_dotob ct_dotob), sl_dotob⟩)
    (c_dotob : PySem.W.codeIn K cd_dotob "do_tob" = true)
    (k_dotob : PySem.W.keepIn K (.ref f_dotob) = true)
    (a_doswap : PySem.W.nsIn K mainGlobals "do_swap" = some (some (.ref f_doswap)))
    (l_doswap : K.lookup f_doswap = some ⟨oc_doswap, od_doswap, .func (PySem.W.fnOf "do_swap" "do_swap" (defArgs sD11) (defBody sD11) (defScope sD11) .none kV_doswap dc_doswap pm_doswap an_doswap cd_doswap ct_doswap), sl_doswap⟩)
    (c_doswap : PySem.W.codeIn K cd_doswap "do_swap" = true)
    (k_doswap : PySem.W.keepIn K (.ref f_doswap) = true)
    (a_dogo : PySem.W.nsIn K mainGlobals "do_go" = some (some (.ref f_dogo)))
    (l_dogo : K.lookup f_dogo = some ⟨oc_dogo, od_dogo, .func (PySem.W.fnOf "do_go" "do_go" (defArgs sD12) (defBody sD12) (defScope sD12) .none kV_dogo dc_dogo pm_dogo an_dogo cd_dogo ct_dogo), sl_dogo⟩)
    (c_dogo : PySem.W.codeIn K cd_dogo "do_go" = true)
    (k_dogo : PySem.W.keepIn K (.ref f_dogo) = true)
    (a_doifz : PySem.W.nsIn K mainGlobals "do_ifz" = some (some (.ref f_doifz)))
    (l_doifz : K.lookup f_doifz = some ⟨oc_doifz, od_doifz, .func (PySem.W.fnOf "do_ifz" "do_ifz" (defArgs sD13) (defBody sD13) (defScope sD13) .none kV_doifz dc_doifz pm_doifz an_doifz cd_doifz ct_doifz), sl_doifz⟩)
    (c_doifz : PySem.W.codeIn K cd_doifz "do_ifz" = true)
    (k_doifz : PySem.W.keepIn K (.ref f_doifz) = true)
    (a_doifn : PySem.W.nsIn K mainGlobals "do_ifn" = some (some (.ref f_doifn)))
    (l_doifn : K.lookup f_doifn = some ⟨oc_doifn, od_doifn, .func (PySem.W.fnOf "do_ifn" "do_ifn" (defArgs sD14) (defBody sD14) (defScope sD14) .none kV_doifn dc_doifn pm_doifn an_doifn cd_doifn ct_doifn), sl_doifn⟩)
    (c_doifn : PySem.W.codeIn K cd_doifn "do_ifn" = true)
    (k_doifn : PySem.W.keepIn K (.ref f_doifn) = true)
    (a_docall : PySem.W.nsIn K mainGlobals "do_call" = some (some (.ref f_docall)))
    (l_docall : K.lookup f_docall = some ⟨oc_docall, od_docall, .func (PySem.W.fnOf "do_call" "do_call" (defArgs sD15) (defBody sD15) (defScope sD15) .none kV_docall dc_docall pm_docall an_docall cd_docall ct_docall), sl_docall⟩)
    (c_docall : PySem.W.codeIn K cd_docall "do_call" = true)
    (k_docall : PySem.W.keepIn K (.ref f_docall) = true)
    (a_doret : PySem.W.nsIn K mainGlobals "do_ret" = some (some (.ref f_doret)))
    (l_doret : K.lookup f_doret = some ⟨oc_doret, od_doret, .func (PySem.W.fnOf "do_ret" "do_ret" (defArgs sD16) (defBody sD16) (defScope sD16) .none kV_doret dc_doret pm_doret an_doret cd_doret ct_doret), sl_doret⟩)
    (c_doret : PySem.W.codeIn K cd_doret "do_ret" = true)
    (k_doret : PySem.W.keepIn K (.ref f_doret) = true)
    (a_dopush : PySem.W.nsIn K mainGlobals "do_push" = some (some (.ref f_dopush)))
    (l_dopush : K.lookup f_dopush = some ⟨oc_dopush, od_dopush, .func (PySem.W.fnOf "do_push" "do_push" (defArgs sD17) (defBody sD17) (defScope sD17) .none kV_dopush dc_dopush pm_dopush an_dopush cd_dopush ct_dopush), sl_dopush⟩)
    (c_dopush : PySem.W.codeIn K cd_dopush "do_push" = true)
    (k_dopush : PySem.W.keepIn K (.ref f_dopush) = true)
    (a_dopop : PySem.W.nsIn K mainGlobals "do_pop" = some (some (.ref f_dopop)))
    (l_dopop : K.lookup f_dopop = some ⟨oc_dopop, od_dopop, .func (PySem.W.fnOf "do_pop" "do_pop" (defArgs sD18) (defBody sD18) (defScope sD18) .none kV_dopop dc_dopop pm_dopop an_dopop cd_dopop ct_dopop), sl_dopop⟩)
    (c_dopop : PySem.W.codeIn K cd_dopop "do_pop" = true)
    (k_dopop : PySem.W.keepIn K (.ref f_dopop) = true)
    (a_dosleep : PySem.W.nsIn K mainGlobals "do_sleep" = some (some (.ref f_dosleep)))
    (l_dosleep : K.lookup f_dosleep = some ⟨oc_dosleep, od_dosleep, .func (PySem.W.fnOf "do_sleep" "do_sleep" (defArgs sD19) (defBody sD19) (defScope sD19) .none kV_dosleep dc_dosleep pm_dosleep an_dosleep cd_dosleep ct_dosleep), sl_dosleep⟩)
    (c_dosleep : PySem.W.codeIn K cd_dosleep "do_sleep" = true)
    (k_dosleep : PySem.W.keepIn K (.ref f_dosleep) = true)
    (a_dolet : PySem.W.nsIn K mainGlobals "do_let" = some (some (.ref f_dolet)))
    (l_dolet : K.lookup f_dolet = some ⟨oc_dolet, od_dolet, .func (PySem.W.fnOf "do_let" "do_let" (defArgs sD20) (defBody sD20) (defScope sD20) .none kV_dolet dc_dolet pm_dolet an_dolet cd_dolet ct_dolet), sl_dolet⟩)
    (c_dolet : PySem.W.codeIn K cd_dolet "do_let" = true)
    (k_dolet : PySem.W.keepIn K (.ref f_dolet) = true)
    (a_doback : PySem.W.nsIn K mainGlobals "do_back" = some (some (.ref f_doback)))
    (l_doback : K.lookup f_doback = some ⟨oc_doback, od_doback, .func (PySem.W.fnOf "do_back" "do_back" (defArgs sD21) (defBody sD21) (defScope sD21) .none kV_doback dc_doback pm_doback an_doback cd_doback ct_doback), sl_doback⟩)
    (c_doback : PySem.W.codeIn K cd_doback "do_back" = true)
    (k_doback : PySem.W.keepIn K (.ref f_doback) = true)
    (a_dohalf : PySem.W.nsIn K mainGlobals "do_half" = some (some (.ref f_dohalf)))
    (l_dohalf : K.lookup f_dohalf = some ⟨oc_dohalf, od_dohalf, .func (PySem.W.fnOf "do_half" "do_half" (defArgs sD22) (defBody sD22) (defScope sD22) .none kV_dohalf dc_dohalf pm_dohalf an_dohalf cd_dohalf ct_dohalf), sl_dohalf⟩)
    (c_dohalf : PySem.W.codeIn K cd_dohalf "do_half" = true)
    (k_dohalf : PySem.W.keepIn K (.ref f_dohalf) = true)
    (a_lawdigits : PySem.W.nsIn K mainGlobals "_law_digits" = some (some (.ref f_lawdigits)))
    (l_lawdigits : K.lookup f_lawdigits = some ⟨oc_lawdigits, od_lawdigits, .func (PySem.W.fnOf "_law_digits" "_law_digits" (defArgs sLdig) (defBody sLdig) (defScope sLdig) .none kV_lawdigits dc_lawdigits pm_lawdigits an_lawdigits cd_lawdigits ct_lawdigits), sl_lawdigits⟩)
    (c_lawdigits : PySem.W.codeIn K cd_lawdigits "_law_digits" = true)
    (k_lawdigits : PySem.W.keepIn K (.ref f_lawdigits) = true)
    (a_lawnest : PySem.W.nsIn K mainGlobals "_law_nest" = some (some (.ref f_lawnest)))
    (l_lawnest : K.lookup f_lawnest = some ⟨oc_lawnest, od_lawnest, .func (PySem.W.fnOf "_law_nest" "_law_nest" (defArgs sLnest) (defBody sLnest) (defScope sLnest) .none kV_lawnest dc_lawnest pm_lawnest an_lawnest cd_lawnest ct_lawnest), sl_lawnest⟩)
    (c_lawnest : PySem.W.codeIn K cd_lawnest "_law_nest" = true)
    (k_lawnest : PySem.W.keepIn K (.ref f_lawnest) = true)
    (a_lawpath : PySem.W.nsIn K mainGlobals "_law_path" = some (some (.ref f_lawpath)))
    (l_lawpath : K.lookup f_lawpath = some ⟨oc_lawpath, od_lawpath, .func (PySem.W.fnOf "_law_path" "_law_path" (defArgs sLpaths) (defBody sLpaths) (defScope sLpaths) .none kV_lawpath dc_lawpath pm_lawpath an_lawpath cd_lawpath ct_lawpath), sl_lawpath⟩)
    (c_lawpath : PySem.W.codeIn K cd_lawpath "_law_path" = true)
    (k_lawpath : PySem.W.keepIn K (.ref f_lawpath) = true)
    (a_law : PySem.W.nsIn K mainGlobals "law" = some (some (.ref f_law)))
    (l_law : K.lookup f_law = some ⟨oc_law, od_law, .func (PySem.W.fnOf "law" "law" (defArgs sLaw) (defBody sLaw) (defScope sLaw) .none kV_law dc_law pm_law an_law cd_law ct_law), sl_law⟩)
    (c_law : PySem.W.codeIn K cd_law "law" = true)
    (k_law : PySem.W.keepIn K (.ref f_law) = true)
    (aCM : PySem.W.nsIn K mainGlobals "Memory" = some (some (.ref CM)))
    (a_CMinit : PySem.W.findIn K (.ref CM) "__init__" = some (some (.ref f_CMinit)))
    (i_CMinit : PySem.W.isFn K (.ref f_CMinit) = true)
    (l_CMinit : K.lookup f_CMinit = some ⟨oc_CMinit, od_CMinit, .func (PySem.W.fnOf "__init__" "Memory.__init__" (defArgs sCmem) (defBody sCmem) (defScope sCmem) .none kV_CMinit dc_CMinit pm_CMinit an_CMinit cd_CMinit ct_CMinit), sl_CMinit⟩)
    (c_CMinit : PySem.W.codeIn K cd_CMinit "Memory.__init__" = true)
    (k_CMinit : PySem.W.keepIn K (.ref f_CMinit) = true)
    (a_CMwordat : PySem.W.findIn K (.ref CM) "word_at" = some (some (.ref f_CMwordat)))
    (i_CMwordat : PySem.W.isFn K (.ref f_CMwordat) = true)
    (l_CMwordat : K.lookup f_CMwordat = some ⟨oc_CMwordat, od_CMwordat, .func (PySem.W.fnOf "word_at" "Memory.word_at" (defArgs sMat) (defBody sMat) (defScope sMat) .none kV_CMwordat dc_CMwordat pm_CMwordat an_CMwordat cd_CMwordat ct_CMwordat), sl_CMwordat⟩)
    (c_CMwordat : PySem.W.codeIn K cd_CMwordat "Memory.word_at" = true)
    (k_CMwordat : PySem.W.keepIn K (.ref f_CMwordat) = true)
    (a_CMread : PySem.W.findIn K (.ref CM) "read" = some (some (.ref f_CMread)))
    (i_CMread : PySem.W.isFn K (.ref f_CMread) = true)
    (l_CMread : K.lookup f_CMread = some ⟨oc_CMread, od_CMread, .func (PySem.W.fnOf "read" "Memory.read" (defArgs sMread) (defBody sMread) (defScope sMread) .none kV_CMread dc_CMread pm_CMread an_CMread cd_CMread ct_CMread), sl_CMread⟩)
    (c_CMread : PySem.W.codeIn K cd_CMread "Memory.read" = true)
    (k_CMread : PySem.W.keepIn K (.ref f_CMread) = true)
    (a_CMput : PySem.W.findIn K (.ref CM) "put" = some (some (.ref f_CMput)))
    (i_CMput : PySem.W.isFn K (.ref f_CMput) = true)
    (l_CMput : K.lookup f_CMput = some ⟨oc_CMput, od_CMput, .func (PySem.W.fnOf "put" "Memory.put" (defArgs sMput) (defBody sMput) (defScope sMput) .none kV_CMput dc_CMput pm_CMput an_CMput cd_CMput ct_CMput), sl_CMput⟩)
    (c_CMput : PySem.W.codeIn K cd_CMput "Memory.put" = true)
    (k_CMput : PySem.W.keepIn K (.ref f_CMput) = true)
    (a_CMcalledflags : PySem.W.findIn K (.ref CM) "called_flags" = some (some (.ref f_CMcalledflags)))
    (i_CMcalledflags : PySem.W.isFn K (.ref f_CMcalledflags) = true)
    (l_CMcalledflags : K.lookup f_CMcalledflags = some ⟨oc_CMcalledflags, od_CMcalledflags, .func (PySem.W.fnOf "called_flags" "Memory.called_flags" (defArgs sMcalled) (defBody sMcalled) (defScope sMcalled) .none kV_CMcalledflags dc_CMcalledflags pm_CMcalledflags an_CMcalledflags cd_CMcalledflags ct_CMcalledflags), sl_CMcalledflags⟩)
    (c_CMcalledflags : PySem.W.codeIn K cd_CMcalledflags "Memory.called_flags" = true)
    (k_CMcalledflags : PySem.W.keepIn K (.ref f_CMcalledflags) = true)
    (a_CMtakeline : PySem.W.findIn K (.ref CM) "take_line" = some (some (.ref f_CMtakeline)))
    (i_CMtakeline : PySem.W.isFn K (.ref f_CMtakeline) = true)
    (l_CMtakeline : K.lookup f_CMtakeline = some ⟨oc_CMtakeline, od_CMtakeline, .func (PySem.W.fnOf "take_line" "Memory.take_line" (defArgs sMtake) (defBody sMtake) (defScope sMtake) .none kV_CMtakeline dc_CMtakeline pm_CMtakeline an_CMtakeline cd_CMtakeline ct_CMtakeline), sl_CMtakeline⟩)
    (c_CMtakeline : PySem.W.codeIn K cd_CMtakeline "Memory.take_line" = true)
    (k_CMtakeline : PySem.W.keepIn K (.ref f_CMtakeline) = true)
    (a_CMgotimer : PySem.W.findIn K (.ref CM) "go_timer" = some (some (.ref f_CMgotimer)))
    (i_CMgotimer : PySem.W.isFn K (.ref f_CMgotimer) = true)
    (l_CMgotimer : K.lookup f_CMgotimer = some ⟨oc_CMgotimer, od_CMgotimer, .func (PySem.W.fnOf "go_timer" "Memory.go_timer" (defArgs sMtimer) (defBody sMtimer) (defScope sMtimer) .none kV_CMgotimer dc_CMgotimer pm_CMgotimer an_CMgotimer cd_CMgotimer ct_CMgotimer), sl_CMgotimer⟩)
    (c_CMgotimer : PySem.W.codeIn K cd_CMgotimer "Memory.go_timer" = true)
    (k_CMgotimer : PySem.W.keepIn K (.ref f_CMgotimer) = true)
    (pgCM : PySem.W.plainGet K CM Str.empty = true)
    (hdCM : PySem.W.hasDictIn K CM = true)
    (poCM : PySem.W.plainOver K CM = true)
    (saCM : PySem.W.findIn K (.ref CM) "__setattr__" = some (some (.builtin "object.__setattr__")))
    (mkCM : PySem.W.makesIn K CM = true)
    (kcCM : PySem.W.keepIn K (.ref CM) = true)
    (aCB : PySem.W.nsIn K mainGlobals "Board" = some (some (.ref CB)))
    (a_CBinit : PySem.W.findIn K (.ref CB) "__init__" = some (some (.ref f_CBinit)))
    (i_CBinit : PySem.W.isFn K (.ref f_CBinit) = true)
    (l_CBinit : K.lookup f_CBinit = some ⟨oc_CBinit, od_CBinit, .func (PySem.W.fnOf "__init__" "Board.__init__" (defArgs sCboard) (defBody sCboard) (defScope sCboard) .none kV_CBinit dc_CBinit pm_CBinit an_CBinit cd_CBinit ct_CBinit), sl_CBinit⟩)
    (c_CBinit : PySem.W.codeIn K cd_CBinit "Board.__init__" = true)
    (k_CBinit : PySem.W.keepIn K (.ref f_CBinit) = true)
    (a_CBcoming : PySem.W.findIn K (.ref CB) "coming" = some (some (.ref f_CBcoming)))
    (i_CBcoming : PySem.W.isFn K (.ref f_CBcoming) = true)
    (l_CBcoming : K.lookup f_CBcoming = some ⟨oc_CBcoming, od_CBcoming, .func (PySem.W.fnOf "coming" "Board.coming" (defArgs sMcoming) (defBody sMcoming) (defScope sMcoming) .none kV_CBcoming dc_CBcoming pm_CBcoming an_CBcoming cd_CBcoming ct_CBcoming), sl_CBcoming⟩)
    (c_CBcoming : PySem.W.codeIn K cd_CBcoming "Board.coming" = true)
    (k_CBcoming : PySem.W.keepIn K (.ref f_CBcoming) = true)
    (a_CBturn : PySem.W.findIn K (.ref CB) "turn" = some (some (.ref f_CBturn)))
    (i_CBturn : PySem.W.isFn K (.ref f_CBturn) = true)
    (l_CBturn : K.lookup f_CBturn = some ⟨oc_CBturn, od_CBturn, .func (PySem.W.fnOf "turn" "Board.turn" (defArgs sMturn) (defBody sMturn) (defScope sMturn) .none kV_CBturn dc_CBturn pm_CBturn an_CBturn cd_CBturn ct_CBturn), sl_CBturn⟩)
    (c_CBturn : PySem.W.codeIn K cd_CBturn "Board.turn" = true)
    (k_CBturn : PySem.W.keepIn K (.ref f_CBturn) = true)
    (a_CBbegininterrupt : PySem.W.findIn K (.ref CB) "begin_interrupt" = some (some (.ref f_CBbegininterrupt)))
    (i_CBbegininterrupt : PySem.W.isFn K (.ref f_CBbegininterrupt) = true)
    (l_CBbegininterrupt : K.lookup f_CBbegininterrupt = some ⟨oc_CBbegininterrupt, od_CBbegininterrupt, .func (PySem.W.fnOf "begin_interrupt" "Board.begin_interrupt" (defArgs sMbegin) (defBody sMbegin) (defScope sMbegin) .none kV_CBbegininterrupt dc_CBbegininterrupt pm_CBbegininterrupt an_CBbegininterrupt cd_CBbegininterrupt ct_CBbegininterrupt), sl_CBbegininterrupt⟩)
    (c_CBbegininterrupt : PySem.W.codeIn K cd_CBbegininterrupt "Board.begin_interrupt" = true)
    (k_CBbegininterrupt : PySem.W.keepIn K (.ref f_CBbegininterrupt) = true)
    (a_CBdodeed : PySem.W.findIn K (.ref CB) "do_deed" = some (some (.ref f_CBdodeed)))
    (i_CBdodeed : PySem.W.isFn K (.ref f_CBdodeed) = true)
    (l_CBdodeed : K.lookup f_CBdodeed = some ⟨oc_CBdodeed, od_CBdodeed, .func (PySem.W.fnOf "do_deed" "Board.do_deed" (defArgs sMdo) (defBody sMdo) (defScope sMdo) .none kV_CBdodeed dc_CBdodeed pm_CBdodeed an_CBdodeed cd_CBdodeed ct_CBdodeed), sl_CBdodeed⟩)
    (c_CBdodeed : PySem.W.codeIn K cd_CBdodeed "Board.do_deed" = true)
    (k_CBdodeed : PySem.W.keepIn K (.ref f_CBdodeed) = true)
    (a_CBmaytouch : PySem.W.findIn K (.ref CB) "may_touch" = some (some (.ref f_CBmaytouch)))
    (i_CBmaytouch : PySem.W.isFn K (.ref f_CBmaytouch) = true)
    (l_CBmaytouch : K.lookup f_CBmaytouch = some ⟨oc_CBmaytouch, od_CBmaytouch, .func (PySem.W.fnOf "may_touch" "Board.may_touch" (defArgs sMmay) (defBody sMmay) (defScope sMmay) .none kV_CBmaytouch dc_CBmaytouch pm_CBmaytouch an_CBmaytouch cd_CBmaytouch ct_CBmaytouch), sl_CBmaytouch⟩)
    (c_CBmaytouch : PySem.W.codeIn K cd_CBmaytouch "Board.may_touch" = true)
    (k_CBmaytouch : PySem.W.keepIn K (.ref f_CBmaytouch) = true)
    (a_CBstop : PySem.W.findIn K (.ref CB) "stop" = some (some (.ref f_CBstop)))
    (i_CBstop : PySem.W.isFn K (.ref f_CBstop) = true)
    (l_CBstop : K.lookup f_CBstop = some ⟨oc_CBstop, od_CBstop, .func (PySem.W.fnOf "stop" "Board.stop" (defArgs sMstop) (defBody sMstop) (defScope sMstop) .none kV_CBstop dc_CBstop pm_CBstop an_CBstop cd_CBstop ct_CBstop), sl_CBstop⟩)
    (c_CBstop : PySem.W.codeIn K cd_CBstop "Board.stop" = true)
    (k_CBstop : PySem.W.keepIn K (.ref f_CBstop) = true)
    (a_CBputbyturn : PySem.W.findIn K (.ref CB) "put_by_turn" = some (some (.ref f_CBputbyturn)))
    (i_CBputbyturn : PySem.W.isFn K (.ref f_CBputbyturn) = true)
    (l_CBputbyturn : K.lookup f_CBputbyturn = some ⟨oc_CBputbyturn, od_CBputbyturn, .func (PySem.W.fnOf "put_by_turn" "Board.put_by_turn" (defArgs sMpbt) (defBody sMpbt) (defScope sMpbt) .none kV_CBputbyturn dc_CBputbyturn pm_CBputbyturn an_CBputbyturn cd_CBputbyturn ct_CBputbyturn), sl_CBputbyturn⟩)
    (c_CBputbyturn : PySem.W.codeIn K cd_CBputbyturn "Board.put_by_turn" = true)
    (k_CBputbyturn : PySem.W.keepIn K (.ref f_CBputbyturn) = true)
    (a_CBputword : PySem.W.findIn K (.ref CB) "put_word" = some (some (.ref f_CBputword)))
    (i_CBputword : PySem.W.isFn K (.ref f_CBputword) = true)
    (l_CBputword : K.lookup f_CBputword = some ⟨oc_CBputword, od_CBputword, .func (PySem.W.fnOf "put_word" "Board.put_word" (defArgs sMpw) (defBody sMpw) (defScope sMpw) .none kV_CBputword dc_CBputword pm_CBputword an_CBputword cd_CBputword ct_CBputword), sl_CBputword⟩)
    (c_CBputword : PySem.W.codeIn K cd_CBputword "Board.put_word" = true)
    (k_CBputword : PySem.W.keepIn K (.ref f_CBputword) = true)
    (a_CBpassbeats : PySem.W.findIn K (.ref CB) "pass_beats" = some (some (.ref f_CBpassbeats)))
    (i_CBpassbeats : PySem.W.isFn K (.ref f_CBpassbeats) = true)
    (l_CBpassbeats : K.lookup f_CBpassbeats = some ⟨oc_CBpassbeats, od_CBpassbeats, .func (PySem.W.fnOf "pass_beats" "Board.pass_beats" (defArgs sMpass) (defBody sMpass) (defScope sMpass) .none kV_CBpassbeats dc_CBpassbeats pm_CBpassbeats an_CBpassbeats cd_CBpassbeats ct_CBpassbeats), sl_CBpassbeats⟩)
    (c_CBpassbeats : PySem.W.codeIn K cd_CBpassbeats "Board.pass_beats" = true)
    (k_CBpassbeats : PySem.W.keepIn K (.ref f_CBpassbeats) = true)
    (a_CBcomeline : PySem.W.findIn K (.ref CB) "come_line" = some (some (.ref f_CBcomeline)))
    (i_CBcomeline : PySem.W.isFn K (.ref f_CBcomeline) = true)
    (l_CBcomeline : K.lookup f_CBcomeline = some ⟨oc_CBcomeline, od_CBcomeline, .func (PySem.W.fnOf "come_line" "Board.come_line" (defArgs sMcome) (defBody sMcome) (defScope sMcome) .none kV_CBcomeline dc_CBcomeline pm_CBcomeline an_CBcomeline cd_CBcomeline ct_CBcomeline), sl_CBcomeline⟩)
    (c_CBcomeline : PySem.W.codeIn K cd_CBcomeline "Board.come_line" = true)
    (k_CBcomeline : PySem.W.keepIn K (.ref f_CBcomeline) = true)
    (pgCB : PySem.W.plainGet K CB Str.empty = true)
    (hdCB : PySem.W.hasDictIn K CB = true)
    (poCB : PySem.W.plainOver K CB = true)
    (saCB : PySem.W.findIn K (.ref CB) "__setattr__" = some (some (.builtin "object.__setattr__")))
    (mkCB : PySem.W.makesIn K CB = true)
    (kcCB : PySem.W.keepIn K (.ref CB) = true)
    (n_registers : PySem.W.findIn K (.ref CB) "registers" = some none)
    (n_zero : PySem.W.findIn K (.ref CB) "zero" = some none)
    (n_lets : PySem.W.findIn K (.ref CB) "lets" = some none)
    (n_asleep : PySem.W.findIn K (.ref CB) "asleep" = some none)
    (n_beat : PySem.W.findIn K (.ref CB) "beat" = some none)
    (n_stopped : PySem.W.findIn K (.ref CB) "stopped" = some none)
    (n_sent : PySem.W.findIn K (.ref CB) "sent" = some none)
    (n_memory : PySem.W.findIn K (.ref CB) "memory" = some none)
    (n_line : PySem.W.findIn K (.ref CB) "line" = some none)
    (n_line_at : PySem.W.findIn K (.ref CB) "line_at" = some none)
    (n_touched : PySem.W.findIn K (.ref CB) "touched" = some none)
    (n_did : PySem.W.findIn K (.ref CB) "did" = some none)
    (n_bend : PySem.W.findIn K (.ref CB) "bend" = some none)
    (n_words : PySem.W.findIn K (.ref CM) "words" = some none)
    (n_swapped : PySem.W.findIn K (.ref CM) "swapped" = some none)
    (g_FLASH_END : PySem.W.nsIn K mainGlobals "FLASH_END" = some (some (.int 512 t_FLASH_END)))
    (g_RAM_END : PySem.W.nsIn K mainGlobals "RAM_END" = some (some (.int 768 t_RAM_END)))
    (g_PLACES_END : PySem.W.nsIn K mainGlobals "PLACES_END" = some (some (.int 774 t_PLACES_END)))
    (g_COUNT : PySem.W.nsIn K mainGlobals "COUNT" = some (some (.int 768 t_COUNT)))
    (g_TOP : PySem.W.nsIn K mainGlobals "TOP" = some (some (.int 769 t_TOP)))
    (g_FLAGS : PySem.W.nsIn K mainGlobals "FLAGS" = some (some (.int 770 t_FLAGS)))
    (g_MASK : PySem.W.nsIn K mainGlobals "MASK" = some (some (.int 771 t_MASK)))
    (g_LINE_IN : PySem.W.nsIn K mainGlobals "LINE_IN" = some (some (.int 772 t_LINE_IN)))
    (g_LINE_OUT : PySem.W.nsIn K mainGlobals "LINE_OUT" = some (some (.int 773 t_LINE_OUT)))
    (g_TIMER_FLAG : PySem.W.nsIn K mainGlobals "TIMER_FLAG" = some (some (.int 1 t_TIMER_FLAG)))
    (g_LINE_FLAG : PySem.W.nsIn K mainGlobals "LINE_FLAG" = some (some (.int 2 t_LINE_FLAG)))
    (g_WORD_MOST : PySem.W.nsIn K mainGlobals "WORD_MOST" = some (some (.int 65535 t_WORD_MOST)))
    (g_ERASED : PySem.W.nsIn K mainGlobals "ERASED" = some (some (.int 65535 t_ERASED)))
    (g_X_SPAN : PySem.W.nsIn K mainGlobals "X_SPAN" = some (some (.int 1024 t_X_SPAN)))
    (g_LINE_MOST : PySem.W.nsIn K mainGlobals "LINE_MOST" = some (some (.int 3 t_LINE_MOST)))
    (g_STACK_TOP : PySem.W.nsIn K mainGlobals "STACK_TOP" = some (some (.int 767 t_STACK_TOP)))
    (g_INTERRUPT_BEATS : PySem.W.nsIn K mainGlobals "INTERRUPT_BEATS" = some (some (.int 3 t_INTERRUPT_BEATS)))
    (g_TIMER_PC : PySem.W.nsIn K mainGlobals "TIMER_PC" = some (some (.int 1 t_TIMER_PC)))
    (g_LINE_PC : PySem.W.nsIn K mainGlobals "LINE_PC" = some (some (.int 2 t_LINE_PC)))
    (g_WORDS : PySem.W.nsIn K mainGlobals "WORDS" = some (some (.int 65536 t_WORDS)))
    (g_HIGH : PySem.W.nsIn K mainGlobals "HIGH" = some (some (.int 32768 t_HIGH)))
    (g_aR : PySem.W.nsIn K mainGlobals "READS_AT_X" = some (some (.ref aR)))
    (l_aR : K.lookup aR = some ⟨.type "tuple", none, .seq its_aR n_aR, sl_aR⟩)
    (v_aR : relB rdN its_aR.toList = true)
    (g_aO : PySem.W.nsIn K mainGlobals "OP_NAMES" = some (some (.ref aO)))
    (l_aO : K.lookup aO = some ⟨.type "tuple", none, .seq its_aO n_aO, sl_aO⟩)
    (v_aO : relB opN its_aO.toList = true)
    (g_aD : PySem.W.nsIn K mainGlobals "DOINGS" = some (some (.ref aD)))
    (l_aD : K.lookup aD = some ⟨.type "dict", none, .dict es_aD n_aD, #[]⟩)
    (kl_aD : PySem.W.KeysLit w.params es_aD.toList)
    (d_lit : PySem.W.nsIn K aD "lit" = some (some (.ref f_dolit)))
    (d_get : PySem.W.nsIn K aD "get" = some (some (.ref f_doget)))
    (d_put : PySem.W.nsIn K aD "put" = some (some (.ref f_doput)))
    (d_add : PySem.W.nsIn K aD "add" = some (some (.ref f_doadd)))
    (d_sub : PySem.W.nsIn K aD "sub" = some (some (.ref f_dosub)))
    (d_and : PySem.W.nsIn K aD "and" = some (some (.ref f_doand)))
    (d_xor : PySem.W.nsIn K aD "xor" = some (some (.ref f_doxor)))
    (d_getb : PySem.W.nsIn K aD "getb" = some (some (.ref f_doget)))
    (d_putb : PySem.W.nsIn K aD "putb" = some (some (.ref f_doputb)))
    (d_tob : PySem.W.nsIn K aD "tob" = some (some (.ref f_dotob)))
    (d_swap : PySem.W.nsIn K aD "swap" = some (some (.ref f_doswap)))
    (d_go : PySem.W.nsIn K aD "go" = some (some (.ref f_dogo)))
    (d_ifz : PySem.W.nsIn K aD "ifz" = some (some (.ref f_doifz)))
    (d_ifn : PySem.W.nsIn K aD "ifn" = some (some (.ref f_doifn)))
    (d_call : PySem.W.nsIn K aD "call" = some (some (.ref f_docall)))
    (d_ret : PySem.W.nsIn K aD "ret" = some (some (.ref f_doret)))
    (d_push : PySem.W.nsIn K aD "push" = some (some (.ref f_dopush)))
    (d_pop : PySem.W.nsIn K aD "pop" = some (some (.ref f_dopop)))
    (d_sleep : PySem.W.nsIn K aD "sleep" = some (some (.ref f_dosleep)))
    (d_let : PySem.W.nsIn K aD "let" = some (some (.ref f_dolet)))
    (d_back : PySem.W.nsIn K aD "back" = some (some (.ref f_doback)))
    (d_half : PySem.W.nsIn K aD "half" = some (some (.ref f_dohalf)))
    (z_len : PySem.W.nsIn K mainGlobals "len" = some none)
    (z_range : PySem.W.nsIn K mainGlobals "range" = some none)
    (z_isinstance : PySem.W.nsIn K mainGlobals "isinstance" = some none)
    (z_all : PySem.W.nsIn K mainGlobals "all" = some none)
    (z_int : PySem.W.nsIn K mainGlobals "int" = some none)
    (z_bool : PySem.W.nsIn K mainGlobals "bool" = some none)
    (z_list : PySem.W.nsIn K mainGlobals "list" = some none)
    (z_tuple : PySem.W.nsIn K mainGlobals "tuple" = some none)
    (z_divmod : PySem.W.nsIn K mainGlobals "divmod" = some none)
    (z_min : PySem.W.nsIn K mainGlobals "min" = some none)
    : ∃ fd : FuncData, (∀ (s : Shared) (v : Value), BindsTo s fd ⟨[v], []⟩ [("_law_script", v)]) ∧ ∀ base : Heap, K.In base → base.Ns mainGlobals mg → FnOk l.prog w K mg base CX0 9 fa fd ["_law_script"] (spLaw K) := by
  have e := hfa.symm.trans (PySem.W.mg_of X G a_law)
  cases e
  have T : Tx K mg CB CM := {
    g_FLASH_END := ⟨_, PySem.W.mg_of X G g_FLASH_END⟩
    g_RAM_END := ⟨_, PySem.W.mg_of X G g_RAM_END⟩
    g_PLACES_END := ⟨_, PySem.W.mg_of X G g_PLACES_END⟩
    g_COUNT := ⟨_, PySem.W.mg_of X G g_COUNT⟩
    g_TOP := ⟨_, PySem.W.mg_of X G g_TOP⟩
    g_FLAGS := ⟨_, PySem.W.mg_of X G g_FLAGS⟩
    g_MASK := ⟨_, PySem.W.mg_of X G g_MASK⟩
    g_LINE_IN := ⟨_, PySem.W.mg_of X G g_LINE_IN⟩
    g_LINE_OUT := ⟨_, PySem.W.mg_of X G g_LINE_OUT⟩
    g_TIMER_FLAG := ⟨_, PySem.W.mg_of X G g_TIMER_FLAG⟩
    g_LINE_FLAG := ⟨_, PySem.W.mg_of X G g_LINE_FLAG⟩
    g_WORD_MOST := ⟨_, PySem.W.mg_of X G g_WORD_MOST⟩
    g_ERASED := ⟨_, PySem.W.mg_of X G g_ERASED⟩
    g_X_SPAN := ⟨_, PySem.W.mg_of X G g_X_SPAN⟩
    g_LINE_MOST := ⟨_, PySem.W.mg_of X G g_LINE_MOST⟩
    g_STACK_TOP := ⟨_, PySem.W.mg_of X G g_STACK_TOP⟩
    g_INTERRUPT_BEATS := ⟨_, PySem.W.mg_of X G g_INTERRUPT_BEATS⟩
    g_TIMER_PC := ⟨_, PySem.W.mg_of X G g_TIMER_PC⟩
    g_LINE_PC := ⟨_, PySem.W.mg_of X G g_LINE_PC⟩
    g_WORDS := ⟨_, PySem.W.mg_of X G g_WORDS⟩
    g_HIGH := ⟨_, PySem.W.mg_of X G g_HIGH⟩
    z_len := PySem.W.mg_none_of X G z_len
    z_range := PySem.W.mg_none_of X G z_range
    z_isinstance := PySem.W.mg_none_of X G z_isinstance
    z_all := PySem.W.mg_none_of X G z_all
    z_int := PySem.W.mg_none_of X G z_int
    z_bool := PySem.W.mg_none_of X G z_bool
    z_list := PySem.W.mg_none_of X G z_list
    z_tuple := PySem.W.mg_none_of X G z_tuple
    z_divmod := PySem.W.mg_none_of X G z_divmod
    g_READS_AT_X := ⟨aR, PySem.W.mg_of X G g_aR, tup_of l_aR v_aR (by decide)⟩
    g_OP_NAMES := ⟨aO, PySem.W.mg_of X G g_aO, tup_of l_aO v_aO (by decide)⟩
    cB := ⟨pgCB, hdCB, poCB, saCB⟩
    cM := ⟨pgCM, hdCM, poCM, saCM⟩
    n_registers := n_registers
    n_zero := n_zero
    n_lets := n_lets
    n_asleep := n_asleep
    n_beat := n_beat
    n_stopped := n_stopped
    n_sent := n_sent
    n_memory := n_memory
    n_line := n_line
    n_line_at := n_line_at
    n_touched := n_touched
    n_did := n_did
    n_bend := n_bend
    n_words := n_words
    n_swapped := n_swapped }
  have F_barof := fun_mk (st := sFbar) l_barof c_barof k_barof
  have b_barof := F_barof.binds (ps := ["kind", "address"]) fun _ _ _ _ _ _ us hl => match us, hl with | [_, _], _ => rfl
  have F_iswhole := fun_mk (st := sFwhole) l_iswhole c_iswhole k_iswhole
  have b_iswhole := F_iswhole.binds (ps := ["thing"]) fun _ _ _ _ _ _ us hl => match us, hl with | [_], _ => rfl
  have F_isbetween := fun_mk (st := sFbetw) l_isbetween c_isbetween k_isbetween
  have b_isbetween := F_isbetween.binds (ps := ["thing", "least", "greatest"]) fun _ _ _ _ _ _ us hl => match us, hl with | [_, _, _], _ => rfl
  have F_isword := fun_mk (st := sFword) l_isword c_isword k_isword
  have b_isword := F_isword.binds (ps := ["thing"]) fun _ _ _ _ _ _ us hl => match us, hl with | [_], _ => rfl
  have F_isimage := fun_mk (st := sFimage) l_isimage c_isimage k_isimage
  have b_isimage := F_isimage.binds (ps := ["thing"]) fun _ _ _ _ _ _ us hl => match us, hl with | [_], _ => rfl
  have F_isline := fun_mk (st := sFline) l_isline c_isline k_isline
  have b_isline := F_isline.binds (ps := ["thing"]) fun _ _ _ _ _ _ us hl => match us, hl with | [_], _ => rfl
  have F_islinerow := fun_mk (st := sFlrow) l_islinerow c_islinerow k_islinerow
  have b_islinerow := F_islinerow.binds (ps := ["row", "last"]) fun _ _ _ _ _ _ us hl => match us, hl with | [_, _], _ => rfl
  have F_touchesof := fun_mk (st := sFtou) l_touchesof c_touchesof k_touchesof
  have b_touchesof := F_touchesof.binds (ps := ["name", "x", "registers"]) fun _ _ _ _ _ _ us hl => match us, hl with | [_, _, _], _ => rfl
  have F_give := fun_mk (st := sFgive) l_give c_give k_give
  have b_give := F_give.binds (ps := ["board", "word"]) fun _ _ _ _ _ _ us hl => match us, hl with | [_, _], _ => rfl
  have F_firstregisters := fun_mk (st := sFfirst) l_firstregisters c_firstregisters k_firstregisters
  have b_firstregisters := F_firstregisters.binds (ps := []) fun _ _ _ _ _ _ us hl => match us, hl with | [], _ => rfl
  have F_dolit := fun_mk (st := sD1) l_dolit c_dolit k_dolit
  have b_dolit := F_dolit.binds (ps := ["board", "x", "words"]) fun _ _ _ _ _ _ us hl => match us, hl with | [_, _, _], _ => rfl
  have F_doget := fun_mk (st := sD2) l_doget c_doget k_doget
  have b_doget := F_doget.binds (ps := ["board", "x", "words"]) fun _ _ _ _ _ _ us hl => match us, hl with | [_, _, _], _ => rfl
  have F_doput := fun_mk (st := sD3) l_doput c_doput k_doput
  have b_doput := F_doput.binds (ps := ["board", "x", "words"]) fun _ _ _ _ _ _ us hl => match us, hl with | [_, _, _], _ => rfl
  have F_doadd := fun_mk (st := sD4) l_doadd c_doadd k_doadd
  have b_doadd := F_doadd.binds (ps := ["board", "x", "words"]) fun _ _ _ _ _ _ us hl => match us, hl with | [_, _, _], _ => rfl
  have F_dosub := fun_mk (st := sD5) l_dosub c_dosub k_dosub
  have b_dosub := F_dosub.binds (ps := ["board", "x", "words"]) fun _ _ _ _ _ _ us hl => match us, hl with | [_, _, _], _ => rfl
  have F_doand := fun_mk (st := sD6) l_doand c_doand k_doand
  have b_doand := F_doand.binds (ps := ["board", "x", "words"]) fun _ _ _ _ _ _ us hl => match us, hl with | [_, _, _], _ => rfl
  have F_doxor := fun_mk (st := sD7) l_doxor c_doxor k_doxor
  have b_doxor := F_doxor.binds (ps := ["board", "x", "words"]) fun _ _ _ _ _ _ us hl => match us, hl with | [_, _, _], _ => rfl
  have F_doputb := fun_mk (st := sD9) l_doputb c_doputb k_doputb
  have b_doputb := F_doputb.binds (ps := ["board", "x", "words"]) fun _ _ _ _ _ _ us hl => match us, hl with | [_, _, _], _ => rfl
  have F_dotob := fun_mk (st := sD10) l_dotob c_dotob k_dotob
  have b_dotob := F_dotob.binds (ps := ["board", "x", "words"]) fun _ _ _ _ _ _ us hl => match us, hl with | [_, _, _], _ => rfl
  have F_doswap := fun_mk (st := sD11) l_doswap c_doswap k_doswap
  have b_doswap := F_doswap.binds (ps := ["board", "x", "words"]) fun _ _ _ _ _ _ us hl => match us, hl with | [_, _, _], _ => rfl
  have F_dogo := fun_mk (st := sD12) l_dogo c_dogo k_dogo
  have b_dogo := F_dogo.binds (ps := ["board", "x", "words"]) fun _ _ _ _ _ _ us hl => match us, hl with | [_, _, _], _ => rfl
  have F_doifz := fun_mk (st := sD13) l_doifz c_doifz k_doifz
  have b_doifz := F_doifz.binds (ps := ["board", "x", "words"]) fun _ _ _ _ _ _ us hl => match us, hl with | [_, _, _], _ => rfl
  have F_doifn := fun_mk (st := sD14) l_doifn c_doifn k_doifn
  have b_doifn := F_doifn.binds (ps := ["board", "x", "words"]) fun _ _ _ _ _ _ us hl => match us, hl with | [_, _, _], _ => rfl
  have F_docall := fun_mk (st := sD15) l_docall c_docall k_docall
  have b_docall := F_docall.binds (ps := ["board", "x", "words"]) fun _ _ _ _ _ _ us hl => match us, hl with | [_, _, _], _ => rfl
  have F_doret := fun_mk (st := sD16) l_doret c_doret k_doret
  have b_doret := F_doret.binds (ps := ["board", "x", "words"]) fun _ _ _ _ _ _ us hl => match us, hl with | [_, _, _], _ => rfl
  have F_dopush := fun_mk (st := sD17) l_dopush c_dopush k_dopush
  have b_dopush := F_dopush.binds (ps := ["board", "x", "words"]) fun _ _ _ _ _ _ us hl => match us, hl with | [_, _, _], _ => rfl
  have F_dopop := fun_mk (st := sD18) l_dopop c_dopop k_dopop
  have b_dopop := F_dopop.binds (ps := ["board", "x", "words"]) fun _ _ _ _ _ _ us hl => match us, hl with | [_, _, _], _ => rfl
  have F_dosleep := fun_mk (st := sD19) l_dosleep c_dosleep k_dosleep
  have b_dosleep := F_dosleep.binds (ps := ["board", "x", "words"]) fun _ _ _ _ _ _ us hl => match us, hl with | [_, _, _], _ => rfl
  have F_dolet := fun_mk (st := sD20) l_dolet c_dolet k_dolet
  have b_dolet := F_dolet.binds (ps := ["board", "x", "words"]) fun _ _ _ _ _ _ us hl => match us, hl with | [_, _, _], _ => rfl
  have F_doback := fun_mk (st := sD21) l_doback c_doback k_doback
  have b_doback := F_doback.binds (ps := ["board", "x", "words"]) fun _ _ _ _ _ _ us hl => match us, hl with | [_, _, _], _ => rfl
  have F_dohalf := fun_mk (st := sD22) l_dohalf c_dohalf k_dohalf
  have b_dohalf := F_dohalf.binds (ps := ["board", "x", "words"]) fun _ _ _ _ _ _ us hl => match us, hl with | [_, _, _], _ => rfl
  have F_lawdigits := fun_mk (st := sLdig) l_lawdigits c_lawdigits k_lawdigits
  have b_lawdigits := F_lawdigits.binds (ps := ["_law_cell_here", "_law_many"]) fun _ _ _ _ _ _ us hl => match us, hl with | [_, _], _ => rfl
  have F_lawnest := fun_mk (st := sLnest) l_lawnest c_lawnest k_lawnest
  have b_lawnest := F_lawnest.binds (ps := ["_law_row"]) fun _ _ _ _ _ _ us hl => match us, hl with | [_], _ => rfl
  have F_lawpath := fun_mk (st := sLpaths) l_lawpath c_lawpath k_lawpath
  have b_lawpath := F_lawpath.binds (ps := ["_law_starts", "_law_calls", "_law_k", "_law_sp", "_law_behind"]) fun _ _ _ _ _ _ us hl => match us, hl with | [_, _, _, _, _], _ => rfl
  have F_law := fun_mk (st := sLaw) l_law c_law k_law
  have F_CMinit := fun_mk (st := sCmem) l_CMinit c_CMinit k_CMinit
  have b_CMinit := F_CMinit.binds (ps := ["self", "image"]) fun _ _ _ _ _ _ us hl => match us, hl with | [_, _], _ => rfl
  have F_CMwordat := fun_mk (st := sMat) l_CMwordat c_CMwordat k_CMwordat
  have b_CMwordat := F_CMwordat.binds (ps := ["self", "address"]) fun _ _ _ _ _ _ us hl => match us, hl with | [_, _], _ => rfl
  have F_CMread := fun_mk (st := sMread) l_CMread c_CMread k_CMread
  have b_CMread := F_CMread.binds (ps := ["self", "address", "pc"]) fun _ _ _ _ _ _ us hl => match us, hl with | [_, _, _], _ => rfl
  have F_CMput := fun_mk (st := sMput) l_CMput c_CMput k_CMput
  have b_CMput := F_CMput.binds (ps := ["self", "address", "word"]) fun _ _ _ _ _ _ us hl => match us, hl with | [_, _, _], _ => rfl
  have F_CMcalledflags := fun_mk (st := sMcalled) l_CMcalledflags c_CMcalledflags k_CMcalledflags
  have b_CMcalledflags := F_CMcalledflags.binds (ps := ["self"]) fun _ _ _ _ _ _ us hl => match us, hl with | [_], _ => rfl
  have F_CMtakeline := fun_mk (st := sMtake) l_CMtakeline c_CMtakeline k_CMtakeline
  have b_CMtakeline := F_CMtakeline.binds (ps := ["self", "value"]) fun _ _ _ _ _ _ us hl => match us, hl with | [_, _], _ => rfl
  have F_CMgotimer := fun_mk (st := sMtimer) l_CMgotimer c_CMgotimer k_CMgotimer
  have b_CMgotimer := F_CMgotimer.binds (ps := ["self"]) fun _ _ _ _ _ _ us hl => match us, hl with | [_], _ => rfl
  have F_CBinit := fun_mk (st := sCboard) l_CBinit c_CBinit k_CBinit
  have b_CBinit := F_CBinit.binds (ps := ["self", "image", "line"]) fun _ _ _ _ _ _ us hl => match us, hl with | [_, _, _], _ => rfl
  have F_CBcoming := fun_mk (st := sMcoming) l_CBcoming c_CBcoming k_CBcoming
  have b_CBcoming := F_CBcoming.binds (ps := ["self"]) fun _ _ _ _ _ _ us hl => match us, hl with | [_], _ => rfl
  have F_CBturn := fun_mk (st := sMturn) l_CBturn c_CBturn k_CBturn
  have b_CBturn := F_CBturn.binds (ps := ["self"]) fun _ _ _ _ _ _ us hl => match us, hl with | [_], _ => rfl
  have F_CBbegininterrupt := fun_mk (st := sMbegin) l_CBbegininterrupt c_CBbegininterrupt k_CBbegininterrupt
  have b_CBbegininterrupt := F_CBbegininterrupt.binds (ps := ["self"]) fun _ _ _ _ _ _ us hl => match us, hl with | [_], _ => rfl
  have F_CBdodeed := fun_mk (st := sMdo) l_CBdodeed c_CBdodeed k_CBdodeed
  have b_CBdodeed := F_CBdodeed.binds (ps := ["self"]) fun _ _ _ _ _ _ us hl => match us, hl with | [_], _ => rfl
  have F_CBmaytouch := fun_mk (st := sMmay) l_CBmaytouch c_CBmaytouch k_CBmaytouch
  have b_CBmaytouch := F_CBmaytouch.binds (ps := ["self", "touches"]) fun _ _ _ _ _ _ us hl => match us, hl with | [_, _], _ => rfl
  have F_CBstop := fun_mk (st := sMstop) l_CBstop c_CBstop k_CBstop
  have b_CBstop := F_CBstop.binds (ps := ["self", "stop"]) fun _ _ _ _ _ _ us hl => match us, hl with | [_, _], _ => rfl
  have F_CBputbyturn := fun_mk (st := sMpbt) l_CBputbyturn c_CBputbyturn k_CBputbyturn
  have b_CBputbyturn := F_CBputbyturn.binds (ps := ["self", "address", "word"]) fun _ _ _ _ _ _ us hl => match us, hl with | [_, _, _], _ => rfl
  have F_CBputword := fun_mk (st := sMpw) l_CBputword c_CBputword k_CBputword
  have b_CBputword := F_CBputword.binds (ps := ["self", "address", "word"]) fun _ _ _ _ _ _ us hl => match us, hl with | [_, _, _], _ => rfl
  have F_CBpassbeats := fun_mk (st := sMpass) l_CBpassbeats c_CBpassbeats k_CBpassbeats
  have b_CBpassbeats := F_CBpassbeats.binds (ps := ["self", "many"]) fun _ _ _ _ _ _ us hl => match us, hl with | [_, _], _ => rfl
  have F_CBcomeline := fun_mk (st := sMcome) l_CBcomeline c_CBcomeline k_CBcomeline
  have b_CBcomeline := F_CBcomeline.binds (ps := ["self"]) fun _ _ _ _ _ _ us hl => match us, hl with | [_], _ => rfl
  refine ⟨PySem.W.fnOf "law" "law" (defArgs sLaw) (defBody sLaw) (defScope sLaw) .none kV_law dc_law pm_law an_law cd_law ct_law, fun s v => .of_eq rfl, fun base _ _ => ?_⟩
  have X_F_bar : CalF l.prog w K mg base 1 "bar_of" ["kind", "address"] (spBar) _ _ := ⟨PySem.W.mg_of X G a_barof, k_barof, b_barof, ok_Fbar F_barof T⟩
  have X_M_at : CalM l.prog w K mg base CM 1 "word_at" ["self", "address"] (spMAt CM) _ _ := ⟨⟨pgCM, hdCM, poCM, saCM⟩, ⟨a_CMwordat, i_CMwordat, k_CMwordat⟩, b_CMwordat, ok_Mat F_CMwordat T⟩
  have X_M_read : CalM l.prog w K mg base CM 1 "read" ["self", "address", "pc"] (spMRead CM) _ _ := ⟨⟨pgCM, hdCM, poCM, saCM⟩, ⟨a_CMread, i_CMread, k_CMread⟩, b_CMread, ok_Mread F_CMread T⟩
  have X_M_put : CalM l.prog w K mg base CM 1 "put" ["self", "address", "word"] (spMPut CM) _ _ := ⟨⟨pgCM, hdCM, poCM, saCM⟩, ⟨a_CMput, i_CMput, k_CMput⟩, b_CMput, ok_Mput F_CMput T⟩
  have X_M_called : CalM l.prog w K mg base CM 1 "called_flags" ["self"] (spMCall CM) _ _ := ⟨⟨pgCM, hdCM, poCM, saCM⟩, ⟨a_CMcalledflags, i_CMcalledflags, k_CMcalledflags⟩, b_CMcalledflags, ok_Mcalled F_CMcalledflags T⟩
  have X_M_take : CalM l.prog w K mg base CM 1 "take_line" ["self", "value"] (spMTake CM) _ _ := ⟨⟨pgCM, hdCM, poCM, saCM⟩, ⟨a_CMtakeline, i_CMtakeline, k_CMtakeline⟩, b_CMtakeline, ok_Mtake F_CMtakeline T⟩
  have X_M_timer : CalM l.prog w K mg base CM 1 "go_timer" ["self"] (spMTim CM) _ _ := ⟨⟨pgCM, hdCM, poCM, saCM⟩, ⟨a_CMgotimer, i_CMgotimer, k_CMgotimer⟩, b_CMgotimer, ok_Mtimer F_CMgotimer T⟩
  have X_F_whole : CalF l.prog w K mg base 1 "is_whole" ["thing"] (spWhole) _ _ := ⟨PySem.W.mg_of X G a_iswhole, k_iswhole, b_iswhole, ok_Fwhole F_iswhole T⟩
  have X_F_betw : CalF l.prog w K mg base 2 "is_between" ["thing", "least", "greatest"] (spBetw) _ _ := ⟨PySem.W.mg_of X G a_isbetween, k_isbetween, b_isbetween, ok_Fbetw F_isbetween T X_F_whole⟩
  have X_F_word : CalF l.prog w K mg base 3 "is_word" ["thing"] (spWord) _ _ := ⟨PySem.W.mg_of X G a_isword, k_isword, b_isword, ok_Fword F_isword T X_F_betw⟩
  have X_F_image : CalF l.prog w K mg base 4 "is_image" ["thing"] (spImg) _ _ := ⟨PySem.W.mg_of X G a_isimage, k_isimage, b_isimage, ok_Fimage F_isimage T X_F_word⟩
  have X_F_lrow : CalF l.prog w K mg base 3 "is_line_row" ["row", "last"] (spLRow) _ _ := ⟨PySem.W.mg_of X G a_islinerow, k_islinerow, b_islinerow, ok_Flrow F_islinerow T X_F_betw X_F_whole⟩
  have X_F_line : CalF l.prog w K mg base 4 "is_line" ["thing"] (spLine) _ _ := ⟨PySem.W.mg_of X G a_isline, k_isline, b_isline, ok_Fline F_isline T X_F_lrow⟩
  have X_C_mem : CalC l.prog w K mg base CM 1 "Memory" ["self", "image"] (spMI CM) _ _ := ⟨⟨mkCM, a_CMinit, i_CMinit, kcCM⟩, PySem.W.mg_of X G aCM, b_CMinit, ok_Cmem F_CMinit T⟩
  have X_F_tou : CalF l.prog w K mg base 1 "touches_of" ["name", "x", "registers"] (spTou) _ _ := ⟨PySem.W.mg_of X G a_touchesof, k_touchesof, b_touchesof, ok_Ftou F_touchesof T⟩
  have X_F_give : CalF l.prog w K mg base 1 "give" ["board", "word"] (spGive CB CM) _ _ := ⟨PySem.W.mg_of X G a_give, k_give, b_give, ok_Fgive F_give T⟩
  have X_M_pw : CalM l.prog w K mg base CB 2 "put_word" ["self", "address", "word"] (spPw CB CM) _ _ := ⟨⟨pgCB, hdCB, poCB, saCB⟩, ⟨a_CBputword, i_CBputword, k_CBputword⟩, b_CBputword, ok_Mpw F_CBputword T X_M_put⟩
  have X_M_pbt : CalM l.prog w K mg base CB 3 "put_by_turn" ["self", "address", "word"] (spPw CB CM) _ _ := ⟨⟨pgCB, hdCB, poCB, saCB⟩, ⟨a_CBputbyturn, i_CBputbyturn, k_CBputbyturn⟩, b_CBputbyturn, ok_Mpbt F_CBputbyturn T X_M_pw⟩
  have FD : DoF l.prog w K mg base CB CM (fun op => match op with | 1 => f_dolit | 2 => f_doget | 3 => f_doput | 4 => f_doadd | 5 => f_dosub | 6 => f_doand | 7 => f_doxor | 8 => f_doget | 9 => f_doputb | 10 => f_dotob | 11 => f_doswap | 12 => f_dogo | 13 => f_doifz | 14 => f_doifn | 15 => f_docall | 16 => f_doret | 17 => f_dopush | 18 => f_dopop | 19 => f_dosleep | 20 => f_dolet | 21 => f_doback | _ => f_dohalf) (fun op => match op with | 1 => PySem.W.fnOf "do_lit" "do_lit" (defArgs sD1) (defBody sD1) (defScope sD1) .none kV_dolit dc_dolit pm_dolit an_dolit cd_dolit ct_dolit | 2 => PySem.W.fnOf "do_get" "do_get" (defArgs sD2) (defBody sD2) (defScope sD2) .none kV_doget dc_doget pm_doget an_doget cd_doget ct_doget | 3 => PySem.W.fnOf "do_put" "do_put" (defArgs sD3) (defBody sD3) (defScope sD3) .none kV_doput dc_doput pm_doput an_doput cd_doput ct_doput | 4 => PySem.W.fnOf "do_add" "do_add" (defArgs sD4) (defBody sD4) (defScope sD4) .none kV_doadd dc_doadd pm_doadd an_doadd cd_doadd ct_doadd | 5 => PySem.W.fnOf "do_sub" "do_sub" (defArgs sD5) (defBody sD5) (defScope sD5) .none kV_dosub dc_dosub pm_dosub an_dosub cd_dosub ct_dosub | 6 => PySem.W.fnOf "do_and" "do_and" (defArgs sD6) (defBody sD6) (defScope sD6) .none kV_doand dc_doand pm_doand an_doand cd_doand ct_doand | 7 => PySem.W.fnOf "do_xor" "do_xor" (defArgs sD7) (defBody sD7) (defScope sD7) .none kV_doxor dc_doxor pm_doxor an_doxor cd_doxor ct_doxor | 8 => PySem.W.fnOf "do_get" "do_get" (defArgs sD2) (defBody sD2) (defScope sD2) .none kV_doget dc_doget pm_doget an_doget cd_doget ct_doget | 9 => PySem.W.fnOf "do_putb" "do_putb" (defArgs sD9) (defBody sD9) (defScope sD9) .none kV_doputb dc_doputb pm_doputb an_doputb cd_doputb ct_doputb | 10 => PySem.W.fnOf "do_tob" "do_tob" (defArgs sD10) (defBody sD10) (defScope sD10) .none kV_dotob dc_dotob pm_dotob an_dotob cd_dotob ct_dotob | 11 => PySem.W.fnOf "do_swap" "do_swap" (defArgs sD11) (defBody sD11) (defScope sD11) .none kV_doswap dc_doswap pm_doswap an_doswap cd_doswap ct_doswap | 12 => PySem.W.fnOf "do_go" "do_go" (defArgs sD12) (defBody sD12) (defScope sD12) .none kV_dogo dc_dogo pm_dogo an_dogo cd_dogo ct_dogo | 13 => PySem.W.fnOf "do_ifz" "do_ifz" (defArgs sD13) (defBody sD13) (defScope sD13) .none kV_doifz dc_doifz pm_doifz an_doifz cd_doifz ct_doifz | 14 => PySem.W.fnOf "do_ifn" "do_ifn" (defArgs sD14) (defBody sD14) (defScope sD14) .none kV_doifn dc_doifn pm_doifn an_doifn cd_doifn ct_doifn | 15 => PySem.W.fnOf "do_call" "do_call" (defArgs sD15) (defBody sD15) (defScope sD15) .none kV_docall dc_docall pm_docall an_docall cd_docall ct_docall | 16 => PySem.W.fnOf "do_ret" "do_ret" (defArgs sD16) (defBody sD16) (defScope sD16) .none kV_doret dc_doret pm_doret an_doret cd_doret ct_doret | 17 => PySem.W.fnOf "do_push" "do_push" (defArgs sD17) (defBody sD17) (defScope sD17) .none kV_dopush dc_dopush pm_dopush an_dopush cd_dopush ct_dopush | 18 => PySem.W.fnOf "do_pop" "do_pop" (defArgs sD18) (defBody sD18) (defScope sD18) .none kV_dopop dc_dopop pm_dopop an_dopop cd_dopop ct_dopop | 19 => PySem.W.fnOf "do_sleep" "do_sleep" (defArgs sD19) (defBody sD19) (defScope sD19) .none kV_dosleep dc_dosleep pm_dosleep an_dosleep cd_dosleep ct_dosleep | 20 => PySem.W.fnOf "do_let" "do_let" (defArgs sD20) (defBody sD20) (defScope sD20) .none kV_dolet dc_dolet pm_dolet an_dolet cd_dolet ct_dolet | 21 => PySem.W.fnOf "do_back" "do_back" (defArgs sD21) (defBody sD21) (defScope sD21) .none kV_doback dc_doback pm_doback an_doback cd_doback ct_doback | _ => PySem.W.fnOf "do_half" "do_half" (defArgs sD22) (defBody sD22) (defScope sD22) .none kV_dohalf dc_dohalf pm_dohalf an_dohalf cd_dohalf ct_dohalf) := {
    G := fun op h1 h2 => match op, h1, h2 with
      | 1, _, _ => ok_D1 F_dolit T X_F_give
      | 2, _, _ => ok_D2 F_doget T X_F_give
      | 3, _, _ => ok_D3 F_doput T X_M_pbt
      | 4, _, _ => ok_D4 F_doadd T X_F_give
      | 5, _, _ => ok_D5 F_dosub T X_F_give
      | 6, _, _ => ok_D6 F_doand T X_F_give
      | 7, _, _ => ok_D7 F_doxor T X_F_give
      | 8, _, _ => ok_D8 F_doget T X_F_give
      | 9, _, _ => ok_D9 F_doputb T X_M_pbt
      | 10, _, _ => ok_D10 F_dotob T 
      | 11, _, _ => ok_D11 F_doswap T X_F_give
      | 12, _, _ => ok_D12 F_dogo T 
      | 13, _, _ => ok_D13 F_doifz T 
      | 14, _, _ => ok_D14 F_doifn T 
      | 15, _, _ => ok_D15 F_docall T X_M_pbt
      | 16, _, _ => ok_D16 F_doret T 
      | 17, _, _ => ok_D17 F_dopush T X_M_pbt
      | 18, _, _ => ok_D18 F_dopop T X_F_give
      | 19, _, _ => ok_D19 F_dosleep T 
      | 20, _, _ => ok_D20 F_dolet T 
      | 21, _, _ => ok_D21 F_doback T 
      | 22, _, _ => ok_D22 F_dohalf T X_F_give
      | 0, h, _ => by omega
      | n + 23, _, h => by omega
    kp := fun op h1 h2 => match op, h1, h2 with
      | 1, _, _ => k_dolit
      | 2, _, _ => k_doget
      | 3, _, _ => k_doput
      | 4, _, _ => k_doadd
      | 5, _, _ => k_dosub
      | 6, _, _ => k_doand
      | 7, _, _ => k_doxor
      | 8, _, _ => k_doget
      | 9, _, _ => k_doputb
      | 10, _, _ => k_dotob
      | 11, _, _ => k_doswap
      | 12, _, _ => k_dogo
      | 13, _, _ => k_doifz
      | 14, _, _ => k_doifn
      | 15, _, _ => k_docall
      | 16, _, _ => k_doret
      | 17, _, _ => k_dopush
      | 18, _, _ => k_dopop
      | 19, _, _ => k_dosleep
      | 20, _, _ => k_dolet
      | 21, _, _ => k_doback
      | 22, _, _ => k_dohalf
      | 0, h, _ => by omega
      | n + 23, _, h => by omega
    b := fun op h1 h2 => match op, h1, h2 with
      | 1, _, _ => b_dolit
      | 2, _, _ => b_doget
      | 3, _, _ => b_doput
      | 4, _, _ => b_doadd
      | 5, _, _ => b_dosub
      | 6, _, _ => b_doand
      | 7, _, _ => b_doxor
      | 8, _, _ => b_doget
      | 9, _, _ => b_doputb
      | 10, _, _ => b_dotob
      | 11, _, _ => b_doswap
      | 12, _, _ => b_dogo
      | 13, _, _ => b_doifz
      | 14, _, _ => b_doifn
      | 15, _, _ => b_docall
      | 16, _, _ => b_doret
      | 17, _, _ => b_dopush
      | 18, _, _ => b_dopop
      | 19, _, _ => b_dosleep
      | 20, _, _ => b_dolet
      | 21, _, _ => b_doback
      | 22, _, _ => b_dohalf
      | 0, h, _ => by omega
      | n + 23, _, h => by omega
    D := ⟨aD, PySem.W.mg_of X G g_aD, fun op h1 h2 => match op, h1, h2 with
      | 1, _, _ => ⟨es_aD, n_aD, _, l_aD, kl_aD, d_lit, rfl⟩
      | 2, _, _ => ⟨es_aD, n_aD, _, l_aD, kl_aD, d_get, rfl⟩
      | 3, _, _ => ⟨es_aD, n_aD, _, l_aD, kl_aD, d_put, rfl⟩
      | 4, _, _ => ⟨es_aD, n_aD, _, l_aD, kl_aD, d_add, rfl⟩
      | 5, _, _ => ⟨es_aD, n_aD, _, l_aD, kl_aD, d_sub, rfl⟩
      | 6, _, _ => ⟨es_aD, n_aD, _, l_aD, kl_aD, d_and, rfl⟩
      | 7, _, _ => ⟨es_aD, n_aD, _, l_aD, kl_aD, d_xor, rfl⟩
      | 8, _, _ => ⟨es_aD, n_aD, _, l_aD, kl_aD, d_getb, rfl⟩
      | 9, _, _ => ⟨es_aD, n_aD, _, l_aD, kl_aD, d_putb, rfl⟩
      | 10, _, _ => ⟨es_aD, n_aD, _, l_aD, kl_aD, d_tob, rfl⟩
      | 11, _, _ => ⟨es_aD, n_aD, _, l_aD, kl_aD, d_swap, rfl⟩
      | 12, _, _ => ⟨es_aD, n_aD, _, l_aD, kl_aD, d_go, rfl⟩
      | 13, _, _ => ⟨es_aD, n_aD, _, l_aD, kl_aD, d_ifz, rfl⟩
      | 14, _, _ => ⟨es_aD, n_aD, _, l_aD, kl_aD, d_ifn, rfl⟩
      | 15, _, _ => ⟨es_aD, n_aD, _, l_aD, kl_aD, d_call, rfl⟩
      | 16, _, _ => ⟨es_aD, n_aD, _, l_aD, kl_aD, d_ret, rfl⟩
      | 17, _, _ => ⟨es_aD, n_aD, _, l_aD, kl_aD, d_push, rfl⟩
      | 18, _, _ => ⟨es_aD, n_aD, _, l_aD, kl_aD, d_pop, rfl⟩
      | 19, _, _ => ⟨es_aD, n_aD, _, l_aD, kl_aD, d_sleep, rfl⟩
      | 20, _, _ => ⟨es_aD, n_aD, _, l_aD, kl_aD, d_let, rfl⟩
      | 21, _, _ => ⟨es_aD, n_aD, _, l_aD, kl_aD, d_back, rfl⟩
      | 22, _, _ => ⟨es_aD, n_aD, _, l_aD, kl_aD, d_half, rfl⟩
      | 0, h, _ => by omega
      | n + 23, _, h => by omega⟩ }
  have X_M_come : CalM l.prog w K mg base CB 2 "come_line" ["self"] (spCome CB CM) _ _ := ⟨⟨pgCB, hdCB, poCB, saCB⟩, ⟨a_CBcomeline, i_CBcomeline, k_CBcomeline⟩, b_CBcomeline, ok_Mcome F_CBcomeline T X_M_take⟩
  have X_M_pass : CalM l.prog w K mg base CB 3 "pass_beats" ["self", "many"] (spPass CB CM) _ _ := ⟨⟨pgCB, hdCB, poCB, saCB⟩, ⟨a_CBpassbeats, i_CBpassbeats, k_CBpassbeats⟩, b_CBpassbeats, ok_Mpass F_CBpassbeats T X_M_come X_M_timer⟩
  have X_M_stop : CalM l.prog w K mg base CB 1 "stop" ["self", "stop"] (spStop CB CM) _ _ := ⟨⟨pgCB, hdCB, poCB, saCB⟩, ⟨a_CBstop, i_CBstop, k_CBstop⟩, b_CBstop, ok_Mstop F_CBstop T⟩
  have X_M_may : CalM l.prog w K mg base CB 2 "may_touch" ["self", "touches"] (spMay CB CM) _ _ := ⟨⟨pgCB, hdCB, poCB, saCB⟩, ⟨a_CBmaytouch, i_CBmaytouch, k_CBmaytouch⟩, b_CBmaytouch, ok_Mmay F_CBmaytouch T X_F_bar X_M_stop⟩
  have X_M_coming : CalM l.prog w K mg base CB 2 "coming" ["self"] (spComing CB CM) _ _ := ⟨⟨pgCB, hdCB, poCB, saCB⟩, ⟨a_CBcoming, i_CBcoming, k_CBcoming⟩, b_CBcoming, ok_Mcoming F_CBcoming T X_M_called⟩
  have X_M_begin : CalM l.prog w K mg base CB 4 "begin_interrupt" ["self"] (spBegin CB CM) _ _ := ⟨⟨pgCB, hdCB, poCB, saCB⟩, ⟨a_CBbegininterrupt, i_CBbegininterrupt, k_CBbegininterrupt⟩, b_CBbegininterrupt, ok_Mbegin F_CBbegininterrupt T X_M_called X_M_may X_M_pass X_M_pbt⟩
  have X_M_do : CalM l.prog w K mg base CB 5 "do_deed" ["self"] (spDeed CB CM) _ _ := ⟨⟨pgCB, hdCB, poCB, saCB⟩, ⟨a_CBdodeed, i_CBdodeed, k_CBdodeed⟩, b_CBdodeed, ok_Mdo F_CBdodeed T X_F_tou X_M_may X_M_pass X_M_read X_M_stop FD⟩
  have X_M_turn : CalM l.prog w K mg base CB 6 "turn" ["self"] (spTurn CB CM) _ _ := ⟨⟨pgCB, hdCB, poCB, saCB⟩, ⟨a_CBturn, i_CBturn, k_CBturn⟩, b_CBturn, ok_Mturn F_CBturn T X_M_begin X_M_coming X_M_do X_M_pass⟩
  have X_F_first : CalF l.prog w K mg base 1 "first_registers" [] (spFirst) _ _ := ⟨PySem.W.mg_of X G a_firstregisters, k_firstregisters, b_firstregisters, ok_Ffirst F_firstregisters T⟩
  have X_C_board : CalC l.prog w K mg base CB 6 "Board" ["self", "image", "line"] (spBI CB CM) _ _ := ⟨⟨mkCB, a_CBinit, i_CBinit, kcCB⟩, PySem.W.mg_of X G aCB, b_CBinit, ok_Cboard F_CBinit T X_C_mem X_F_first X_F_image X_F_line⟩
  have X_L_dig : CalF l.prog w K mg base 1 "_law_digits" ["_law_cell_here", "_law_many"] (spDig) _ _ := ⟨PySem.W.mg_of X G a_lawdigits, k_lawdigits, b_lawdigits, ok_Ldig F_lawdigits T⟩
  have X_L_nest : CalF l.prog w K mg base 1 "_law_nest" ["_law_row"] (spNest) _ _ := ⟨PySem.W.mg_of X G a_lawnest, k_lawnest, b_lawnest, ok_Lnest F_lawnest T (PySem.W.mg_none_of X G z_min)⟩
  have X_L_path : CalF l.prog w K mg base 8 "_law_path" ["_law_starts", "_law_calls", "_law_k", "_law_sp", "_law_behind"] (spPathL 8) _ _ := ⟨PySem.W.mg_of X G a_lawpath, k_lawpath, b_lawpath, ok_Lpath F_lawpath T (PySem.W.mg_of X G a_lawpath) k_lawpath b_lawpath 8⟩
  exact ok_Llaw F_law T X_C_board X_L_dig X_L_nest X_L_path X_M_at X_M_turn
end Bh

open PySem PySem.W PyProof.Rows in
set_option maxRecDepth 100000 in
set_option maxHeartbeats 0 in
theorem PySem.Challenge.cw_boardheld_k12_calls_and_the_stack_holds : PySem.Challenge.rw_boardheld_k12_calls_and_the_stack.Holds := by
  w_on; o_law; k_head; (case hw => w_witness2)
  k_fill
  refine L2.walk_of (l := PySem.Challenge.rw_boardheld_k12_calls_and_the_stack) (n := 63) (k := 9) (x := "_law_script") (CX := fun _ => L2.CX0) (sp := fun w => Bh.spLaw _) rfl (by decide) rfl ⟨rfl, by decide, by decide⟩ (fun w h Y => PySem.W.kIn_of Y) ?F (fun _ _ a ns hl _ hS => ⟨a, ns, rfl, hS, hl, fun _ => rfl⟩) (fun _ _ _ _ _ h => h)
  case F =>
    intro w mg fa h KX G hmg
    refine' Bh.all_mk KX G hmg ?a_barof ?l_barof ?c_barof ?k_barof ?a_iswhole ?l_iswhole ?c_iswhole ?k_iswhole ?a_isbetween ?l_isbetween ?c_isbetween ?k_isbetween ?a_isword ?l_isword ?c_isword ?k_isword ?a_isimage ?l_isimage ?c_isimage ?k_isimage ?a_isline ?l_isline ?c_isline ?k_isline ?a_islinerow ?l_islinerow ?c_islinerow ?k_islinerow ?a_touchesof ?l_touchesof ?c_touchesof ?k_touchesof ?a_give ?l_give ?c_give ?k_give ?a_firstregisters ?l_firstregisters ?c_firstregisters ?k_firstregisters ?a_dolit ?l_dolit ?c_dolit ?k_dolit ?a_doget ?l_doget ?c_doget ?k_doget ?a_doput ?l_doput ?c_doput ?k_doput ?a_doadd ?l_doadd ?c_doadd ?k_doadd ?a_dosub ?l_dosub ?c_dosub ?k_dosub ?a_doand ?l_doand ?c_doand ?k_doand ?a_doxor ?l_doxor ?c_doxor ?k_doxor ?a_doputb ?l_doputb ?c_doputb ?k_doputb ?a_dotob ?l_dotob ?c_dotob ?k_dotob ?a_doswap ?l_doswap ?c_doswap ?k_doswap ?a_dogo ?l_dogo ?c_dogo ?k_dogo ?a_doifz ?l_doifz ?c_doifz ?k_doifz ?a_doifn ?l_doifn ?c_doifn ?k_doifn ?a_docall ?l_docall ?c_docall ?k_docall ?a_doret ?l_doret ?c_doret ?k_doret ?a_dopush ?l_dopush ?c_dopush ?k_dopush ?a_dopop ?l_dopop ?c_dopop ?k_dopop ?a_dosleep ?l_dosleep ?c_dosleep ?k_dosleep ?a_dolet ?l_dolet ?c_dolet ?k_dolet ?a_doback ?l_doback ?c_doback ?k_doback ?a_dohalf ?l_dohalf ?c_dohalf ?k_dohalf ?a_lawdigits ?l_lawdigits ?c_lawdigits ?k_lawdigits ?a_lawnest ?l_lawnest ?c_lawnest ?k_lawnest ?a_lawpath ?l_lawpath ?c_lawpath ?k_lawpath ?a_law ?l_law ?c_law ?k_law ?aCM ?a_CMinit ?i_CMinit ?l_CMinit ?c_CMinit ?k_CMinit ?a_CMwordat ?i_CMwordat ?l_CMwordat ?c_CMwordat ?k_CMwordat ?a_CMread ?i_CMread ?l_CMread ?c_CMread ?k_CMread ?a_CMput ?i_CMput ?l_CMput ?c_CMput ?k_CMput ?a_CMcalledflags ?i_CMcalledflags ?l_CMcalledflags ?c_CMcalledflags ?k_CMcalledflags ?a_CMtakeline ?i_CMtakeline ?l_CMtakeline ?c_CMtakeline ?k_CMtakeline ?a_CMgotimer ?i_CMgotimer ?l_CMgotimer ?c_CMgotimer ?k_CMgotimer ?pgCM ?hdCM ?poCM ?saCM ?mkCM ?kcCM ?aCB ?a_CBinit ?i_CBinit ?l_CBinit ?c_CBinit ?k_CBinit ?a_CBcoming ?i_CBcoming ?l_CBcoming ?c_CBcoming ?k_CBcoming ?a_CBturn ?i_CBturn ?l_CBturn ?c_CBturn ?k_CBturn ?a_CBbegininterrupt ?i_CBbegininterrupt ?l_CBbegininterrupt ?c_CBbegininterrupt ?k_CBbegininterrupt ?a_CBdodeed ?i_CBdodeed ?l_CBdodeed ?c_CBdodeed ?k_CBdodeed ?a_CBmaytouch ?i_CBmaytouch ?l_CBmaytouch ?c_CBmaytouch ?k_CBmaytouch ?a_CBstop ?i_CBstop ?l_CBstop ?c_CBstop ?k_CBstop ?a_CBputbyturn ?i_CBputbyturn ?l_CBputbyturn ?c_CBputbyturn ?k_CBputbyturn ?a_CBputword ?i_CBputword ?l_CBputword ?c_CBputword ?k_CBputword ?a_CBpassbeats ?i_CBpassbeats ?l_CBpassbeats ?c_CBpassbeats ?k_CBpassbeats ?a_CBcomeline ?i_CBcomeline ?l_CBcomeline ?c_CBcomeline ?k_CBcomeline ?pgCB ?hdCB ?poCB ?saCB ?mkCB ?kcCB ?n_registers ?n_zero ?n_lets ?n_asleep ?n_beat ?n_stopped ?n_sent ?n_memory ?n_line ?n_line_at ?n_touched ?n_did ?n_bend ?n_words ?n_swapped ?g_FLASH_END ?g_RAM_END ?g_PLACES_END ?g_COUNT ?g_TOP ?g_FLAGS ?g_MASK ?g_LINE_IN ?g_LINE_OUT ?g_TIMER_FLAG ?g_LINE_FLAG ?g_WORD_MOST ?g_ERASED ?g_X_SPAN ?g_LINE_MOST ?g_STACK_TOP ?g_INTERRUPT_BEATS ?g_TIMER_PC ?g_LINE_PC ?g_WORDS ?g_HIGH ?g_aR ?l_aR ?v_aR ?g_aO ?l_aO ?v_aO ?g_aD ?l_aD ?kl_aD ?d_lit ?d_get ?d_put ?d_add ?d_sub ?d_and ?d_xor ?d_getb ?d_putb ?d_tob ?d_swap ?d_go ?d_ifz ?d_ifn ?d_call ?d_ret ?d_push ?d_pop ?d_sleep ?d_let ?d_back ?d_half ?z_len ?z_range ?z_isinstance ?z_all ?z_int ?z_bool ?z_list ?z_tuple ?z_divmod ?z_min
    (case a_barof => k_is)
    (case l_barof => k_is)
    (case c_barof => k_is)
    (case k_barof => k_is)
    (case a_iswhole => k_is)
    (case l_iswhole => k_is)
    (case c_iswhole => k_is)
    (case k_iswhole => k_is)
    (case a_isbetween => k_is)
    (case l_isbetween => k_is)
    (case c_isbetween => k_is)
    (case k_isbetween => k_is)
    (case a_isword => k_is)
    (case l_isword => k_is)
    (case c_isword => k_is)
    (case k_isword => k_is)
    (case a_isimage => k_is)
    (case l_isimage => k_is)
    (case c_isimage => k_is)
    (case k_isimage => k_is)
    (case a_isline => k_is)
    (case l_isline => k_is)
    (case c_isline => k_is)
    (case k_isline => k_is)
    (case a_islinerow => k_is)
    (case l_islinerow => k_is)
    (case c_islinerow => k_is)
    (case k_islinerow => k_is)
    (case a_touchesof => k_is)
    (case l_touchesof => k_is)
    (case c_touchesof => k_is)
    (case k_touchesof => k_is)
    (case a_give => k_is)
    (case l_give => k_is)
    (case c_give => k_is)
    (case k_give => k_is)
    (case a_firstregisters => k_is)
    (case l_firstregisters => k_is)
    (case c_firstregisters => k_is)
    (case k_firstregisters => k_is)
    (case a_dolit => k_is)
    (case l_dolit => k_is)
    (case c_dolit => k_is)
    (case k_dolit => k_is)
    (case a_doget => k_is)
    (case l_doget => k_is)
    (case c_doget => k_is)
    (case k_doget => k_is)
    (case a_doput => k_is)
    (case l_doput => k_is)
    (case c_doput => k_is)
    (case k_doput => k_is)
    (case a_doadd => k_is)
    (case l_doadd => k_is)
    (case c_doadd => k_is)
    (case k_doadd => k_is)
    (case a_dosub => k_is)
    (case l_dosub => k_is)
    (case c_dosub => k_is)
    (case k_dosub => k_is)
    (case a_doand => k_is)
    (case l_doand => k_is)
    (case c_doand => k_is)
    (case k_doand => k_is)
    (case a_doxor => k_is)
    (case l_doxor => k_is)
    (case c_doxor => k_is)
    (case k_doxor => k_is)
    (case a_doputb => k_is)
    (case l_doputb => k_is)
    (case c_doputb => k_is)
    (case k_doputb => k_is)
    (case a_dotob => k_is)
    (case l_dotob => k_is)
    (case c_dotob => k_is)
    (case k_dotob => k_is)
    (case a_doswap => k_is)
    (case l_doswap => k_is)
    (case c_doswap => k_is)
    (case k_doswap => k_is)
    (case a_dogo => k_is)
    (case l_dogo => k_is)
    (case c_dogo => k_is)
    (case k_dogo => k_is)
    (case a_doifz => k_is)
    (case l_doifz => k_is)
    (case c_doifz => k_is)
    (case k_doifz => k_is)
    (case a_doifn => k_is)
    (case l_doifn => k_is)
    (case c_doifn => k_is)
    (case k_doifn => k_is)
    (case a_docall => k_is)
    (case l_docall => k_is)
    (case c_docall => k_is)
    (case k_docall => k_is)
    (case a_doret => k_is)
    (case l_doret => k_is)
    (case c_doret => k_is)
    (case k_doret => k_is)
    (case a_dopush => k_is)
    (case l_dopush => k_is)
    (case c_dopush => k_is)
    (case k_dopush => k_is)
    (case a_dopop => k_is)
    (case l_dopop => k_is)
    (case c_dopop => k_is)
    (case k_dopop => k_is)
    (case a_dosleep => k_is)
    (case l_dosleep => k_is)
    (case c_dosleep => k_is)
    (case k_dosleep => k_is)
    (case a_dolet => k_is)
    (case l_dolet => k_is)
    (case c_dolet => k_is)
    (case k_dolet => k_is)
    (case a_doback => k_is)
    (case l_doback => k_is)
    (case c_doback => k_is)
    (case k_doback => k_is)
    (case a_dohalf => k_is)
    (case l_dohalf => k_is)
    (case c_dohalf => k_is)
    (case k_dohalf => k_is)
    (case a_lawdigits => k_is)
    (case l_lawdigits => k_is)
    (case c_lawdigits => k_is)
    (case k_lawdigits => k_is)
    (case a_lawnest => k_is)
    (case l_lawnest => k_is)
    (case c_lawnest => k_is)
    (case k_lawnest => k_is)
    (case a_lawpath => k_is)
    (case l_lawpath => k_is)
    (case c_lawpath => k_is)
    (case k_lawpath => k_is)
    (case a_law => k_is)
    (case l_law => k_is)
    (case c_law => k_is)
    (case k_law => k_is)
    (case aCM => k_is)
    (case a_CMinit => k_is)
    (case i_CMinit => k_is)
    (case l_CMinit => k_is)
    (case c_CMinit => k_is)
    (case k_CMinit => k_is)
    (case a_CMwordat => k_is)
    (case i_CMwordat => k_is)
    (case l_CMwordat => k_is)
    (case c_CMwordat => k_is)
    (case k_CMwordat => k_is)
    (case a_CMread => k_is)
    (case i_CMread => k_is)
    (case l_CMread => k_is)
    (case c_CMread => k_is)
    (case k_CMread => k_is)
    (case a_CMput => k_is)
    (case i_CMput => k_is)
    (case l_CMput => k_is)
    (case c_CMput => k_is)
    (case k_CMput => k_is)
    (case a_CMcalledflags => k_is)
    (case i_CMcalledflags => k_is)
    (case l_CMcalledflags => k_is)
    (case c_CMcalledflags => k_is)
    (case k_CMcalledflags => k_is)
    (case a_CMtakeline => k_is)
    (case i_CMtakeline => k_is)
    (case l_CMtakeline => k_is)
    (case c_CMtakeline => k_is)
    (case k_CMtakeline => k_is)
    (case a_CMgotimer => k_is)
    (case i_CMgotimer => k_is)
    (case l_CMgotimer => k_is)
    (case c_CMgotimer => k_is)
    (case k_CMgotimer => k_is)
    (case pgCM => k_is)
    (case hdCM => k_is)
    (case poCM => k_is)
    (case saCM => k_is)
    (case mkCM => k_is)
    (case kcCM => k_is)
    (case aCB => k_is)
    (case a_CBinit => k_is)
    (case i_CBinit => k_is)
    (case l_CBinit => k_is)
    (case c_CBinit => k_is)
    (case k_CBinit => k_is)
    (case a_CBcoming => k_is)
    (case i_CBcoming => k_is)
    (case l_CBcoming => k_is)
    (case c_CBcoming => k_is)
    (case k_CBcoming => k_is)
    (case a_CBturn => k_is)
    (case i_CBturn => k_is)
    (case l_CBturn => k_is)
    (case c_CBturn => k_is)
    (case k_CBturn => k_is)
    (case a_CBbegininterrupt => k_is)
    (case i_CBbegininterrupt => k_is)
    (case l_CBbegininterrupt => k_is)
    (case c_CBbegininterrupt => k_is)
    (case k_CBbegininterrupt => k_is)
    (case a_CBdodeed => k_is)
    (case i_CBdodeed => k_is)
    (case l_CBdodeed => k_is)
    (case c_CBdodeed => k_is)
    (case k_CBdodeed => k_is)
    (case a_CBmaytouch => k_is)
    (case i_CBmaytouch => k_is)
    (case l_CBmaytouch => k_is)
    (case c_CBmaytouch => k_is)
    (case k_CBmaytouch => k_is)
    (case a_CBstop => k_is)
    (case i_CBstop => k_is)
    (case l_CBstop => k_is)
    (case c_CBstop => k_is)
    (case k_CBstop => k_is)
    (case a_CBputbyturn => k_is)
    (case i_CBputbyturn => k_is)
    (case l_CBputbyturn => k_is)
    (case c_CBputbyturn => k_is)
    (case k_CBputbyturn => k_is)
    (case a_CBputword => k_is)
    (case i_CBputword => k_is)
    (case l_CBputword => k_is)
    (case c_CBputword => k_is)
    (case k_CBputword => k_is)
    (case a_CBpassbeats => k_is)
    (case i_CBpassbeats => k_is)
    (case l_CBpassbeats => k_is)
    (case c_CBpassbeats => k_is)
    (case k_CBpassbeats => k_is)
    (case a_CBcomeline => k_is)
    (case i_CBcomeline => k_is)
    (case l_CBcomeline => k_is)
    (case c_CBcomeline => k_is)
    (case k_CBcomeline => k_is)
    (case pgCB => k_is)
    (case hdCB => k_is)
    (case poCB => k_is)
    (case saCB => k_is)
    (case mkCB => k_is)
    (case kcCB => k_is)
    (case n_registers => k_is)
    (case n_zero => k_is)
    (case n_lets => k_is)
    (case n_asleep => k_is)
    (case n_beat => k_is)
    (case n_stopped => k_is)
    (case n_sent => k_is)
    (case n_memory => k_is)
    (case n_line => k_is)
    (case n_line_at => k_is)
    (case n_touched => k_is)
    (case n_did => k_is)
    (case n_bend => k_is)
    (case n_words => k_is)
    (case n_swapped => k_is)
    (case g_FLASH_END => k_is)
    (case g_RAM_END => k_is)
    (case g_PLACES_END => k_is)
    (case g_COUNT => k_is)
    (case g_TOP => k_is)
    (case g_FLAGS => k_is)
    (case g_MASK => k_is)
    (case g_LINE_IN => k_is)
    (case g_LINE_OUT => k_is)
    (case g_TIMER_FLAG => k_is)
    (case g_LINE_FLAG => k_is)
    (case g_WORD_MOST => k_is)
    (case g_ERASED => k_is)
    (case g_X_SPAN => k_is)
    (case g_LINE_MOST => k_is)
    (case g_STACK_TOP => k_is)
    (case g_INTERRUPT_BEATS => k_is)
    (case g_TIMER_PC => k_is)
    (case g_LINE_PC => k_is)
    (case g_WORDS => k_is)
    (case g_HIGH => k_is)
    (case g_aR => k_is)
    (case l_aR => k_is)
    (case v_aR => decide +kernel)
    (case g_aO => k_is)
    (case l_aO => k_is)
    (case v_aO => decide +kernel)
    (case g_aD => k_is)
    (case l_aD => k_is)
    (case kl_aD => (repeat (first | exact True.intro | refine ⟨⟨_, _, rfl, rfl⟩, ?_⟩)))
    (case d_lit => k_is)
    (case d_get => k_is)
    (case d_put => k_is)
    (case d_add => k_is)
    (case d_sub => k_is)
    (case d_and => k_is)
    (case d_xor => k_is)
    (case d_getb => k_is)
    (case d_putb => k_is)
    (case d_tob => k_is)
    (case d_swap => k_is)
    (case d_go => k_is)
    (case d_ifz => k_is)
    (case d_ifn => k_is)
    (case d_call => k_is)
    (case d_ret => k_is)
    (case d_push => k_is)
    (case d_pop => k_is)
    (case d_sleep => k_is)
    (case d_let => k_is)
    (case d_back => k_is)
    (case d_half => k_is)
    (case z_len => k_is)
    (case z_range => k_is)
    (case z_isinstance => k_is)
    (case z_all => k_is)
    (case z_int => k_is)
    (case z_bool => k_is)
    (case z_list => k_is)
    (case z_tuple => k_is)
    (case z_divmod => k_is)
    (case z_min => k_is)

