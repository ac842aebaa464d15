import PyProof.Rows.All
import Wide.All
import OpenK.AllK
import Wide.FinOn
import HandS.ForMost
import HandS.IsInst
import HandS.ForExc
import HandS.CallLocal
import HandS.More
import PySem.Challenge.RW_boardheld_k16_interrupts
import KE.BitLaws
import HandS.Style
import HandS.NoneIn
set_option Elab.async false
set_option linter.all false
set_option maxRecDepth 100000
set_option maxHeartbeats 4000000
/-! A board in plain words. -/
namespace Bh
open PySem PySem.Spec PyProof.Rows L2
structure Bd where
  a : Int
  b : Int
  pc : Int
  sp : Int
  zero : Bool
  lets : Bool
  asleep : Bool
  beat : Int
  sent : List (Int × Int)
  mem : List Int
  line : List (Int × Int)
  la : Nat
  stop : Option (Str × List Int)
def rd (m : List Int) (i : Int) : Int := m.getD i.toNat 0
def stM (m : List Int) (i : Int) (v : Int) : List Int := m.set i.toNat v
def takeLineM (v : Int) (m : List Int) : List Int := if rd m 772 % 2 < v % 2 then stM (stM m 772 v) 770 (Builtin.bitOr (rd (stM m 772 v) 770) 2) else stM m 772 v
def goTimerM (m : List Int) : List Int := if rd m 769 = 0 then m else if rd m 769 ≤ rd m 768 + 1 then stM (stM m 770 (Builtin.bitOr (rd m 770) 1)) 768 0 else stM m 768 (rd m 768 + 1)
def putMM (a v : Int) (m : List Int) : List Int := if a = 770 then stM m 770 (Builtin.bitAnd (rd m 770) (65535 - v)) else stM m a v
def comeM (x : Bd) : Bd := if x.la < x.line.length ∧ (x.line.getD x.la (0, 0)).1 = x.beat then { x with mem := takeLineM (x.line.getD x.la (0, 0)).2 x.mem, la := x.la + 1 } else x
def passOneM (x : Bd) : Bd := { comeM { x with beat := x.beat + 1 } with mem := goTimerM (comeM { x with beat := x.beat + 1 }).mem }
def passM : Nat → Bd → Bd
  | 0, x => x
  | n + 1, x => passM n (passOneM x)
def sendM (a v : Int) (x : Bd) : Bd := if a = 773 then { x with sent := x.sent ++ [(x.beat, v)] } else x
def putWM (a v : Int) (x : Bd) : Bd := { sendM a v x with mem := putMM a v x.mem }
def giveM (v : Int) (x : Bd) : Bd := { x with a := v, zero := decide (v = 0) }
/-- what a deed does, its words read; pc leads behind it already -/
def doM (op : Nat) (n : Int) (ws : List Int) (x : Bd) : Bd :=
  match op with
  | 1 => giveM n x
  | 2 => giveM (ws.getD 0 0) x
  | 3 => putWM n x.a x
  | 4 => giveM ((x.a + ws.getD 0 0) % 65536) x
  | 5 => giveM ((x.a - ws.getD 0 0) % 65536) x
  | 6 => giveM (Builtin.bitAnd x.a (ws.getD 0 0)) x
  | 7 => giveM (Builtin.bitXor x.a (ws.getD 0 0)) x
  | 8 => giveM (ws.getD 0 0) x
  | 9 => putWM (n + x.b) x.a x
  | 10 => { x with b := x.a }
  | 11 => { giveM x.b x with b := x.a }
  | 12 => { x with pc := n }
  | 13 => if x.zero = true then { x with pc := n } else x
  | 14 => if 32768 ≤ x.a then { x with pc := n } else x
  | 15 => { putWM x.sp x.pc x with sp := x.sp - 1, pc := n }
  | 16 => { x with sp := x.sp + 1, pc := ws.getD 0 0 }
  | 17 => { putWM x.sp x.a x with sp := x.sp - 1 }
  | 18 => giveM (ws.getD 0 0) { x with sp := x.sp + 1 }
  | 19 => { x with asleep := true }
  | 20 => { x with lets := decide (n % 2 = 1) }
  | 21 => { x with sp := x.sp + 2, zero := decide (ws.getD 0 0 % 2 = 1), pc := ws.getD 1 0, lets := true }
  | 22 => giveM (x.a / 2) x
  | _ => x
/-- what a deed reads (false) and puts (true) -/
def touM (op : Nat) (n b sp : Int) : List (Bool × Int) :=
  match op with
  | 2 => [(false, n)]
  | 3 => [(true, n)]
  | 4 => [(false, n)]
  | 5 => [(false, n)]
  | 6 => [(false, n)]
  | 7 => [(false, n)]
  | 8 => [(false, n + b)]
  | 9 => [(true, n + b)]
  | 15 => [(true, sp)]
  | 16 => [(false, sp + 1)]
  | 17 => [(true, sp)]
  | 18 => [(false, sp + 1)]
  | 21 => [(false, sp + 1), (false, sp + 2)]
  | _ => []
/-- why a word can't be read or put there -/
def barM (t : Bool × Int) : Option Str :=
  if ¬ (0 ≤ t.2 ∧ t.2 < 774) then some "far" else if t.1 = false then none else if t.2 < 512 then some "flash" else if t.2 = 772 then some "still" else none
def firstBad : List (Bool × Int) → Option (Str × Int)
  | [] => none
  | t :: r => match barM t with
    | some w => some (w, t.2)
    | none => firstBad r
def readsM (m : List Int) (ts : List (Bool × Int)) : List Int := (ts.filter fun t => !t.1).map fun t => rd m t.2
def opM (x : Bd) : Nat := (rd x.mem x.pc / 1024).toNat
def xM (x : Bd) : Int := rd x.mem x.pc % 1024
def toM (x : Bd) : List (Bool × Int) := touM (opM x) (xM x) x.b x.sp
/-- the deed at pc, which can be done -/
def doneM (x : Bd) : Bd := passM (1 + (toM x).length) (doM (opM x) (xM x) (readsM x.mem (toM x)) { x with pc := x.pc + 1 })
def stopAt (w : Str) (ns : List Int) (x : Bd) : Str × Bd := ("stopped", { x with stop := some (w, ns) })
def deedM (x : Bd) : Str × Bd :=
  if ¬ (0 ≤ x.pc ∧ x.pc < 768) then stopAt "far" [x.pc, x.pc] x
  else if 23 ≤ opM x then stopAt "none" [x.pc] x
  else if opM x = 0 then stopAt "mark" [x.pc] x
  else match firstBad (toM x) with
    | some r => stopAt r.1 [x.pc, r.2] x
    | none => ("deed", doneM x)
def calledM (x : Bd) : Int := Builtin.bitAnd (rd x.mem 770) (rd x.mem 771)
def b2n (b : Bool) : Int := if b = true then 1 else 0
def begunM (x : Bd) : Bd :=
  let y := putWM (x.sp - 1) (b2n x.zero) (putWM x.sp x.pc x)
  passM 3 { y with sp := x.sp - 2, lets := false, pc := if Builtin.bitAnd (calledM x) 1 ≠ 0 then 1 else 2 }
def intM (x : Bd) : Str × Bd :=
  match firstBad [(true, x.sp), (true, x.sp - 1)] with
  | some r => stopAt r.1 [x.pc, r.2] x
  | none => ("interrupt", begunM x)
def turnM (x : Bd) : Str × Bd :=
  if x.stop ≠ none then ("stopped", x)
  else if x.asleep = true ∧ calledM x = 0 then ("asleep", passM 1 x)
  else if x.lets = true ∧ calledM x ≠ 0 then intM { x with asleep := false }
  else deedM { x with asleep := false }
theorem firstBad_cons (t : Bool × Int) (r : List (Bool × Int)) : firstBad (t :: r) = match barM t with
    | some w => some (w, t.2)
    | none => firstBad r := rfl
theorem barM_ok {t : Bool × Int} (h : barM t = none) : 0 ≤ t.2 ∧ t.2 < 774 := by
  unfold barM at h
  split at h
  · cases h
  · rename_i z
    exact Classical.not_not.mp z
theorem firstBad_ok : ∀ {ts : List (Bool × Int)}, firstBad ts = none → ∀ t ∈ ts, barM t = none
  | [], _, _, h => by cases h
  | t :: r, h, u, hu => by
    unfold firstBad at h
    cases e : barM t with
    | some w => rw [e] at h; cases h
    | none =>
      rw [e] at h
      rcases List.mem_cons.mp hu with rfl | h2
      · exact e
      · exact firstBad_ok h u h2
theorem touM_len (op : Nat) (n b sp : Int) : (touM op n b sp).length ≤ 2 := by
  unfold touM
  split <;> first | exact Nat.le_succ _ | exact Nat.le_refl _ | exact Nat.zero_le _
theorem stM_len (m : List Int) (i v : Int) : (stM m i v).length = m.length := List.length_set
theorem takeLineM_len (v : Int) (m : List Int) : (takeLineM v m).length = m.length := by
  unfold takeLineM
  split
  · rw [stM_len, stM_len]
  · rw [stM_len]
theorem goTimerM_len (m : List Int) : (goTimerM m).length = m.length := by
  unfold goTimerM
  split
  · rfl
  · split
    · rw [stM_len, stM_len]
    · rw [stM_len]
theorem putMM_len (a v : Int) (m : List Int) : (putMM a v m).length = m.length := by
  unfold putMM
  split
  · rw [stM_len]
  · rw [stM_len]
theorem atI_rd {m : List Int} {i : Int} (h0 : 0 ≤ i) (h1 : i < m.length) : atI (m.map V.int) i = some (.int (rd m i)) := by
  have hj : i.toNat < m.length := by omega
  have e : i = ((i.toNat : Nat) : Int) := (Int.toNat_of_nonneg h0).symm
  have q : atI (m.map V.int) ((i.toNat : Nat) : Int) = some (.int (rd m i)) := atI_nat (by
    unfold rd
    rw [List.getElem?_map, List.getElem?_eq_getElem hj, List.getD_eq_getElem?_getD, List.getElem?_eq_getElem hj]
    rfl)
  rw [← e] at q
  exact q
theorem ixN_in {n : Nat} {i : Int} (h0 : 0 ≤ i) (h1 : i < n) : ixN n i = some i.toNat := by
  unfold ixN
  rw [if_pos h0, if_pos h1]
theorem set_map (m : List Int) (i v : Int) : (m.map V.int).set i.toNat (.int v) = (stM m i v).map V.int := by
  unfold stM
  rw [List.map_set]
theorem rd_stM_same {m : List Int} {i v : Int} (h0 : 0 ≤ i) (h1 : i < m.length) : rd (stM m i v) i = v := by
  unfold rd stM
  have : i.toNat < m.length := by omega
  rw [List.getD_eq_getElem?_getD, List.getElem?_set_self this]
  rfl
theorem rd_stM_ne {m : List Int} {i j v : Int} (h0 : 0 ≤ i) (h1 : 0 ≤ j) (h : i ≠ j) : rd (stM m i v) j = rd m j := by
  unfold rd stM
  rw [List.getD_eq_getElem?_getD, List.getElem?_set_ne (by omega), ← List.getD_eq_getElem?_getD]
end Bh

/-! A board in the heap. -/
namespace Bh
open PySem PySem.Spec PyProof.Rows L2
theorem same_upd' {H : Hp} {p : Addr} {o : HO} (h : H p = none) : Same H (upd H p o) := fun b x e => by
  rw [upd_ne (ne_of_none e h)]
  exact e
theorem same_of {H0 H : Hp} {x : Addr} {o : HO} (sm : Same H0 H) (fx : H0 x = none) : Same H0 (upd H x o) := fun b y e => by
  rw [upd_ne (ne_of_none e fx)]
  exact sm _ _ e
theorem upd_upd {H : Hp} {p : Addr} {o o' : HO} : upd (upd H p o) p o' = upd H p o' := by
  funext b
  by_cases h : b = p
  · subst h
    rw [upd_same, upd_same]
  · rw [upd_ne h, upd_ne h, upd_ne h]
theorem upd_id {H : Hp} {p : Addr} {o : HO} (h : H p = some o) : upd H p o = H := by
  funext b
  by_cases e : b = p
  · subst e
    rw [upd_same, h]
  · rw [upd_ne e]
theorem ifN {c : Bool} {A B : Prop} (h1 : c = false → A) (h2 : c = true → B) : if (!c) = true then A else B := by
  cases c with
  | true => exact h2 rfl
  | false => exact h1 rfl
theorem ifJ {c : Bool} {A B : Prop} (h1 : B) (h2 : c = true → B → A) : if c = true then A else B := by
  cases c with
  | true => exact h2 rfl h1
  | false => exact h1
theorem ifB {c : Bool} {A B : Prop} (h1 : c = true → A) (h2 : c = false → B) : if c = true then A else B := by
  cases c with
  | true => exact h1 rfl
  | false => exact h2 rfl
section
variable {X : Cx}
theorem pgI {x : Str} {n : Int} {t : Tok} {pos : Pos} (hm : X.mg x = some (.int n t)) (hg : Gl X x := by rfl) (hd : (x == ("__debug__" : Str)) = false := by decide) : PE X (.Name x pos) (tC (.int n)) := pe_glob (v := .int n) hg hm ⟨t, rfl⟩ hd
theorem pgR {x : Str} {a : Addr} {pos : Pos} (hm : X.mg x = some (.ref a)) (hg : Gl X x := by rfl) (hd : (x == ("__debug__" : Str)) = false := by decide) : PE X (.Name x pos) (tC (.ref a)) := pe_glob (v := .ref a) hg hm rfl hd
theorem ix_listK {K : PySem.W.Frag} (h : X.K = K := by rfl) : IxR X (rIxL K) := by
  subst h
  exact ix_list
theorem ix_tupK {K : PySem.W.Frag} (h : X.K = K := by rfl) : IxR X (rIxT K) := by
  subst h
  exact ix_tup
end
theorem gtK {X : Cx} {K : PySem.W.Frag} {n : Nat} {es : List Expr} {k : Nat} {pos : Pos} {t : TGs} (hK : X.K = K) (hc : X.calm = true) (h : PGs X es t) (hn : (assignEach es X.env).length = n) (hst : (assignEach es X.env).findIdx? (·.1) = none) : PG X (.Tuple es k pos) (gTup K n t) := by
  subst hK
  subst hn
  exact pg_tup hc h rfl hst
theorem pe_fldK {X : Cx} {K : PySem.W.Frag} {e : Expr} {f : Str} {pos : Pos} {ta : TE} (hK : X.K = K) (he : PE X e ta) (hb : attributeBase e f X.env (eval e X.env) = eval e X.env) : PE X (.Attribute e f pos) (tFld K ta f) := by
  subst hK
  exact pe_fld he hb
section
variable (P : Program) (w : World) (K : PySem.W.Frag) (mg : Str → Option Value) (base : Heap)
/-- a def that may be called by its name -/
structure CalF (k : Nat) (nm : Str) (ps : List Str) (sp : Sp) (f : Addr) (fd : FuncData) : Prop where
  g : mg nm = some (.ref f)
  kp : PySem.W.keepIn K (.ref f) = true
  b : Binds K fd ps []
  G : FnOk P w K mg base CX0 k f fd ps sp
structure CalM (C : Addr) (k : Nat) (nm : Str) (ps : List Str) (sp : Sp) (f : Addr) (fd : FuncData) : Prop where
  c : Cls K C
  m : Meth K C nm f
  b : Binds K fd ps []
  G : FnOk P w K mg base CX0 k f fd ps sp
/-- a class that may be called by its name -/
structure CalC (C : Addr) (k : Nat) (nm : Str) (ps : List Str) (sp : Sp) (f : Addr) (fd : FuncData) : Prop where
  M : Mk K C f
  g : mg nm = some (.ref C)
  b : Binds K fd ps []
  I : FnOk P w K mg base CX0 k f fd ps sp
end
/-! ### fields -/
def bdF (r t m l : Addr) (z le as : Bool) (bt : Int) (sv : V) (la : Nat) (tv dv : V) : List (Str × V) :=
  [("registers", .ref r), ("zero", .bl z), ("lets", .bl le), ("asleep", .bl as), ("beat", .int bt), ("stopped", sv), ("sent", .ref t), ("memory", .ref m), ("line", .ref l), ("line_at", .int (la : Int)), ("touched", tv), ("did", dv), ("bend", .int 0)]
def mmF (w s : Addr) : List (Str × V) := [("words", .ref w), ("swapped", .ref s)]
section
variable {r t m l w s : Addr} {z le as z' : Bool} {bt bt' : Int} {la : Nat} {sv tv dv v : V}
theorem bF_reg : (bdF r t m l z le as bt sv la tv dv).lookup ("registers" : Str) = some (.ref r) := by kernel_rfl
theorem bF_zero : (bdF r t m l z le as bt sv la tv dv).lookup ("zero" : Str) = some (.bl z) := by kernel_rfl
theorem bF_lets : (bdF r t m l z le as bt sv la tv dv).lookup ("lets" : Str) = some (.bl le) := by kernel_rfl
theorem bF_asleep : (bdF r t m l z le as bt sv la tv dv).lookup ("asleep" : Str) = some (.bl as) := by kernel_rfl
theorem bF_beat : (bdF r t m l z le as bt sv la tv dv).lookup ("beat" : Str) = some (.int bt) := by kernel_rfl
theorem bF_stop : (bdF r t m l z le as bt sv la tv dv).lookup ("stopped" : Str) = some sv := by kernel_rfl
theorem bF_sent : (bdF r t m l z le as bt sv la tv dv).lookup ("sent" : Str) = some (.ref t) := by kernel_rfl
theorem bF_mem : (bdF r t m l z le as bt sv la tv dv).lookup ("memory" : Str) = some (.ref m) := by kernel_rfl
theorem bF_line : (bdF r t m l z le as bt sv la tv dv).lookup ("line" : Str) = some (.ref l) := by kernel_rfl
theorem bF_la : (bdF r t m l z le as bt sv la tv dv).lookup ("line_at" : Str) = some (.int (la : Int)) := by kernel_rfl
theorem bF_bend : (bdF r t m l z le as bt sv la tv dv).lookup ("bend" : Str) = some (.int 0) := by kernel_rfl
theorem bP_bend : putF "bend" (.int 0) (bdF r t m l z le as bt sv la tv dv) = bdF r t m l z le as bt sv la tv dv := by kernel_rfl
theorem bP_zero : putF "zero" (.bl z') (bdF r t m l z le as bt sv la tv dv) = bdF r t m l z' le as bt sv la tv dv := by kernel_rfl
theorem bP_lets : putF "lets" (.bl z') (bdF r t m l z le as bt sv la tv dv) = bdF r t m l z z' as bt sv la tv dv := by kernel_rfl
theorem bP_asleep : putF "asleep" (.bl z') (bdF r t m l z le as bt sv la tv dv) = bdF r t m l z le z' bt sv la tv dv := by kernel_rfl
theorem bP_beat : putF "beat" (.int bt') (bdF r t m l z le as bt sv la tv dv) = bdF r t m l z le as bt' sv la tv dv := by kernel_rfl
theorem bP_la {n : Nat} : putF "line_at" (.int ((la : Int) + 1)) (bdF r t m l z le as bt sv la tv dv) = bdF r t m l z le as bt sv (la + 1) tv dv := by kernel_rfl
theorem bP_stop : putF "stopped" v (bdF r t m l z le as bt sv la tv dv) = bdF r t m l z le as bt v la tv dv := by kernel_rfl
theorem bP_tou : putF "touched" v (bdF r t m l z le as bt sv la tv dv) = bdF r t m l z le as bt sv la v dv := by kernel_rfl
theorem bP_did : putF "did" v (bdF r t m l z le as bt sv la tv dv) = bdF r t m l z le as bt sv la tv v := by kernel_rfl
theorem bF_len : (bdF r t m l z le as bt sv la tv dv).length = 13 := rfl
theorem mF_w : (mmF w s).lookup ("words" : Str) = some (.ref w) := by kernel_rfl
theorem mF_s : (mmF w s).lookup ("swapped" : Str) = some (.ref s) := by kernel_rfl
theorem bN_coming : (bdF r t m l z le as bt sv la tv dv).lookup ("coming" : Str) = none := by kernel_rfl
theorem bN_do : (bdF r t m l z le as bt sv la tv dv).lookup ("do_deed" : Str) = none := by kernel_rfl
theorem bN_may : (bdF r t m l z le as bt sv la tv dv).lookup ("may_touch" : Str) = none := by kernel_rfl
theorem bN_pbt : (bdF r t m l z le as bt sv la tv dv).lookup ("put_by_turn" : Str) = none := by kernel_rfl
theorem bN_pw : (bdF r t m l z le as bt sv la tv dv).lookup ("put_word" : Str) = none := by kernel_rfl
theorem bN_pass : (bdF r t m l z le as bt sv la tv dv).lookup ("pass_beats" : Str) = none := by kernel_rfl
theorem bN_come : (bdF r t m l z le as bt sv la tv dv).lookup ("come_line" : Str) = none := by kernel_rfl
theorem bN_begin : (bdF r t m l z le as bt sv la tv dv).lookup ("begin_interrupt" : Str) = none := by kernel_rfl
theorem bN_stop : (bdF r t m l z le as bt sv la tv dv).lookup ("stop" : Str) = none := by kernel_rfl
theorem bN_turn : (bdF r t m l z le as bt sv la tv dv).lookup ("turn" : Str) = none := by kernel_rfl
theorem mN_at : (mmF w s).lookup ("word_at" : Str) = none := by kernel_rfl
theorem mN_read : (mmF w s).lookup ("read" : Str) = none := by kernel_rfl
theorem mN_put : (mmF w s).lookup ("put" : Str) = none := by kernel_rfl
theorem mN_called : (mmF w s).lookup ("called_flags" : Str) = none := by kernel_rfl
theorem mN_take : (mmF w s).lookup ("take_line" : Str) = none := by kernel_rfl
theorem mN_timer : (mmF w s).lookup ("go_timer" : Str) = none := by kernel_rfl
end
def regD (a b pc sp : Int) : List (Key × V) := [(Sum.inr "a", .int a), (Sum.inr "b", .int b), (Sum.inr "pc", .int pc), (Sum.inr "sp", .int sp)]
section
variable {a b pc sp v : Int}
theorem rG_a : valV (regD a b pc sp) (Sum.inr "a") = some (.int a) := by kernel_rfl
theorem rG_b : valV (regD a b pc sp) (Sum.inr "b") = some (.int b) := by kernel_rfl
theorem rG_pc : valV (regD a b pc sp) (Sum.inr "pc") = some (.int pc) := by kernel_rfl
theorem rG_sp : valV (regD a b pc sp) (Sum.inr "sp") = some (.int sp) := by kernel_rfl
theorem rP_a : putK (regD a b pc sp) (Sum.inr "a") (.int v) = regD v b pc sp := by kernel_rfl
theorem rP_b : putK (regD a b pc sp) (Sum.inr "b") (.int v) = regD a v pc sp := by kernel_rfl
theorem rP_pc : putK (regD a b pc sp) (Sum.inr "pc") (.int v) = regD a b v sp := by kernel_rfl
theorem rP_sp : putK (regD a b pc sp) (Sum.inr "sp") (.int v) = regD a b pc v := by kernel_rfl
end
/-! ### lists of tuples -/
def TupsAt (H : Hp) : List V → List (Int × Int) → Prop := Paired fun v u => ∃ t, v = .ref t ∧ H t = some (.tup [.int u.1, .int u.2])
theorem TupsAt.mono {H H' : Hp} (k : ∀ t xs, H t = some (.tup xs) → H' t = some (.tup xs)) : ∀ {us : List V} {ls : List (Int × Int)}, TupsAt H us ls → TupsAt H' us ls
  | _, _, .nil => .nil
  | _, _, .cons h r => .cons (let ⟨t, e, q⟩ := h; ⟨t, e, k _ _ q⟩) (TupsAt.mono k r)
theorem TupsAt.snoc {H : Hp} {t : Addr} {u : Int × Int} (ht : H t = some (.tup [.int u.1, .int u.2])) : ∀ {us : List V} {ls : List (Int × Int)}, TupsAt H us ls → TupsAt H (us ++ [.ref t]) (ls ++ [u])
  | _, _, .nil => .cons ⟨t, rfl, ht⟩ .nil
  | _, _, .cons h r => .cons h (TupsAt.snoc ht r)
theorem TupsAt.len {H : Hp} : ∀ {us : List V} {ls : List (Int × Int)}, TupsAt H us ls → us.length = ls.length
  | _, _, .nil => rfl
  | _, _, .cons _ r => by rw [List.length_cons, List.length_cons, TupsAt.len r]
theorem TupsAt.get {H : Hp} : ∀ {us : List V} {ls : List (Int × Int)} {i : Nat}, TupsAt H us ls → i < ls.length → ∃ t, us[i]? = some (.ref t) ∧ H t = some (.tup [.int (ls.getD i (0, 0)).1, .int (ls.getD i (0, 0)).2])
  | _, _, _, .nil, h => by cases h
  | _, _, 0, .cons h r, _ => by
    obtain ⟨t, rfl, q⟩ := h
    exact ⟨t, rfl, q⟩
  | _, _, i + 1, .cons h r, hi => by
    obtain ⟨t, e1, e2⟩ := TupsAt.get (i := i) r (by rw [List.length_cons] at hi; omega)
    exact ⟨t, by rw [List.getElem?_cons_succ]; exact e1, by rw [List.getD_cons_succ]; exact e2⟩
/-! ### the board -/
structure Ad where
  dx : Addr
  r : Addr
  m : Addr
  dm : Addr
  w : Addr
  s : Addr
  t : Addr
  l : Addr
def StopAt (H : Hp) (v : V) : Option (Str × List Int) → Prop
  | none => v = .non
  | some r => ∃ q, v = .ref q ∧ H q = some (.tup (.str r.1 :: r.2.map V.int))
theorem StopAt.mono {H H' : Hp} (k : ∀ t xs, H t = some (.tup xs) → H' t = some (.tup xs)) {v : V} : ∀ {o : Option (Str × List Int)}, StopAt H v o → StopAt H' v o
  | none, h => h
  | some r, ⟨q, e, h⟩ => ⟨q, e, k _ _ h⟩
structure Bp (CB CM : Addr) (H0 H : Hp) (p : Addr) (A : Ad) (ts ls : List V) (x : Bd) : Prop where
  sm : Same H0 H
  fp : H0 p = none
  fr : H0 A.r = none
  fw : H0 A.w = none
  ft : H0 A.t = none
  fm : H0 A.m = none
  fs : H0 A.s = none
  fl : H0 A.l = none
  hp : ∃ sv tv dv, H p = some (.ins CB A.dx (bdF A.r A.t A.m A.l x.zero x.lets x.asleep x.beat sv x.la tv dv)) ∧ StopAt H sv x.stop
  hr : H A.r = some (.dK (regD x.a x.b x.pc x.sp))
  hm : H A.m = some (.ins CM A.dm (mmF A.w A.s))
  hw : H A.w = some (.lst (x.mem.map V.int))
  hs : H A.s = some (.dK [])
  ht : H A.t = some (.lst ts)
  hl : H A.l = some (.lst ls)
  pm : p ≠ A.m
  rs : A.r ≠ A.s
  wt : A.w ≠ A.t
  wl : A.w ≠ A.l
  tl : A.t ≠ A.l
  us : TupsAt H ts x.sent
  ll : TupsAt H ls x.line
  lm : x.mem.length = 774
def BoardAt (CB CM : Addr) (H0 H : Hp) (p : Addr) (x : Bd) : Prop := ∃ A ts ls, Bp CB CM H0 H p A ts ls x
section
variable {CB CM p : Addr} {H0 H : Hp} {A : Ad} {ts ls : List V} {x : Bd}
theorem Bp.more (h : Bp CB CM H0 H p A ts ls x) {q : Addr} {o : HO} (hq : H q = none) : Bp CB CM H0 (upd H q o) p A ts ls x where
  sm := h.sm.trans (same_upd' hq)
  fp := h.fp
  fr := h.fr
  fw := h.fw
  ft := h.ft
  fm := h.fm
  fs := h.fs
  fl := h.fl
  hp := let ⟨sv, tv, dv, e, z⟩ := h.hp; ⟨sv, tv, dv, same_upd' hq _ _ e, z.mono fun t xs e => same_upd' hq _ _ e⟩
  hr := same_upd' hq _ _ h.hr
  hm := same_upd' hq _ _ h.hm
  hw := same_upd' hq _ _ h.hw
  hs := same_upd' hq _ _ h.hs
  ht := same_upd' hq _ _ h.ht
  hl := same_upd' hq _ _ h.hl
  pm := h.pm
  rs := h.rs
  wt := h.wt
  wl := h.wl
  tl := h.tl
  us := h.us.mono fun t xs e => same_upd' hq _ _ e
  ll := h.ll.mono fun t xs e => same_upd' hq _ _ e
  lm := h.lm
/-- its object changes -/
theorem Bp.fld (h : Bp CB CM H0 H p A ts ls x) {z le as : Bool} {bt : Int} {sv : V} {la : Nat} {tv dv : V} {so : Option (Str × List Int)} (hso : StopAt H sv so) : Bp CB CM H0 (upd H p (.ins CB A.dx (bdF A.r A.t A.m A.l z le as bt sv la tv dv))) p A ts ls { x with zero := z, lets := le, asleep := as, beat := bt, la := la, stop := so } := by
  obtain ⟨sv0, tv0, dv0, hp, hz⟩ := h.hp
  exact {
    sm := same_of h.sm h.fp
    fp := h.fp
    fr := h.fr
    fw := h.fw
    ft := h.ft
    fm := h.fm
    fs := h.fs
    fl := h.fl
    hp := ⟨sv, tv, dv, upd_same, hso.mono fun t xs e => by rw [upd_ne (ne_of e hp (by intro q; cases q))]; exact e⟩
    hr := by rw [upd_ne (ne_of h.hr hp (by intro q; cases q))]; exact h.hr
    hm := by rw [upd_ne h.pm.symm]; exact h.hm
    hw := by rw [upd_ne (ne_of h.hw hp (by intro q; cases q))]; exact h.hw
    hs := by rw [upd_ne (ne_of h.hs hp (by intro q; cases q))]; exact h.hs
    ht := by rw [upd_ne (ne_of h.ht hp (by intro q; cases q))]; exact h.ht
    hl := by rw [upd_ne (ne_of h.hl hp (by intro q; cases q))]; exact h.hl
    pm := h.pm
    rs := h.rs
    wt := h.wt
    wl := h.wl
    tl := h.tl
    us := h.us.mono fun t xs e => by rw [upd_ne (ne_of e hp (by intro q; cases q))]; exact e
    ll := h.ll.mono fun t xs e => by rw [upd_ne (ne_of e hp (by intro q; cases q))]; exact e
    lm := h.lm }
theorem Bp.regs (h : Bp CB CM H0 H p A ts ls x) {a b pc sp : Int} : Bp CB CM H0 (upd H A.r (.dK (regD a b pc sp))) p A ts ls { x with a := a, b := b, pc := pc, sp := sp } := by
  obtain ⟨sv0, tv0, dv0, hp, hz⟩ := h.hp
  exact {
    sm := same_of h.sm h.fr
    fp := h.fp
    fr := h.fr
    fw := h.fw
    ft := h.ft
    fm := h.fm
    fs := h.fs
    fl := h.fl
    hp := ⟨sv0, tv0, dv0, by rw [upd_ne (ne_of hp h.hr (by intro q; cases q))]; exact hp, hz.mono fun t xs e => by rw [upd_ne (ne_of e h.hr (by intro q; cases q))]; exact e⟩
    hr := upd_same
    hm := by rw [upd_ne (ne_of h.hm h.hr (by intro q; cases q))]; exact h.hm
    hw := by rw [upd_ne (ne_of h.hw h.hr (by intro q; cases q))]; exact h.hw
    hs := by rw [upd_ne h.rs.symm]; exact h.hs
    ht := by rw [upd_ne (ne_of h.ht h.hr (by intro q; cases q))]; exact h.ht
    hl := by rw [upd_ne (ne_of h.hl h.hr (by intro q; cases q))]; exact h.hl
    pm := h.pm
    rs := h.rs
    wt := h.wt
    wl := h.wl
    tl := h.tl
    us := h.us.mono fun t xs e => by rw [upd_ne (ne_of e h.hr (by intro q; cases q))]; exact e
    ll := h.ll.mono fun t xs e => by rw [upd_ne (ne_of e h.hr (by intro q; cases q))]; exact e
    lm := h.lm }
theorem Bp.wds (h : Bp CB CM H0 H p A ts ls x) {m : List Int} (hm : m.length = 774) : Bp CB CM H0 (upd H A.w (.lst (m.map V.int))) p A ts ls { x with mem := m } := by
  obtain ⟨sv0, tv0, dv0, hp, hz⟩ := h.hp
  exact {
    sm := same_of h.sm h.fw
    fp := h.fp
    fr := h.fr
    fw := h.fw
    ft := h.ft
    fm := h.fm
    fs := h.fs
    fl := h.fl
    hp := ⟨sv0, tv0, dv0, by rw [upd_ne (ne_of hp h.hw (by intro q; cases q))]; exact hp, hz.mono fun t xs e => by rw [upd_ne (ne_of e h.hw (by intro q; cases q))]; exact e⟩
    hr := by rw [upd_ne (ne_of h.hr h.hw (by intro q; cases q))]; exact h.hr
    hm := by rw [upd_ne (ne_of h.hm h.hw (by intro q; cases q))]; exact h.hm
    hw := upd_same
    hs := by rw [upd_ne (ne_of h.hs h.hw (by intro q; cases q))]; exact h.hs
    ht := by rw [upd_ne h.wt.symm]; exact h.ht
    hl := by rw [upd_ne h.wl.symm]; exact h.hl
    pm := h.pm
    rs := h.rs
    wt := h.wt
    wl := h.wl
    tl := h.tl
    us := h.us.mono fun t xs e => by rw [upd_ne (ne_of e h.hw (by intro q; cases q))]; exact e
    ll := h.ll.mono fun t xs e => by rw [upd_ne (ne_of e h.hw (by intro q; cases q))]; exact e
    lm := hm }
theorem Bp.snd (h : Bp CB CM H0 H p A ts ls x) {q : Addr} {u : Int × Int} (hq : H q = some (.tup [.int u.1, .int u.2])) : Bp CB CM H0 (upd H A.t (.lst (ts ++ [.ref q]))) p A (ts ++ [.ref q]) ls { x with sent := x.sent ++ [u] } := by
  obtain ⟨sv0, tv0, dv0, hp, hz⟩ := h.hp
  exact {
    sm := same_of h.sm h.ft
    fp := h.fp
    fr := h.fr
    fw := h.fw
    ft := h.ft
    fm := h.fm
    fs := h.fs
    fl := h.fl
    hp := ⟨sv0, tv0, dv0, by rw [upd_ne (ne_of hp h.ht (by intro q; cases q))]; exact hp, hz.mono fun t xs e => by rw [upd_ne (ne_of e h.ht (by intro q; cases q))]; exact e⟩
    hr := by rw [upd_ne (ne_of h.hr h.ht (by intro q; cases q))]; exact h.hr
    hm := by rw [upd_ne (ne_of h.hm h.ht (by intro q; cases q))]; exact h.hm
    hw := by rw [upd_ne h.wt]; exact h.hw
    hs := by rw [upd_ne (ne_of h.hs h.ht (by intro q; cases q))]; exact h.hs
    ht := upd_same
    hl := by rw [upd_ne h.tl.symm]; exact h.hl
    pm := h.pm
    rs := h.rs
    wt := h.wt
    wl := h.wl
    tl := h.tl
    us := (TupsAt.snoc hq h.us).mono fun t xs e => by rw [upd_ne (ne_of e h.ht (by intro q; cases q))]; exact e
    ll := h.ll.mono fun t xs e => by rw [upd_ne (ne_of e h.ht (by intro q; cases q))]; exact e
    lm := h.lm }
end
theorem Bp.same {CB CM p : Addr} {H0 H H1 : Hp} {A : Ad} {ts ls : List V} {x : Bd} (h : Bp CB CM H0 H p A ts ls x) (s : Same H H1) : Bp CB CM H0 H1 p A ts ls x where
  sm := h.sm.trans s
  fp := h.fp
  fr := h.fr
  fw := h.fw
  ft := h.ft
  fm := h.fm
  fs := h.fs
  fl := h.fl
  hp := let ⟨sv, tv, dv, e, z⟩ := h.hp; ⟨sv, tv, dv, s _ _ e, z.mono fun t xs e => s _ _ e⟩
  hr := s _ _ h.hr
  hm := s _ _ h.hm
  hw := s _ _ h.hw
  hs := s _ _ h.hs
  ht := s _ _ h.ht
  hl := s _ _ h.hl
  pm := h.pm
  rs := h.rs
  wt := h.wt
  wl := h.wl
  tl := h.tl
  us := h.us.mono fun t xs e => s _ _ e
  ll := h.ll.mono fun t xs e => s _ _ e
  lm := h.lm
/-- all that is not the board's own stands in the base -/
def baseOf (H : Hp) (p : Addr) (A : Ad) : Hp := fun b => if b = p ∨ b = A.r ∨ b = A.w ∨ b = A.t ∨ b = A.m ∨ b = A.s ∨ b = A.l then none else H b
theorem Bp.rebase {CB CM p : Addr} {H0 H : Hp} {A : Ad} {ts ls : List V} {x : Bd} (h : Bp CB CM H0 H p A ts ls x) : Bp CB CM (baseOf H p A) H p A ts ls x where
  sm := fun b o e => by
    unfold baseOf at e
    split at e
    · cases e
    · exact e
  fp := if_pos (.inl rfl)
  fr := if_pos (.inr (.inl rfl))
  fw := if_pos (.inr (.inr (.inl rfl)))
  ft := if_pos (.inr (.inr (.inr (.inl rfl))))
  fm := if_pos (.inr (.inr (.inr (.inr (.inl rfl)))))
  fs := if_pos (.inr (.inr (.inr (.inr (.inr (.inl rfl))))))
  fl := if_pos (.inr (.inr (.inr (.inr (.inr (.inr rfl))))))
  hp := h.hp
  hr := h.hr
  hm := h.hm
  hw := h.hw
  hs := h.hs
  ht := h.ht
  hl := h.hl
  pm := h.pm
  rs := h.rs
  wt := h.wt
  wl := h.wl
  tl := h.tl
  us := h.us
  ll := h.ll
  lm := h.lm
theorem Bp.base_at {CB CM p : Addr} {H0 H : Hp} {A : Ad} {ts ls : List V} {x : Bd} (h : Bp CB CM H0 H p A ts ls x) {b : Addr} (h1 : b ≠ p) (h2 : b ≠ A.r) (h3 : b ≠ A.w) (h4 : b ≠ A.t) (h5 : b ≠ A.m) (h6 : b ≠ A.s) (h7 : b ≠ A.l) : baseOf H p A b = H b := if_neg fun z => by
  rcases z with z | z | z | z | z | z | z
  · exact h1 z
  · exact h2 z
  · exact h3 z
  · exact h4 z
  · exact h5 z
  · exact h6 z
  · exact h7 z
theorem Bp.base_tup {CB CM p : Addr} {H0 H : Hp} {A : Ad} {ts ls : List V} {x : Bd} (h : Bp CB CM H0 H p A ts ls x) : ∀ t xs, H t = some (.tup xs) → baseOf H p A t = some (.tup xs) := fun t xs e => by
  obtain ⟨sv, tv, dv, hp, _⟩ := h.hp
  rw [h.base_at (ne_of e hp (by intro q; cases q)) (ne_of e h.hr (by intro q; cases q)) (ne_of e h.hw (by intro q; cases q)) (ne_of e h.ht (by intro q; cases q)) (ne_of e h.hm (by intro q; cases q)) (ne_of e h.hs (by intro q; cases q)) (ne_of e h.hl (by intro q; cases q))]
  exact e
theorem Bp.base_same {CB CM p : Addr} {H0 H : Hp} {A : Ad} {ts ls : List V} {x : Bd} (h : Bp CB CM H0 H p A ts ls x) : Same H0 (baseOf H p A) := fun b o e => by
  rw [h.base_at (ne_of_none e h.fp) (ne_of_none e h.fr) (ne_of_none e h.fw) (ne_of_none e h.ft) (ne_of_none e h.fm) (ne_of_none e h.fs) (ne_of_none e h.fl)]
  exact h.sm _ _ e
theorem Bp.base_eq {CB CM p : Addr} {H0 H : Hp} {A : Ad} {ts ls : List V} {x : Bd} (h : Bp CB CM H0 H p A ts ls x) {H' : Hp} {b : Addr} {o : HO} (e : H0 b = some o) : baseOf H' p A b = H' b := if_neg fun z => by
  rcases z with z | z | z | z | z | z | z
  · exact ne_of_none e h.fp z
  · exact ne_of_none e h.fr z
  · exact ne_of_none e h.fw z
  · exact ne_of_none e h.ft z
  · exact ne_of_none e h.fm z
  · exact ne_of_none e h.fs z
  · exact ne_of_none e h.fl z
theorem BoardAt.unbase {CB CM p : Addr} {H0 H1 H : Hp} {x : Bd} (s : Same H0 H1) (h : BoardAt CB CM H1 H p x) : BoardAt CB CM H0 H p x := by
  obtain ⟨A, ts, ls, h⟩ := h
  exact ⟨A, ts, ls, {
    sm := s.trans h.sm
    fp := s.free h.fp
    fr := s.free h.fr
    fw := s.free h.fw
    ft := s.free h.ft
    fm := s.free h.fm
    fs := s.free h.fs
    fl := s.free h.fl
    hp := h.hp
    hr := h.hr
    hm := h.hm
    hw := h.hw
    hs := h.hs
    ht := h.ht
    hl := h.hl
    pm := h.pm
    rs := h.rs
    wt := h.wt
    wl := h.wl
    tl := h.tl
    us := h.us
    ll := h.ll
    lm := h.lm }⟩
theorem dg {H : Hp} {r : Addr} {kvs : List (Key × V)} {k : Key} {v : V} (e : H r = some (.dK kvs)) (h : valV kvs k = some v) : DGet H r (kV k) (some v) := h ▸ DGet.k e
theorem dp {H : Hp} {r : Addr} {a b pc sp : Int} {kvs : List (Key × V)} {k : Key} {v : V} (e : H r = some (.dK (regD a b pc sp))) (h : putK (regD a b pc sp) k v = kvs) : DPut H r (kV k) v (upd H r (.dK kvs)) := by
  subst h
  exact DPut.k e (by show 4 < sizeLine; decide)
end Bh

/-! The program's small defs: the memory, what words and images are. -/
namespace Bh
open PySem PySem.Spec PyProof.Rows L2
def topS (i : Nat) : Stmt := PySem.Challenge.pw_boardheld_k16_interrupts.main.body.getD i (.Pass ⟨0, 0, 0, 0⟩)
def rdN : List Str := ["get", "add", "sub", "and", "xor"]
def opN : List Str := ["mark", "lit", "get", "put", "add", "sub", "and", "xor", "getb", "putb", "tob", "swap", "go", "ifz", "ifn", "call", "ret", "push", "pop", "sleep", "let", "back", "half"]
structure Tx (K : PySem.W.Frag) (mg : Str → Option Value) (CB CM : Addr) : Prop where
  g_FLASH_END : ∃ t, mg "FLASH_END" = some (.int 512 t)
  g_RAM_END : ∃ t, mg "RAM_END" = some (.int 768 t)
  g_PLACES_END : ∃ t, mg "PLACES_END" = some (.int 774 t)
  g_COUNT : ∃ t, mg "COUNT" = some (.int 768 t)
  g_TOP : ∃ t, mg "TOP" = some (.int 769 t)
  g_FLAGS : ∃ t, mg "FLAGS" = some (.int 770 t)
  g_MASK : ∃ t, mg "MASK" = some (.int 771 t)
  g_LINE_IN : ∃ t, mg "LINE_IN" = some (.int 772 t)
  g_LINE_OUT : ∃ t, mg "LINE_OUT" = some (.int 773 t)
  g_TIMER_FLAG : ∃ t, mg "TIMER_FLAG" = some (.int 1 t)
  g_LINE_FLAG : ∃ t, mg "LINE_FLAG" = some (.int 2 t)
  g_WORD_MOST : ∃ t, mg "WORD_MOST" = some (.int 65535 t)
  g_ERASED : ∃ t, mg "ERASED" = some (.int 65535 t)
  g_X_SPAN : ∃ t, mg "X_SPAN" = some (.int 1024 t)
  g_LINE_MOST : ∃ t, mg "LINE_MOST" = some (.int 3 t)
  g_STACK_TOP : ∃ t, mg "STACK_TOP" = some (.int 767 t)
  g_INTERRUPT_BEATS : ∃ t, mg "INTERRUPT_BEATS" = some (.int 3 t)
  g_TIMER_PC : ∃ t, mg "TIMER_PC" = some (.int 1 t)
  g_LINE_PC : ∃ t, mg "LINE_PC" = some (.int 2 t)
  g_WORDS : ∃ t, mg "WORDS" = some (.int 65536 t)
  g_HIGH : ∃ t, mg "HIGH" = some (.int 32768 t)
  z_len : mg "len" = none
  z_range : mg "range" = none
  z_isinstance : mg "isinstance" = none
  z_all : mg "all" = none
  z_int : mg "int" = none
  z_bool : mg "bool" = none
  z_list : mg "list" = none
  z_tuple : mg "tuple" = none
  z_divmod : mg "divmod" = none
  g_READS_AT_X : ∃ a, mg "READS_AT_X" = some (.ref a) ∧ ∀ H, SqT K H a (rdN.map V.str)
  g_OP_NAMES : ∃ a, mg "OP_NAMES" = some (.ref a) ∧ ∀ H, SqT K H a (opN.map V.str)
  cB : Cls K CB
  cM : Cls K CM
  n_registers : NoAttr K CB "registers"
  n_zero : NoAttr K CB "zero"
  n_lets : NoAttr K CB "lets"
  n_asleep : NoAttr K CB "asleep"
  n_beat : NoAttr K CB "beat"
  n_stopped : NoAttr K CB "stopped"
  n_sent : NoAttr K CB "sent"
  n_memory : NoAttr K CB "memory"
  n_line : NoAttr K CB "line"
  n_line_at : NoAttr K CB "line_at"
  n_touched : NoAttr K CB "touched"
  n_did : NoAttr K CB "did"
  n_bend : NoAttr K CB "bend"
  n_words : NoAttr K CM "words"
  n_swapped : NoAttr K CM "swapped"
structure MemAt (CM : Addr) (H : Hp) (m dm w s : Addr) (mem : List Int) : Prop where
  hm : H m = some (.ins CM dm (mmF w s))
  hw : H w = some (.lst (mem.map V.int))
  hs : H s = some (.dK [])
  lm : mem.length = 774
theorem Bp.mem {CB CM p : Addr} {H0 H : Hp} {A : Ad} {ts ls : List V} {x : Bd} (h : Bp CB CM H0 H p A ts ls x) : MemAt CM H A.m A.dm A.w A.s x.mem := ⟨h.hm, h.hw, h.hs, h.lm⟩
def kS (b : Bool) : Str := if b = true then "w" else "r"
theorem ne_wr : decide (V.str "w" = V.str "r") = false := by decide +kernel
theorem hsz {n : Nat} (h : n ≤ 100000) : n ≤ sizeLine := Nat.le_trans h (by decide)
theorem natI {n k : Nat} (h : n < k) : (n : Int) < k := by omega
def oS : Option Str → V
  | none => .non
  | some w => .str w
def spBar : Sp := fun vs H Q _ => ∃ t : Bool × Int, vs = [.str (kS t.1), .int t.2] ∧ Q (oS (barM t)) H
def spMRead (CM : Addr) : Sp := fun vs H Q _ => ∃ (m dm w s : Addr) (mem : List Int) (i pc : Int), vs = [.ref m, .int i, .int pc] ∧ MemAt CM H m dm w s mem ∧ 0 ≤ i ∧ i < 774 ∧ Q (.int (rd mem i)) H
def spMAt (CM : Addr) : Sp := fun vs H Q _ => ∃ (m dm w s : Addr) (mem : List Int) (i : Int), vs = [.ref m, .int i] ∧ MemAt CM H m dm w s mem ∧ 0 ≤ i ∧ i < 774 ∧ Q (.int (rd mem i)) H
def spMPut (CM : Addr) : Sp := fun vs H Q _ => ∃ (m dm w s : Addr) (mem : List Int) (i v : Int), vs = [.ref m, .int i, .int v] ∧ MemAt CM H m dm w s mem ∧ 0 ≤ i ∧ i < 774 ∧ Q .non (upd H w (.lst ((putMM i v mem).map V.int)))
def spMCall (CM : Addr) : Sp := fun vs H Q _ => ∃ (m dm w s : Addr) (mem : List Int), vs = [.ref m] ∧ MemAt CM H m dm w s mem ∧ Q (.int (Builtin.bitAnd (rd mem 770) (rd mem 771))) H
def spMTake (CM : Addr) : Sp := fun vs H Q _ => ∃ (m dm w s : Addr) (mem : List Int) (v : Int), vs = [.ref m, .int v] ∧ MemAt CM H m dm w s mem ∧ Q .non (upd H w (.lst ((takeLineM v mem).map V.int)))
def spMTim (CM : Addr) : Sp := fun vs H Q _ => ∃ (m dm w s : Addr) (mem : List Int), vs = [.ref m] ∧ MemAt CM H m dm w s mem ∧ Q .non (upd H w (.lst ((goTimerM mem).map V.int)))
def memOf (ns : List Int) : List Int := ns ++ List.replicate (512 - ns.length) 65535 ++ List.replicate 262 0
def spMI (CM : Addr) : Sp := fun vs H Q _ => ∃ (m dm im : Addr) (ns : List Int), vs = [.ref m, .ref im] ∧ H m = some (.ins CM dm []) ∧ H im = some (.lst (ns.map V.int)) ∧ ns.length ≤ 512 ∧
  ∀ (H' : Hp) (w s : Addr), MemAt CM H' m dm w s (memOf ns) → (∀ b o, b ≠ m → H b = some o → H' b = some o) → H w = none → H s = none → Q .non H'
def spWhole : Sp := fun vs H Q _ => ∃ i : Int, vs = [.int i] ∧ Q (.bl true) H
def spBetw : Sp := fun vs H Q _ => ∃ i a b : Int, vs = [.int i, .int a, .int b] ∧ Q (.bl (decide (a ≤ i ∧ i ≤ b))) H
def spWord : Sp := fun vs H Q _ => ∃ i : Int, vs = [.int i] ∧ Q (.bl (decide (0 ≤ i ∧ i ≤ 65535))) H
def WordsOk (ns : List Int) : Prop := ∀ n ∈ ns, 0 ≤ n ∧ n ≤ 65535
def spImg : Sp := fun vs H Q _ => ∃ (im : Addr) (ns : List Int), vs = [.ref im] ∧ H im = some (.lst (ns.map V.int)) ∧ ns.length ≤ 512 ∧ WordsOk ns ∧ ∀ H', Same H H' → Q (.bl true) H'
/-- the rows rise from behind n on -/
def riseM : Int → List (Int × Int) → Prop
  | _, [] => True
  | n, r :: rs => n < r.1 ∧ 0 ≤ r.2 ∧ r.2 ≤ 3 ∧ riseM r.1 rs
def spLRow : Sp := fun vs H Q _ => ∃ (t : Addr) (r : Int × Int) (n : Int), vs = [.ref t, .int n] ∧ H t = some (.tup [.int r.1, .int r.2]) ∧ n < r.1 ∧ 0 ≤ r.2 ∧ r.2 ≤ 3 ∧ Q (.bl true) H
def spLine : Sp := fun vs H Q _ => ∃ (l : Addr) (us : List V) (ls : List (Int × Int)), vs = [.ref l] ∧ H l = some (.lst us) ∧ TupsAt H us ls ∧ riseM 0 ls ∧ Q (.bl true) H
section
variable {P : Program} {w : World} {K : PySem.W.Frag} {mg : Str → Option Value} {base : Heap} {CB CM : Addr}
abbrev sFbar : Stmt := topS 46
def scFbarN : List Str := ["kind", "address"]
theorem scFbar : FnScope scFbarN ["kind", "address"] (defScope sFbar) := ⟨rfl, rfl, rfl, by decide +kernel, rfl, by decide +kernel, by decide +kernel⟩
theorem ok_Fbar {f : Addr} {fd : FuncData} (F : Fun K "bar_of" "bar_of" sFbar f fd) (T : Tx K mg CB CM) : FnOk P w K mg base CX0 1 f fd ["kind", "address"] (spBar) := by
  refine F.ok scFbar (fun vs H Q E h => by obtain ⟨t, rfl, _⟩ := h; rfl) (fun cdv A outer s H vs Q E hr h => ?_)
  have hu := hu_of hr
  obtain ⟨t_FLASH_END, g_FLASH_END⟩ := T.g_FLASH_END
  obtain ⟨t_LINE_IN, g_LINE_IN⟩ := T.g_LINE_IN
  obtain ⟨t_PLACES_END, g_PLACES_END⟩ := T.g_PLACES_END
  obtain ⟨⟨b, a⟩, rfl, q⟩ := h
  refine ⟨_, (pss_cons (ps_if (pt_not (pt_chain op_le op_lt pe_int (pv 1) (pgI g_PLACES_END))) (pss_one (ps_ret pe_str)) pss_nil)
    (pss_cons (ps_if (pt_cmpR op_eq (pv 0) pe_str (nomark _)) (pss_one (ps_ret pe_non)) pss_nil)
    (pss_cons (ps_if (pt_cmpR op_lt (pv 1) (pgI g_FLASH_END) (nomark _)) (pss_one (ps_ret pe_str)) pss_nil)
    (pss_cons (ps_if (pt_cmpR op_eq (pv 1) (pgI g_LINE_IN) (nomark _)) (pss_one (ps_ret pe_str)) pss_nil)
    (pss_one (ps_ret pe_non)))))), ?_⟩
  have far : ¬ (0 ≤ a ∧ a < 774) → Q (.str "far") H := fun h => by
    unfold barM at q
    rw [if_pos h] at q
    exact q
  refine ⟨_, rfl, _, _, rfl, rfl, _, rfl, ifB (fun t0 => ?_) (fun t0 => ⟨_, rfl, far fun z => absurd z.1 (of_decide_eq_false t0)⟩)⟩
  refine ⟨_, _, rfl, rfl, _, rfl, ifN (fun t1 => far fun z => absurd z.2 (of_decide_eq_false t1)) (fun t1 => ?_)⟩
  have t0 := of_decide_eq_true t0
  have t1 := of_decide_eq_true t1
  unfold barM at q
  rw [if_neg (fun z => z ⟨t0, t1⟩)] at q
  cases b with
  | false => exact ⟨_, rfl, rfl, _, rfl, q⟩
  | true =>
    refine ⟨_, rfl, rfl, _, rfl, ?_⟩
    show if decide (V.str "w" = V.str "r") = true then _ else _
    rw [ne_wr, if_neg Bool.false_ne_true]
    rw [if_neg (show ¬ ((true : Bool) = false) by decide)] at q
    refine ⟨_, rfl, _, _, rfl, rfl, _, rfl, ifB (fun h => ?_) (fun h => ?_)⟩
    · rw [if_pos (of_decide_eq_true h)] at q
      exact q
    · rw [if_neg (of_decide_eq_false h)] at q
      refine ⟨_, rfl, rfl, _, rfl, ifB (fun h2 => ?_) (fun h2 => ?_)⟩
      · rw [if_pos (V.int.inj (of_decide_eq_true h2))] at q
        exact q
      · rw [if_neg (fun z => of_decide_eq_false h2 (congrArg V.int z))] at q
        exact q
abbrev sMat : Stmt := inClass (topS 47) 1
def scMatN : List Str := ["self", "address"]
theorem scMat : FnScope scMatN ["self", "address"] (defScope sMat) := ⟨rfl, rfl, rfl, by decide +kernel, rfl, by decide +kernel, by decide +kernel⟩
theorem ok_Mat {f : Addr} {fd : FuncData} (F : Fun K "word_at" "Memory.word_at" sMat f fd) (T : Tx K mg CB CM) : FnOk P w K mg base CX0 1 f fd ["self", "address"] (spMAt CM) := by
  refine F.ok scMat (fun vs H Q E h => by obtain ⟨_, _, _, _, _, _, rfl, _⟩ := h; rfl) (fun cdv A outer s H vs Q E hr h => ?_)
  have hu := hu_of hr
  obtain ⟨t_PLACES_END, g_PLACES_END⟩ := T.g_PLACES_END
  obtain ⟨m, dm, w_, s_, mem, i, rfl, M, i0, i1, q⟩ := h
  refine ⟨_, (pss_cons (ps_if (pt_chain op_le op_lt pe_int (pv 1) (pgI g_PLACES_END)) (pss_one (ps_ret (pe_ix ix_list (pe_fld (pv 0) rfl) (pv 1) (fun _ _ => rfl)))) pss_nil)
    (pss_one (ps_ret pe_non))), ?_⟩
  refine ⟨_, rfl, _, _, rfl, rfl, _, rfl, ?_⟩
  rw [if_pos (decide_eq_true i0)]
  refine ⟨_, _, rfl, rfl, _, rfl, ifB (fun _ => ?_) (fun h => absurd i1 (of_decide_eq_false h))⟩
  exact ⟨_, rfl, m, CM, dm, _, _, rfl, M.hm, T.cM, T.n_words, mF_w, _, rfl, w_, _, _, _, rfl, rfl, SqL.of M.hw, atI_rd i0 (by rw [M.lm]; exact i1), q⟩
abbrev sMread : Stmt := inClass (topS 47) 2
def scMreadN : List Str := ["self", "address", "pc"]
theorem scMread : FnScope scMreadN ["self", "address", "pc"] (defScope sMread) := ⟨rfl, rfl, rfl, by decide +kernel, rfl, by decide +kernel, by decide +kernel⟩
theorem ok_Mread {f : Addr} {fd : FuncData} (F : Fun K "read" "Memory.read" sMread f fd) (T : Tx K mg CB CM) : FnOk P w K mg base CX0 1 f fd ["self", "address", "pc"] (spMRead CM) := by
  refine F.ok scMread (fun vs H Q E h => by obtain ⟨_, _, _, _, _, _, _, rfl, _⟩ := h; rfl) (fun cdv A outer s H vs Q E hr h => ?_)
  have hu := hu_of hr
  obtain ⟨m, dm, w_, s_, mem, i, pc, rfl, M, i0, i1, q⟩ := h
  refine ⟨_, (pss_cons (ps_if (PW.pt (pw_and (pt_cmp (pc_din hu (pv 1) (pe_fld (pv 0) rfl))) (pw_and1 (pt_cmpR op_ne (pv 1) (pv 2) (nomark _))))) (pss_one (ps_ret pe_int)) pss_nil)
    (pss_one (ps_ret (pe_ix ix_list (pe_fld (pv 0) rfl) (pv 1) (fun _ _ => rfl))))), ?_⟩
  refine ⟨_, rfl, _, rfl, m, CM, dm, _, _, rfl, M.hm, T.cM, T.n_swapped, mF_s, s_, _, rfl, DGet.k (k := Sum.inl i) M.hs, _, rfl, ?_⟩
  exact ⟨_, rfl, m, CM, dm, _, _, rfl, M.hm, T.cM, T.n_words, mF_w, _, rfl, w_, _, _, _, rfl, rfl, SqL.of M.hw, atI_rd i0 (by rw [M.lm]; exact i1), q⟩
abbrev sMput : Stmt := inClass (topS 47) 3
def scMputN : List Str := ["self", "address", "word"]
theorem scMput : FnScope scMputN ["self", "address", "word"] (defScope sMput) := ⟨rfl, rfl, rfl, by decide +kernel, rfl, by decide +kernel, by decide +kernel⟩
theorem ok_Mput {f : Addr} {fd : FuncData} (F : Fun K "put" "Memory.put" sMput f fd) (T : Tx K mg CB CM) : FnOk P w K mg base CX0 1 f fd ["self", "address", "word"] (spMPut CM) := by
  refine F.ok scMput (fun vs H Q E h => by obtain ⟨_, _, _, _, _, _, _, rfl, _⟩ := h; rfl) (fun cdv A outer s H vs Q E hr h => ?_)
  have hu := hu_of hr
  obtain ⟨t_FLAGS, g_FLAGS⟩ := T.g_FLAGS
  obtain ⟨t_WORD_MOST, g_WORD_MOST⟩ := T.g_WORD_MOST
  obtain ⟨m, dm, w_, s_, mem, i, v, rfl, M, i0, i1, q⟩ := h
  refine ⟨_, (pss_one (ps_if (pt_cmpR op_eq (pv 1) (pgI g_FLAGS) (nomark _)) (pss_one (ps_asg (pe_op op_and (pe_ix ix_list (pe_fld (pv 0) rfl) (pgI g_FLAGS) (fun _ _ => rfl)) (pe_op op_sub (pgI g_WORD_MOST) (pv 2))) (pg_sub (pe_fld (pv 0) rfl) (pgI g_FLAGS) set_list))) (pss_one (ps_asg (pv 2) (pg_sub (pe_fld (pv 0) rfl) (pv 1) set_list))))), ?_⟩
  unfold putMM at q
  refine ⟨_, rfl, rfl, _, rfl, ifB (fun h => ?_) (fun h => ?_)⟩
  · have e := V.int.inj (of_decide_eq_true h)
    rw [if_pos e] at q
    refine ⟨_, rfl, m, CM, dm, _, _, rfl, M.hm, T.cM, T.n_words, mF_w, w_, _, _, _, rfl, rfl, SqL.of M.hw, atI_rd (by decide) (by rw [M.lm]; decide), _, rfl, _, _, rfl, rfl, _, _, rfl, rfl, ?_⟩
    refine ⟨_, rfl, m, CM, dm, _, _, rfl, M.hm, T.cM, T.n_words, mF_w, w_, _, _, _, rfl, rfl, M.hw, ixN_in (by decide) (by rw [List.length_map, M.lm]; decide), ?_⟩
    rw [set_map]
    exact q
  · have e : ¬ i = 770 := fun z => of_decide_eq_false h (by rw [z])
    rw [if_neg e] at q
    refine ⟨_, rfl, _, rfl, m, CM, dm, _, _, rfl, M.hm, T.cM, T.n_words, mF_w, _, rfl, w_, _, _, _, rfl, rfl, M.hw, ixN_in i0 (by rw [List.length_map, M.lm]; exact i1), ?_⟩
    rw [set_map]
    exact q
abbrev sMcalled : Stmt := inClass (topS 47) 4
def scMcalledN : List Str := ["self"]
theorem scMcalled : FnScope scMcalledN ["self"] (defScope sMcalled) := ⟨rfl, rfl, rfl, by decide +kernel, rfl, by decide +kernel, by decide +kernel⟩
theorem ok_Mcalled {f : Addr} {fd : FuncData} (F : Fun K "called_flags" "Memory.called_flags" sMcalled f fd) (T : Tx K mg CB CM) : FnOk P w K mg base CX0 1 f fd ["self"] (spMCall CM) := by
  refine F.ok scMcalled (fun vs H Q E h => by obtain ⟨_, _, _, _, _, rfl, _⟩ := h; rfl) (fun cdv A outer s H vs Q E hr h => ?_)
  have hu := hu_of hr
  obtain ⟨t_FLAGS, g_FLAGS⟩ := T.g_FLAGS
  obtain ⟨t_MASK, g_MASK⟩ := T.g_MASK
  obtain ⟨m, dm, w_, s_, mem, rfl, M, q⟩ := h
  refine ⟨_, (pss_one (ps_ret (pe_op op_and (pe_ix ix_list (pe_fld (pv 0) rfl) (pgI g_FLAGS) (fun _ _ => rfl)) (pe_ix ix_list (pe_fld (pv 0) rfl) (pgI g_MASK) (fun _ _ => rfl))))), ?_⟩
  exact ⟨_, rfl, m, CM, dm, _, _, rfl, M.hm, T.cM, T.n_words, mF_w, w_, _, _, _, rfl, rfl, SqL.of M.hw, atI_rd (by decide) (by rw [M.lm]; decide), _, rfl, m, CM, dm, _, _, rfl, M.hm, T.cM, T.n_words, mF_w, w_, _, _, _, rfl, rfl, SqL.of M.hw, atI_rd (by decide) (by rw [M.lm]; decide), _, _, rfl, rfl, q⟩
abbrev sMtake : Stmt := inClass (topS 47) 5
def scMtakeN : List Str := ["self", "value", "rises"]
theorem scMtake : FnScope scMtakeN ["self", "value"] (defScope sMtake) := ⟨rfl, rfl, rfl, by decide +kernel, rfl, by decide +kernel, by decide +kernel⟩
theorem ok_Mtake {f : Addr} {fd : FuncData} (F : Fun K "take_line" "Memory.take_line" sMtake f fd) (T : Tx K mg CB CM) : FnOk P w K mg base CX0 1 f fd ["self", "value"] (spMTake CM) := by
  refine F.ok scMtake (fun vs H Q E h => by obtain ⟨_, _, _, _, _, _, rfl, _⟩ := h; rfl) (fun cdv A outer s H vs Q E hr h => ?_)
  have hu := hu_of hr
  obtain ⟨t_FLAGS, g_FLAGS⟩ := T.g_FLAGS
  obtain ⟨t_LINE_FLAG, g_LINE_FLAG⟩ := T.g_LINE_FLAG
  obtain ⟨t_LINE_IN, g_LINE_IN⟩ := T.g_LINE_IN
  obtain ⟨m, dm, w_, s_, mem, v, rfl, M, q⟩ := h
  refine ⟨_, (pss_cons (ps_set (i := 2) scMtake.nd rfl (.inl rfl) (pe_cmpR op_gt (pe_op op_mod (pv 1) pe_int) (pe_op op_mod (pe_ix ix_list (pe_fld (pv 0) rfl) (pgI g_LINE_IN) (fun _ _ => rfl)) pe_int) (nomark _)))
    (pss_cons (ps_asg (pv 1) (pg_sub (pe_fld (pv 0) rfl) (pgI g_LINE_IN) set_list))
    (pss_one (ps_if (pt_val (pv 2)) (pss_one (ps_asg (pe_op op_or (pe_ix ix_list (pe_fld (pv 0) rfl) (pgI g_FLAGS) (fun _ _ => rfl)) (pgI g_LINE_FLAG)) (pg_sub (pe_fld (pv 0) rfl) (pgI g_FLAGS) set_list))) pss_nil)))), ?_⟩
  unfold takeLineM at q
  refine ⟨_, rfl, _, _, rfl, rfl, (by show (0 : Int) < 2; decide), _, rfl, m, CM, dm, _, _, rfl, M.hm, T.cM, T.n_words, mF_w, w_, _, _, _, rfl, rfl, SqL.of M.hw, atI_rd (by decide) (by rw [M.lm]; decide), _, _, rfl, rfl, (by show (0 : Int) < 2; decide), _, _, rfl, rfl, ?_⟩
  refine ⟨_, rfl, _, rfl, m, CM, dm, _, _, rfl, M.hm, T.cM, T.n_words, mF_w, w_, _, _, _, rfl, rfl, M.hw, ixN_in (by decide) (by rw [List.length_map, M.lm]; decide), ?_⟩
  rw [set_map]
  have mw : m ≠ w_ := ne_of M.hm M.hw (by intro q; cases q)
  have hw2 : upd H w_ (.lst ((stM mem 772 v).map V.int)) w_ = some (.lst ((stM mem 772 v).map V.int)) := upd_same
  have hm2 : upd H w_ (.lst ((stM mem 772 v).map V.int)) m = some (.ins CM dm (mmF w_ s_)) := by rw [upd_ne mw]; exact M.hm
  have l2 : (stM mem 772 v).length = 774 := by rw [stM_len]; exact M.lm
  refine ⟨_, rfl, _, rfl, ifB (fun h => ?_) (fun h => ?_)⟩
  · rw [if_pos (of_decide_eq_true h)] at q
    refine ⟨_, rfl, m, CM, dm, _, _, rfl, hm2, T.cM, T.n_words, mF_w, w_, _, _, _, rfl, rfl, SqL.of hw2, atI_rd (by decide) (by rw [l2]; decide), _, _, rfl, rfl, ?_⟩
    refine ⟨_, rfl, m, CM, dm, _, _, rfl, hm2, T.cM, T.n_words, mF_w, w_, _, _, _, rfl, rfl, hw2, ixN_in (by decide) (by rw [List.length_map, l2]; decide), ?_⟩
    rw [set_map, upd_upd]
    exact q
  · rw [if_neg (of_decide_eq_false h)] at q
    exact q
abbrev sMtimer : Stmt := inClass (topS 47) 6
def scMtimerN : List Str := ["self", "top", "count"]
theorem scMtimer : FnScope scMtimerN ["self"] (defScope sMtimer) := ⟨rfl, rfl, rfl, by decide +kernel, rfl, by decide +kernel, by decide +kernel⟩
theorem ok_Mtimer {f : Addr} {fd : FuncData} (F : Fun K "go_timer" "Memory.go_timer" sMtimer f fd) (T : Tx K mg CB CM) : FnOk P w K mg base CX0 1 f fd ["self"] (spMTim CM) := by
  refine F.ok scMtimer (fun vs H Q E h => by obtain ⟨_, _, _, _, _, rfl, _⟩ := h; rfl) (fun cdv A outer s H vs Q E hr h => ?_)
  have hu := hu_of hr
  obtain ⟨t_COUNT, g_COUNT⟩ := T.g_COUNT
  obtain ⟨t_FLAGS, g_FLAGS⟩ := T.g_FLAGS
  obtain ⟨t_TIMER_FLAG, g_TIMER_FLAG⟩ := T.g_TIMER_FLAG
  obtain ⟨t_TOP, g_TOP⟩ := T.g_TOP
  obtain ⟨m, dm, w_, s_, mem, rfl, M, q⟩ := h
  refine ⟨_, (pss_cons (ps_set (i := 1) scMtimer.nd rfl (.inl rfl) (pe_ix ix_list (pe_fld (pv 0) rfl) (pgI g_TOP) (fun _ _ => rfl)))
    (pss_cons (ps_if (pt_cmpR op_eq (pv 1) pe_int (nomark _)) (pss_one ps_retN) pss_nil)
    (pss_cons (ps_set (i := 2) scMtimer.nd rfl (.inl rfl) (pe_op op_add (pe_ix ix_list (pe_fld (pv 0) rfl) (pgI g_COUNT) (fun _ _ => rfl)) pe_int))
    (pss_cons (ps_if (pt_cmpR op_ge (pv 2) (pv 1) (nomark _)) (pss_cons (ps_set (i := 2) scMtimer.nd rfl (.inl rfl) pe_int)
    (pss_one (ps_asg (pe_op op_or (pe_ix ix_list (pe_fld (pv 0) rfl) (pgI g_FLAGS) (fun _ _ => rfl)) (pgI g_TIMER_FLAG)) (pg_sub (pe_fld (pv 0) rfl) (pgI g_FLAGS) set_list)))) pss_nil)
    (pss_one (ps_asg (pv 2) (pg_sub (pe_fld (pv 0) rfl) (pgI g_COUNT) set_list))))))), ?_⟩
  unfold goTimerM at q
  refine ⟨_, rfl, m, CM, dm, _, _, rfl, M.hm, T.cM, T.n_words, mF_w, w_, _, _, _, rfl, rfl, SqL.of M.hw, atI_rd (by decide) (by rw [M.lm]; decide), ?_⟩
  refine ⟨_, rfl, rfl, _, rfl, ifB (fun h => ?_) (fun h => ?_)⟩
  · rw [if_pos (V.int.inj (of_decide_eq_true h)), upd_id M.hw] at q
    exact q
  · rw [if_neg (fun z => of_decide_eq_false h (by rw [z]))] at q
    refine ⟨_, rfl, m, CM, dm, _, _, rfl, M.hm, T.cM, T.n_words, mF_w, w_, _, _, _, rfl, rfl, SqL.of M.hw, atI_rd (by decide) (by rw [M.lm]; decide), _, _, rfl, rfl, ?_⟩
    refine ⟨_, rfl, _, rfl, _, _, rfl, rfl, _, rfl, ifB (fun h2 => ?_) (fun h2 => ?_)⟩
    · rw [if_pos (of_decide_eq_true h2)] at q
      have mw : m ≠ w_ := ne_of M.hm M.hw (by intro q; cases q)
      refine ⟨_, rfl, m, CM, dm, _, _, rfl, M.hm, T.cM, T.n_words, mF_w, w_, _, _, _, rfl, rfl, SqL.of M.hw, atI_rd (by decide) (by rw [M.lm]; decide), _, _, rfl, rfl, ?_⟩
      refine ⟨_, rfl, m, CM, dm, _, _, rfl, M.hm, T.cM, T.n_words, mF_w, w_, _, _, _, rfl, rfl, M.hw, ixN_in (by decide) (by rw [List.length_map, M.lm]; decide), ?_⟩
      rw [set_map]
      refine ⟨_, rfl, _, rfl, m, CM, dm, _, _, rfl, (by rw [upd_ne mw]; exact M.hm), T.cM, T.n_words, mF_w, w_, _, _, _, rfl, rfl, upd_same, ixN_in (by decide) (by rw [List.length_map, stM_len, M.lm]; decide), ?_⟩
      rw [set_map, upd_upd]
      exact q
    · rw [if_neg (of_decide_eq_false h2)] at q
      refine ⟨_, rfl, _, rfl, m, CM, dm, _, _, rfl, M.hm, T.cM, T.n_words, mF_w, w_, _, _, _, rfl, rfl, M.hw, ixN_in (by decide) (by rw [List.length_map, M.lm]; decide), ?_⟩
      rw [set_map]
      exact q
end
end Bh

/-! What words, images and lines are; a memory is made. -/
namespace Bh
open PySem PySem.Spec PyProof.Rows L2
theorem flat_rep (n : Nat) (v : Int) : (List.replicate n [V.int v]).flatten = (List.replicate n v).map V.int := by
  induction n with
  | zero => rfl
  | succ n ih => rw [List.replicate_succ, List.flatten_cons, ih, List.replicate_succ, List.map_cons]; rfl
section
variable {P : Program} {w : World} {K : PySem.W.Frag} {mg : Str → Option Value} {base : Heap} {CB CM : Addr}
abbrev sFwhole : Stmt := topS 52
def scFwholeN : List Str := ["thing"]
theorem scFwhole : FnScope scFwholeN ["thing"] (defScope sFwhole) := ⟨rfl, rfl, rfl, by decide +kernel, rfl, by decide +kernel, by decide +kernel⟩
theorem ok_Fwhole {f : Addr} {fd : FuncData} (F : Fun K "is_whole" "is_whole" sFwhole f fd) (T : Tx K mg CB CM) : FnOk P w K mg base CX0 1 f fd ["thing"] (spWhole) := by
  refine F.ok scFwhole (fun vs H Q E h => by obtain ⟨_, rfl, _⟩ := h; rfl) (fun cdv A outer s H vs Q E hr h => ?_)
  have hu := hu_of hr
  have z_bool := T.z_bool
  have z_int := T.z_int
  have z_isinstance := T.z_isinstance
  obtain ⟨i, rfl, q⟩ := h
  refine ⟨_, (pss_one (ps_ret (pe_and (pe_callB call_isi (by rfl) z_isinstance (by decide +kernel) (pa_cons (pv 0) (pa_cons (pe_bltn (v := .ty "int") (u := .type "int") (by rfl) z_int (by decide +kernel) rfl) pa_nil))) (pe_one (pe_not (pe_callB call_isi (by rfl) z_isinstance (by decide +kernel) (pa_cons (pv 0) (pa_cons (pe_bltn (v := .ty "bool") (u := .type "bool") (by rfl) z_bool (by decide +kernel) rfl) pa_nil)))))))), ?_⟩
  refine ⟨_, rfl, .int i, .ty "int", _, _, true, rfl, .ty "int", .base (.int i), kit_ty (by decide +kernel), _, rfl, ifB (fun _ => ?_) (fun h => by cases h)⟩
  exact ⟨_, rfl, .int i, .ty "bool", _, _, false, rfl, .ty "bool", .base (.int i), kit_ty (by decide +kernel), _, rfl, q⟩
abbrev sFbetw : Stmt := topS 53
def scFbetwN : List Str := ["thing", "least", "greatest"]
theorem scFbetw : FnScope scFbetwN ["thing", "least", "greatest"] (defScope sFbetw) := ⟨rfl, rfl, rfl, by decide +kernel, rfl, by decide +kernel, by decide +kernel⟩
theorem ok_Fbetw {f : Addr} {fd : FuncData} {fF_whole : Addr} {dF_whole : FuncData} (F : Fun K "is_between" "is_between" sFbetw f fd) (T : Tx K mg CB CM)
    (F_whole : CalF P w K mg base 1 "is_whole" ["thing"] (spWhole) fF_whole dF_whole) : FnOk P w K mg base CX0 2 f fd ["thing", "least", "greatest"] (spBetw) := by
  refine F.ok scFbetw (fun vs H Q E h => by obtain ⟨_, _, _, rfl, _⟩ := h; rfl) (fun cdv A outer s H vs Q E hr h => ?_)
  have hu := hu_of hr
  obtain ⟨i, a, b, rfl, q⟩ := h
  refine ⟨_, (pss_one (ps_ret (pe_and (pe_call F_whole.G (hr.mono (by decide)) (by rfl) F_whole.g F_whole.kp F_whole.b .nil pass0 (pa_cons (pv 0) pa_nil)) (pe_one (pe_chain op_le op_le (pv 1) (pv 0) (pv 2)))))), ?_⟩
  refine ⟨_, rfl, i, rfl, _, rfl, ifB (fun _ => ?_) (fun h => by cases h)⟩
  refine ⟨_, rfl, _, rfl, _, _, rfl, rfl, _, rfl, ifB (fun h => ?_) (fun h => ?_)⟩
  · have h' := of_decide_eq_true h
    have e : decide (a ≤ i ∧ i ≤ b) = decide (i ≤ b) := by simp [h']
    rw [e] at q
    exact ⟨_, rfl, _, _, rfl, rfl, q⟩
  · have h' := of_decide_eq_false h
    have e : decide (a ≤ i ∧ i ≤ b) = false := by simp [h']
    rw [e] at q
    exact q
abbrev sFword : Stmt := topS 54
def scFwordN : List Str := ["thing"]
theorem scFword : FnScope scFwordN ["thing"] (defScope sFword) := ⟨rfl, rfl, rfl, by decide +kernel, rfl, by decide +kernel, by decide +kernel⟩
theorem ok_Fword {f : Addr} {fd : FuncData} {fF_betw : Addr} {dF_betw : FuncData} (F : Fun K "is_word" "is_word" sFword f fd) (T : Tx K mg CB CM)
    (F_betw : CalF P w K mg base 2 "is_between" ["thing", "least", "greatest"] (spBetw) fF_betw dF_betw) : FnOk P w K mg base CX0 3 f fd ["thing"] (spWord) := by
  refine F.ok scFword (fun vs H Q E h => by obtain ⟨_, rfl, _⟩ := h; rfl) (fun cdv A outer s H vs Q E hr h => ?_)
  have hu := hu_of hr
  obtain ⟨t_WORD_MOST, g_WORD_MOST⟩ := T.g_WORD_MOST
  obtain ⟨i, rfl, q⟩ := h
  refine ⟨_, (pss_one (ps_ret (pe_call F_betw.G (hr.mono (by decide)) (by rfl) F_betw.g F_betw.kp F_betw.b .nil pass0 (pa_cons (pv 0) (pa_cons pe_int (pa_cons (pgI g_WORD_MOST) pa_nil)))))), ?_⟩
  exact ⟨_, rfl, i, 0, 65535, rfl, q⟩
abbrev sFimage : Stmt := topS 55
def scFimageN : List Str := ["thing", "word"]
theorem scFimage : FnScope scFimageN ["thing"] (defScope sFimage) := ⟨rfl, rfl, rfl, by decide +kernel, rfl, by decide +kernel, by decide +kernel⟩
theorem ok_Fimage {f : Addr} {fd : FuncData} {fF_word : Addr} {dF_word : FuncData} (F : Fun K "is_image" "is_image" sFimage f fd) (T : Tx K mg CB CM)
    (F_word : CalF P w K mg base 3 "is_word" ["thing"] (spWord) fF_word dF_word) : FnOk P w K mg base CX0 4 f fd ["thing"] (spImg) := by
  refine F.ok scFimage (fun vs H Q E h => by obtain ⟨_, _, rfl, _⟩ := h; rfl) (fun cdv A outer s H vs Q E hr h => ?_)
  have hu := hu_of hr
  obtain ⟨t_FLASH_END, g_FLASH_END⟩ := T.g_FLASH_END
  have z_all := T.z_all
  have z_isinstance := T.z_isinstance
  have z_len := T.z_len
  have z_list := T.z_list
  obtain ⟨im, ns, rfl, hm, hl, hw, q⟩ := h
  refine ⟨_, (pss_one (ps_ret (pe_and (pe_callB call_isi (by rfl) z_isinstance (by decide +kernel) (pa_cons (pv 0) (pa_cons (pe_bltn (v := .ty "list") (u := .type "list") (by rfl) z_list (by decide +kernel) rfl) pa_nil))) (pe_and (pe_cmpR op_le (pe_callB call_len_seq (by rfl) z_len PySem.boot_len (pa_cons (pv 0) pa_nil)) (pgI g_FLASH_END) (nomark _)) (pe_one (pe_callB (cr_all rfl) (by rfl) z_all (by decide +kernel) (pa_cons (pe_lc (own := [("word", 1)]) (g := gName 1) (tt := tYes) (by rfl) scFimage.nd (pi_list (pv 0)) (blkOk_by (own := [("word", 1)]) (N := scFimageN) (sc := defScope sFimage) (by decide +kernel)) (fun _ _ _ _ _ => (pg_name (i := 1) scFimage.nd rfl (.inl rfl))) (fun _ _ _ _ _ => pts_nil) (fun _ _ _ _ _ => (pe_call F_word.G (hr.mono (by decide)) (by rfl) F_word.g F_word.kp F_word.b .nil pass0 (pa_cons (pv 1) pa_nil)))) pa_nil))))))), ?_⟩
  refine ⟨_, rfl, .ref im, .ty "list", _, _, true, rfl, .ty "list", .base (.lst hm), kit_ty (by decide +kernel), _, rfl, ifB (fun _ => ?_) (fun h => by cases h)⟩
  refine ⟨_, rfl, im, _, rfl, .inl (SqL.of hm), _, _, rfl, rfl, _, rfl, ifB (fun _ => ?_) (fun h => absurd (show ((ns.map V.int).length : Int) ≤ 512 by rw [List.length_map]; omega) (of_decide_eq_false h))⟩
  refine ⟨_, rfl, im, rfl, ⟨_, SqL.of hm⟩, fun D nD => ?_⟩
  refine lc_list (K := K) (a := im) (xs := ns.map V.int) (fun i H' => Same H H' ∧ H' D = some (.lst ((List.replicate i true).map V.bl))) ⟨same_upd' nD, upd_same⟩ (fun i H' _ h => SqL.of (h.1 _ _ hm)) ?_ ?_
  · rintro j v H' hv ⟨sm, hD⟩
    obtain ⟨n, hn, rfl⟩ : ∃ n, ns[j]? = some n ∧ V.int n = v := by
      rw [List.getElem?_map] at hv
      cases e : ns[j]? with
      | none => rw [e] at hv; cases hv
      | some n => rw [e] at hv; exact ⟨n, rfl, Option.some.inj hv⟩
    have hj := (List.getElem?_eq_some_iff.mp hn).1
    refine ⟨rfl, ?_⟩
    refine ⟨_, rfl, n, rfl, ?_⟩
    rw [decide_eq_true (hw n (List.mem_of_getElem? hn))]
    refine ⟨_, hD, ?_, same_of sm nD, ?_⟩
    · rw [List.length_map, List.length_replicate]
      exact small1000 (by omega)
    · rw [upd_same, List.replicate_succ', List.map_append]
      rfl
  · rintro H4 ⟨sm, hD⟩
    refine ⟨D, _, rfl, SqL.of hD, ?_⟩
    have e : (List.replicate (ns.map V.int).length true).all id = true := by simp
    rw [e]
    exact q _ sm
abbrev sFlrow : Stmt := topS 57
def scFlrowN : List Str := ["row", "last"]
theorem scFlrow : FnScope scFlrowN ["row", "last"] (defScope sFlrow) := ⟨rfl, rfl, rfl, by decide +kernel, rfl, by decide +kernel, by decide +kernel⟩
theorem ok_Flrow {f : Addr} {fd : FuncData} {fF_betw : Addr} {dF_betw : FuncData} {fF_whole : Addr} {dF_whole : FuncData} (F : Fun K "is_line_row" "is_line_row" sFlrow f fd) (T : Tx K mg CB CM)
    (F_betw : CalF P w K mg base 2 "is_between" ["thing", "least", "greatest"] (spBetw) fF_betw dF_betw)
    (F_whole : CalF P w K mg base 1 "is_whole" ["thing"] (spWhole) fF_whole dF_whole) : FnOk P w K mg base CX0 3 f fd ["row", "last"] (spLRow) := by
  refine F.ok scFlrow (fun vs H Q E h => by obtain ⟨_, _, _, rfl, _⟩ := h; rfl) (fun cdv A outer s H vs Q E hr h => ?_)
  have hu := hu_of hr
  obtain ⟨t_LINE_MOST, g_LINE_MOST⟩ := T.g_LINE_MOST
  have z_isinstance := T.z_isinstance
  have z_len := T.z_len
  have z_tuple := T.z_tuple
  obtain ⟨t, r, n, rfl, ht, h1, h2, h3, q⟩ := h
  refine ⟨_, (pss_cons (ps_if (PW.pt (pw_or (pt_not (pt_val (pe_callB call_isi (by rfl) z_isinstance (by decide +kernel) (pa_cons (pv 0) (pa_cons (pe_bltn (v := .ty "tuple") (u := .type "tuple") (by rfl) z_tuple (by decide +kernel) rfl) pa_nil))))) (pw_or1 (pt_cmpR op_ne (pe_callB call_len_seq (by rfl) z_len PySem.boot_len (pa_cons (pv 0) pa_nil)) pe_int (nomark _))))) (pss_one (ps_ret pe_bl)) pss_nil)
    (pss_one (ps_ret (pe_and (pe_call F_whole.G (hr.mono (by decide)) (by rfl) F_whole.g F_whole.kp F_whole.b .nil pass0 (pa_cons (pe_ix ix_tup (pv 0) pe_int (fun _ _ => rfl)) pa_nil)) (pe_and (pe_cmpR op_gt (pe_ix ix_tup (pv 0) pe_int (fun _ _ => rfl)) (pv 1) (nomark _)) (pe_one (pe_call F_betw.G (hr.mono (by decide)) (by rfl) F_betw.g F_betw.kp F_betw.b .nil pass0 (pa_cons (pe_ix ix_tup (pv 0) pe_int (fun _ _ => rfl)) (pa_cons pe_int (pa_cons (pgI g_LINE_MOST) pa_nil)))))))))), ?_⟩
  refine ⟨_, rfl, .ref t, .ty "tuple", _, _, true, rfl, .ty "tuple", .base (.tup ht), kit_ty (by decide +kernel), _, rfl, ifN (fun h => by cases h) (fun _ => ?_)⟩
  refine ⟨_, rfl, t, _, rfl, .inr (SqT.of ht), rfl, _, rfl, ifN (fun h => absurd rfl (of_decide_eq_false h)) (fun _ => ?_)⟩
  refine ⟨_, rfl, t, _, 0, _, rfl, rfl, SqT.of ht, atI_nat (j := 0) rfl, _, rfl, _, rfl, ifB (fun _ => ?_) (fun h => by cases h)⟩
  refine ⟨_, rfl, t, _, 0, _, rfl, rfl, SqT.of ht, atI_nat (j := 0) rfl, _, rfl, _, _, rfl, rfl, _, rfl, ifB (fun _ => ?_) (fun h => absurd h1 (of_decide_eq_false h))⟩
  refine ⟨_, rfl, t, _, 1, _, rfl, rfl, SqT.of ht, atI_nat (j := 1) rfl, r.2, 0, 3, rfl, ?_⟩
  rw [decide_eq_true (⟨h2, h3⟩ : 0 ≤ r.2 ∧ r.2 ≤ 3)]
  exact q
theorem rise_get : ∀ {ls : List (Int × Int)} {n : Int} {i : Nat} {r : Int × Int}, riseM n ls → ls[i]? = some r → (if i = 0 then n else (ls.getD (i - 1) (0, 0)).1) < r.1 ∧ 0 ≤ r.2 ∧ r.2 ≤ 3
  | [], _, _, _, _, h => by cases h
  | u :: us, n, 0, r, ⟨a, b, c, _⟩, h => by
    cases h
    exact ⟨a, b, c⟩
  | u :: us, n, 1, r, ⟨_, _, _, d⟩, h => by
    have := rise_get (i := 0) d h
    exact this
  | u :: us, n, i + 2, r, ⟨_, _, _, d⟩, h => by
    have := rise_get (i := i + 1) d h
    exact this
abbrev sFline : Stmt := topS 56
def scFlineN : List Str := ["thing", "last", "row"]
theorem scFline : FnScope scFlineN ["thing"] (defScope sFline) := ⟨rfl, rfl, rfl, by decide +kernel, rfl, by decide +kernel, by decide +kernel⟩
theorem ok_Fline {f : Addr} {fd : FuncData} {fF_lrow : Addr} {dF_lrow : FuncData} (F : Fun K "is_line" "is_line" sFline f fd) (T : Tx K mg CB CM)
    (F_lrow : CalF P w K mg base 3 "is_line_row" ["row", "last"] (spLRow) fF_lrow dF_lrow) : FnOk P w K mg base CX0 4 f fd ["thing"] (spLine) := by
  refine F.ok scFline (fun vs H Q E h => by obtain ⟨_, _, _, rfl, _⟩ := h; rfl) (fun cdv A outer s H vs Q E hr h => ?_)
  have hu := hu_of hr
  have z_isinstance := T.z_isinstance
  have z_list := T.z_list
  obtain ⟨l, us, ls, rfl, hl, ht, hr2, q⟩ := h
  refine ⟨_, (pss_cons (ps_if (pt_not (pt_val (pe_callB call_isi (by rfl) z_isinstance (by decide +kernel) (pa_cons (pv 0) (pa_cons (pe_bltn (v := .ty "list") (u := .type "list") (by rfl) z_list (by decide +kernel) rfl) pa_nil))))) (pss_one (ps_ret pe_bl)) pss_nil)
    (pss_cons (ps_set (i := 1) scFline.nd rfl (.inl rfl) pe_int)
    (pss_cons (ps_for PassesOwn.never rfl (pi_list (pv 0)) (pg_name (i := 2) scFline.nd rfl (.inl rfl))
      (pss_cons (ps_if (pt_not (pt_val (pe_call F_lrow.G (hr.mono (by decide)) (by rfl) F_lrow.g F_lrow.kp F_lrow.b .nil pass0 (pa_cons (pv 2) (pa_cons (pv 1) pa_nil))))) (pss_one (ps_ret pe_bl)) pss_nil)
    (pss_one (ps_set (i := 1) scFline.nd rfl (.inl rfl) (pe_ix ix_tup (pv 2) pe_int (fun _ _ => rfl))))))
    (pss_one (ps_ret pe_bl))))), ?_⟩
  refine ⟨_, rfl, .ref l, .ty "list", _, _, true, rfl, .ty "list", .base (.lst hl), kit_ty (by decide +kernel), _, rfl, ifN (fun h => by cases h) (fun _ => ?_)⟩
  refine ⟨_, rfl, l, rfl, ⟨_, SqL.of hl⟩, ?_⟩
  refine for_list (K := K) (a := l) (xs := us) (fun i σ H' => H' = H ∧ ∃ y, σ = [some (.ref l), some (.int (if i = 0 then 0 else (ls.getD (i - 1) (0, 0)).1)), y]) ⟨rfl, none, rfl⟩ (fun i σ H' _ h => by obtain ⟨rfl, _⟩ := h; exact SqL.of hl) ?_ ?_
  · rintro i v σ H' hv ⟨rfl, y, rfl⟩
    have hi : i < ls.length := by
      rw [← TupsAt.len ht]
      exact (List.getElem?_eq_some_iff.mp hv).1
    obtain ⟨t, e1, e2⟩ := TupsAt.get ht hi
    have hv2 : v = .ref t := Option.some.inj (hv.symm.trans e1)
    subst hv2
    have hg : ls[i]? = some (ls.getD i (0, 0)) := by rw [List.getD_eq_getElem?_getD, List.getElem?_eq_getElem hi]; rfl
    obtain ⟨r1, r2, r3⟩ := rise_get hr2 hg
    refine ⟨_, rfl, _, rfl, t, _, _, rfl, e2, r1, r2, r3, _, rfl, ifN (fun h => by cases h) (fun _ => ?_)⟩
    refine ⟨_, rfl, t, _, 0, _, rfl, rfl, SqT.of e2, atI_nat (j := 0) rfl, rfl, some (.ref t), rfl⟩
  · rintro σ H' ⟨rfl, y, rfl⟩
    exact q
abbrev sCmem : Stmt := inClass (topS 47) 0
def scCmemN : List Str := ["self", "image", "erased", "nought"]
theorem scCmem : FnScope scCmemN ["self", "image"] (defScope sCmem) := ⟨rfl, rfl, rfl, by decide +kernel, rfl, by decide +kernel, by decide +kernel⟩
theorem ok_Cmem {f : Addr} {fd : FuncData} (F : Fun K "__init__" "Memory.__init__" sCmem f fd) (T : Tx K mg CB CM) : FnOk P w K mg base CX0 1 f fd ["self", "image"] (spMI CM) := by
  refine F.ok scCmem (fun vs H Q E h => by obtain ⟨_, _, _, _, rfl, _⟩ := h; rfl) (fun cdv A outer s H vs Q E hr h => ?_)
  have hu := hu_of hr
  obtain ⟨t_ERASED, g_ERASED⟩ := T.g_ERASED
  obtain ⟨t_FLASH_END, g_FLASH_END⟩ := T.g_FLASH_END
  obtain ⟨t_PLACES_END, g_PLACES_END⟩ := T.g_PLACES_END
  have z_len := T.z_len
  have z_list := T.z_list
  obtain ⟨m, dm, im, ns, rfl, hm, him, hl, q⟩ := h
  refine ⟨_, (pss_cons (ps_set (i := 2) scCmem.nd rfl (.inl rfl) (pe_op op_rep (pe_lst (pa_cons (pgI g_ERASED) pa_nil)) (pe_op op_sub (pgI g_FLASH_END) (pe_callB call_len_seq (by rfl) z_len PySem.boot_len (pa_cons (pv 1) pa_nil)))))
    (pss_cons (ps_set (i := 3) scCmem.nd rfl (.inl rfl) (pe_op op_rep (pe_lst (pa_cons pe_int pa_nil)) (pe_op op_sub (pgI g_PLACES_END) (pgI g_FLASH_END))))
    (pss_cons (ps_fld (pv 0) (pe_op op_cat (pe_op op_cat (pe_callTy call_list_of (by rfl) z_list (by decide +kernel) (pa_cons (pv 1) pa_nil)) (pv 2)) (pv 3)) rfl)
    (pss_one (ps_fld (pv 0) pe_dnewK rfl))))), ?_⟩
  have mim : m ≠ im := ne_of hm him (by intro q; cases q)
  refine ⟨(by show 1 ≤ sizeLine; decide), fun l1 n1 => ?_⟩
  have s1 : Same H (upd H l1 (.lst [.int 65535])) := same_upd' n1
  refine ⟨_, rfl, im, _, rfl, .inl (SqL.of (s1 _ _ him)), _, _, rfl, rfl, l1, _, _, rfl, rfl, upd_same, ?_, ?_, ?_, fun l2 n2 => ?_⟩
  · rw [List.length_map]; omega
  · rw [List.length_map]; omega
  · rw [List.length_map, List.length_singleton]; exact hsz (by omega)
  have e2 : (List.replicate (512 - ((ns.map V.int).length : Int)).toNat [V.int 65535]).flatten = (List.replicate (512 - ns.length) (65535 : Int)).map V.int := by
    rw [List.length_map, show (512 - (ns.length : Int)).toNat = 512 - ns.length by omega]
    exact flat_rep _ _
  rw [e2]
  have s2 := s1.trans (same_upd' (o := .lst ((List.replicate (512 - ns.length) (65535 : Int)).map V.int)) n2)
  have h2 : upd (upd H l1 (.lst [.int 65535])) l2 (.lst ((List.replicate (512 - ns.length) (65535 : Int)).map V.int)) l2 = _ := upd_same
  generalize upd (upd H l1 (.lst [.int 65535])) l2 (.lst ((List.replicate (512 - ns.length) (65535 : Int)).map V.int)) = H2 at *
  refine ⟨(by show 1 ≤ sizeLine; decide), fun l3 n3 => ?_⟩
  have s3 := s2.trans (same_upd' (o := .lst [.int 0]) n3)
  have h23 := same_upd' (o := .lst [.int 0]) n3 _ _ h2
  refine ⟨_, _, rfl, rfl, l3, _, _, rfl, rfl, upd_same, by omega, by omega, (by show 1 * 262 ≤ sizeLine; decide), fun l4 n4 => ?_⟩
  have e4 : (List.replicate ((774 : Int) - 512).toNat [V.int 0]).flatten = (List.replicate 262 (0 : Int)).map V.int := flat_rep 262 0
  rw [e4]
  have s4 := s3.trans (same_upd' (o := .lst ((List.replicate 262 (0 : Int)).map V.int)) n4)
  have h24 := same_upd' (o := .lst ((List.replicate 262 (0 : Int)).map V.int)) n4 _ _ h23
  have h4 : upd (upd H2 l3 (.lst [.int 0])) l4 (.lst ((List.replicate 262 (0 : Int)).map V.int)) l4 = _ := upd_same
  generalize upd (upd H2 l3 (.lst [.int 0])) l4 (.lst ((List.replicate 262 (0 : Int)).map V.int)) = H4 at *
  refine ⟨_, rfl, im, _, rfl, .inl (SqL.of (s4 _ _ him)), fun l5 n5 => ?_⟩
  have s5 := s4.trans (same_upd' (o := .lst (ns.map V.int)) n5)
  have h25 := same_upd' (o := .lst (ns.map V.int)) n5 _ _ h24
  have h45 := same_upd' (o := .lst (ns.map V.int)) n5 _ _ h4
  refine ⟨_, rfl, l5, l2, _, _, rfl, rfl, upd_same, h25, ?_, fun l6 n6 => ?_⟩
  · rw [List.length_map, List.length_map, List.length_replicate]; exact hsz (by omega)
  have s6 := s5.trans (same_upd' (o := .lst (ns.map V.int ++ (List.replicate (512 - ns.length) (65535 : Int)).map V.int)) n6)
  have h46 := same_upd' (o := .lst (ns.map V.int ++ (List.replicate (512 - ns.length) (65535 : Int)).map V.int)) n6 _ _ h45
  refine ⟨_, rfl, l6, l4, _, _, rfl, rfl, upd_same, h46, ?_, fun l7 n7 => ?_⟩
  · rw [List.length_append, List.length_map, List.length_map, List.length_map, List.length_replicate, List.length_replicate]; exact hsz (by omega)
  have em : ns.map V.int ++ (List.replicate (512 - ns.length) (65535 : Int)).map V.int ++ (List.replicate 262 (0 : Int)).map V.int = (memOf ns).map V.int := by
    unfold memOf
    rw [List.map_append, List.map_append]
  rw [em]
  have s7 := s6.trans (same_upd' (o := .lst ((memOf ns).map V.int)) n7)
  have f7 : H l7 = none := s6.free n7
  generalize upd (upd H4 l5 (.lst (ns.map V.int))) l6 (.lst (ns.map V.int ++ (List.replicate (512 - ns.length) (65535 : Int)).map V.int)) = H6 at *
  have h7 : upd H6 l7 (.lst ((memOf ns).map V.int)) l7 = _ := upd_same
  generalize upd H6 l7 (.lst ((memOf ns).map V.int)) = H7 at *
  have ml : m ≠ l7 := ne_of_none hm f7
  refine ⟨_, rfl, m, CM, dm, [], rfl, s7 _ _ hm, T.cM, T.n_words, (by show 0 < 1000; decide), ?_⟩
  intro s_ ns_
  have ms : m ≠ s_ := fun e => by rw [← e, upd_same] at ns_; cases ns_
  rw [upd_ne ms.symm] at ns_
  refine ⟨_, rfl, m, CM, dm, _, rfl, (by rw [upd_ne ms]; exact upd_same), T.cM, T.n_swapped, (by show 1 < 1000; decide), ?_⟩
  refine q _ l7 s_ ?_ ?_ f7 (s7.free ns_)
  · refine ⟨?_, ?_, ?_, ?_⟩
    · rw [upd_same]
      exact congrArg (fun z => some (HO.ins CM dm z)) (by kernel_rfl)
    · rw [upd_ne ml.symm, upd_ne (ne_of_none h7 ns_), upd_ne ml.symm]
      exact h7
    · rw [upd_ne ms.symm, upd_same]
    · unfold memOf
      rw [List.length_append, List.length_append, List.length_replicate, List.length_replicate]
      omega
  · intro b o hb e
    rw [upd_ne hb, upd_ne (ne_of_none (s7 _ _ e) ns_), upd_ne hb]
    exact s7 _ _ e
end
end Bh

/-! What deeds touch, and what they do. -/
namespace Bh
open PySem PySem.Spec PyProof.Rows L2
def touN (nm : Str) (n b sp : Int) : List (Bool × Int) :=
  if nm ∈ rdN then [(false, n)] else if nm = "put" then [(true, n)] else if nm = "getb" then [(false, n + b)] else if nm = "putb" then [(true, n + b)]
  else if nm ∈ [("call" : Str), "push"] then [(true, sp)] else if nm ∈ [("ret" : Str), "pop"] then [(false, sp + 1)] else if nm = "back" then [(false, sp + 1), (false, sp + 2)] else []
def nmOf (op : Nat) : Str := opN.getD op Str.empty
theorem touN_op (op : Nat) (h : op < 23) (n b sp : Int) : touN (nmOf op) n b sp = touM op n b sp := by
  match op, h with
  | 0, _ => kernel_rfl
  | 1, _ => kernel_rfl
  | 2, _ => kernel_rfl
  | 3, _ => kernel_rfl
  | 4, _ => kernel_rfl
  | 5, _ => kernel_rfl
  | 6, _ => kernel_rfl
  | 7, _ => kernel_rfl
  | 8, _ => kernel_rfl
  | 9, _ => kernel_rfl
  | 10, _ => kernel_rfl
  | 11, _ => kernel_rfl
  | 12, _ => kernel_rfl
  | 13, _ => kernel_rfl
  | 14, _ => kernel_rfl
  | 15, _ => kernel_rfl
  | 16, _ => kernel_rfl
  | 17, _ => kernel_rfl
  | 18, _ => kernel_rfl
  | 19, _ => kernel_rfl
  | 20, _ => kernel_rfl
  | 21, _ => kernel_rfl
  | 22, _ => kernel_rfl
  | n + 23, h => omega
def TouAt (H : Hp) : List V → List (Bool × Int) → Prop := Paired fun v t => ∃ q, v = .ref q ∧ H q = some (.tup [.str (kS t.1), .int t.2])
theorem TouAt.mono {H H' : Hp} (k : ∀ t xs, H t = some (.tup xs) → H' t = some (.tup xs)) : ∀ {us : List V} {ls : List (Bool × Int)}, TouAt H us ls → TouAt H' us ls
  | _, _, .nil => .nil
  | _, _, .cons h r => .cons (let ⟨t, e, q⟩ := h; ⟨t, e, k _ _ q⟩) (TouAt.mono k r)
theorem TouAt.len {H : Hp} : ∀ {us : List V} {ls : List (Bool × Int)}, TouAt H us ls → us.length = ls.length
  | _, _, .nil => rfl
  | _, _, .cons _ r => by rw [List.length_cons, List.length_cons, TouAt.len r]
theorem TouAt.get {H : Hp} : ∀ {us : List V} {ls : List (Bool × Int)} {i : Nat} {v : V}, TouAt H us ls → us[i]? = some v → ∃ q t, v = .ref q ∧ ls[i]? = some t ∧ H q = some (.tup [.str (kS t.1), .int t.2])
  | _, _, _, _, .nil, h => by cases h
  | _, _, 0, _, .cons h r, e => by
    obtain ⟨t, rfl, q⟩ := h
    cases e
    exact ⟨t, _, rfl, rfl, q⟩
  | _, _, i + 1, _, .cons h r, e => TouAt.get (i := i) r e
theorem in_strs (z : Str) : ∀ ys : List Str, inV (.str z) (ys.map V.str) = decide (z ∈ ys)
  | [] => rfl
  | y :: ys => by
    have ih := in_strs z ys
    unfold inV at ih ⊢
    rw [List.map_cons, List.any_cons, ih]
    show ((y == z) || decide (z ∈ ys)) = decide (z ∈ y :: ys)
    by_cases e : y = z
    · subst e
      simp
    · have e2 : ¬ z = y := fun q => e q.symm
      have : (y == z) = false := by simpa using e
      rw [this]
      simp [e2]
theorem flat_strs' (ys : List Str) : (ys.map V.str).all flatV = true := by
  rw [List.all_eq_true]
  intro v hv
  obtain ⟨y, _, rfl⟩ := List.mem_map.mp hv
  rfl
def spTou : Sp := fun vs H Q _ => ∃ (nm : Str) (n : Int) (r : Addr) (a b pc sp : Int), vs = [.str nm, .int n, .ref r] ∧ H r = some (.dK (regD a b pc sp)) ∧
  ∀ (H' : Hp) (l : Addr) (us : List V), Same H H' → H l = none → H' l = some (.lst us) → TouAt H' us (touN nm n b sp) → Q (.ref l) H'
/-- how many words it reads -/
def nR (op : Nat) : Nat :=
  match op with
  | 2 => 1
  | 4 => 1
  | 5 => 1
  | 6 => 1
  | 7 => 1
  | 8 => 1
  | 16 => 1
  | 18 => 1
  | 21 => 2
  | _ => 0
def spDo (CB CM : Addr) (op : Nat) : Sp := fun vs H Q _ => ∃ (H0 : Hp) (p lw : Addr) (x : Bd) (n : Int) (ws : List Int), vs = [.ref p, .int n, .ref lw] ∧ BoardAt CB CM H0 H p x ∧ H lw = some (.lst (ws.map V.int)) ∧ ws.length = nR op ∧
  (∀ t ∈ touM op n x.b x.sp, 0 ≤ t.2 ∧ t.2 < 774) ∧ x.sent.length < 1000000 ∧ ∀ H', BoardAt CB CM H0 H' p (doM op n ws x) → Q .non H'
def spGive (CB CM : Addr) : Sp := fun vs H Q _ => ∃ (H0 : Hp) (p : Addr) (x : Bd) (v : Int), vs = [.ref p, .int v] ∧ BoardAt CB CM H0 H p x ∧ ∀ H', BoardAt CB CM H0 H' p (giveM v x) → Q .non H'
def spPw (CB CM : Addr) : Sp := fun vs H Q _ => ∃ (H0 : Hp) (p : Addr) (x : Bd) (a v : Int), vs = [.ref p, .int a, .int v] ∧ BoardAt CB CM H0 H p x ∧ x.sent.length < 1000000 ∧ 0 ≤ a ∧ a < 774 ∧ ∀ H', BoardAt CB CM H0 H' p (putWM a v x) → Q .non H'
theorem len1 {α : Type} {l : List α} (h : l.length = 1) : ∃ v, l = [v] := by
  match l, h with
  | [v], _ => exact ⟨v, rfl⟩
theorem len2 {α : Type} {l : List α} (h : l.length = 2) : ∃ v w, l = [v, w] := by
  match l, h with
  | [v, w], _ => exact ⟨v, w, rfl⟩
section
variable {P : Program} {w : World} {K : PySem.W.Frag} {mg : Str → Option Value} {base : Heap} {CB CM : Addr}
abbrev sFtou : Stmt := topS 5
def scFtouN : List Str := ["name", "x", "registers"]
theorem scFtou : FnScope scFtouN ["name", "x", "registers"] (defScope sFtou) := ⟨rfl, rfl, rfl, by decide +kernel, rfl, by decide +kernel, by decide +kernel⟩
theorem ok_Ftou {f : Addr} {fd : FuncData} (F : Fun K "touches_of" "touches_of" sFtou f fd) (T : Tx K mg CB CM) : FnOk P w K mg base CX0 1 f fd ["name", "x", "registers"] (spTou) := by
  refine F.ok scFtou (fun vs H Q E h => by obtain ⟨_, _, _, _, _, _, _, rfl, _⟩ := h; rfl) (fun cdv A outer s H vs Q E hr h => ?_)
  have hu := hu_of hr
  obtain ⟨nm, n, r, a, b, pc, sp, rfl, hR, q⟩ := h
  obtain ⟨aR, g_READS_AT_X, vR⟩ := T.g_READS_AT_X
  unfold touN at q
  refine ⟨_, (pss_cons (ps_if (pt_cmpR op_in_seq (pv 0) (pgR g_READS_AT_X) (by rfl)) (pss_one (ps_ret (pe_lst (pa_cons (pe_tup (pa_cons pe_str (pa_cons (pv 1) pa_nil))) pa_nil)))) pss_nil)
    (pss_cons (ps_if (pt_cmpR op_eq (pv 0) pe_str (nomark _)) (pss_one (ps_ret (pe_lst (pa_cons (pe_tup (pa_cons pe_str (pa_cons (pv 1) pa_nil))) pa_nil)))) pss_nil)
    (pss_cons (ps_if (pt_cmpR op_eq (pv 0) pe_str (nomark _)) (pss_one (ps_ret (pe_lst (pa_cons (pe_tup (pa_cons pe_str (pa_cons (pe_op op_add (pv 1) (pe_dget hu (pv 2) pe_str (fun _ _ => rfl))) pa_nil))) pa_nil)))) pss_nil)
    (pss_cons (ps_if (pt_cmpR op_eq (pv 0) pe_str (nomark _)) (pss_one (ps_ret (pe_lst (pa_cons (pe_tup (pa_cons pe_str (pa_cons (pe_op op_add (pv 1) (pe_dget hu (pv 2) pe_str (fun _ _ => rfl))) pa_nil))) pa_nil)))) pss_nil)
    (pss_cons (ps_if (pt_cmpR op_in_seq (pv 0) (pe_tup (pa_cons pe_str (pa_cons pe_str pa_nil))) (by rfl)) (pss_one (ps_ret (pe_lst (pa_cons (pe_tup (pa_cons pe_str (pa_cons (pe_dget hu (pv 2) pe_str (fun _ _ => rfl)) pa_nil))) pa_nil)))) pss_nil)
    (pss_cons (ps_if (pt_cmpR op_in_seq (pv 0) (pe_tup (pa_cons pe_str (pa_cons pe_str pa_nil))) (by rfl)) (pss_one (ps_ret (pe_lst (pa_cons (pe_tup (pa_cons pe_str (pa_cons (pe_op op_add (pe_dget hu (pv 2) pe_str (fun _ _ => rfl)) pe_int) pa_nil))) pa_nil)))) pss_nil)
    (pss_cons (ps_if (pt_cmpR op_eq (pv 0) pe_str (nomark _)) (pss_one (ps_ret (pe_lst (pa_cons (pe_tup (pa_cons pe_str (pa_cons (pe_op op_add (pe_dget hu (pv 2) pe_str (fun _ _ => rfl)) pe_int) pa_nil))) (pa_cons (pe_tup (pa_cons pe_str (pa_cons (pe_op op_add (pe_dget hu (pv 2) pe_str (fun _ _ => rfl)) pe_int) pa_nil))) pa_nil))))) pss_nil)
    (pss_one (ps_ret (pe_lst pa_nil)))))))))), ?_⟩
  refine ⟨_, rfl, aR, _, rfl, .inr (vR _), rfl, flat_strs' rdN, _, rfl, ?_⟩
  rw [if_neg Bool.false_ne_true, in_strs]
  refine ifB (fun h => ?_) (fun h => ?_)
  · rw [if_pos (of_decide_eq_true h)] at q
    exact ⟨_, rfl, (by show 2 ≤ sizeLine; decide), fun t nt => ⟨(by show 1 ≤ sizeLine; decide), fun l nl => q _ l [.ref t] ((same_upd' nt).trans (same_upd' nl)) ((same_upd' nt).free nl) upd_same (.cons ⟨t, rfl, same_upd' nl _ _ upd_same⟩ .nil)⟩⟩
  rw [if_neg (of_decide_eq_false h)] at q
  refine ⟨_, rfl, rfl, _, rfl, ifB (fun h => ?_) (fun h => ?_)⟩
  · rw [if_pos (V.str.inj (of_decide_eq_true h))] at q
    exact ⟨_, rfl, (by show 2 ≤ sizeLine; decide), fun t nt => ⟨(by show 1 ≤ sizeLine; decide), fun l nl => q _ l [.ref t] ((same_upd' nt).trans (same_upd' nl)) ((same_upd' nt).free nl) upd_same (.cons ⟨t, rfl, same_upd' nl _ _ upd_same⟩ .nil)⟩⟩
  rw [if_neg (fun z => of_decide_eq_false h (congrArg V.str z))] at q
  refine ⟨_, rfl, rfl, _, rfl, ifB (fun h => ?_) (fun h => ?_)⟩
  · rw [if_pos (V.str.inj (of_decide_eq_true h))] at q
    exact ⟨_, rfl, _, rfl, r, _, rfl, dg (k := Sum.inr "b") hR rG_b, _, _, rfl, rfl, (by show 2 ≤ sizeLine; decide), fun t nt => ⟨(by show 1 ≤ sizeLine; decide), fun l nl => q _ l [.ref t] ((same_upd' nt).trans (same_upd' nl)) ((same_upd' nt).free nl) upd_same (.cons ⟨t, rfl, same_upd' nl _ _ upd_same⟩ .nil)⟩⟩
  rw [if_neg (fun z => of_decide_eq_false h (congrArg V.str z))] at q
  refine ⟨_, rfl, rfl, _, rfl, ifB (fun h => ?_) (fun h => ?_)⟩
  · rw [if_pos (V.str.inj (of_decide_eq_true h))] at q
    exact ⟨_, rfl, _, rfl, r, _, rfl, dg (k := Sum.inr "b") hR rG_b, _, _, rfl, rfl, (by show 2 ≤ sizeLine; decide), fun t nt => ⟨(by show 1 ≤ sizeLine; decide), fun l nl => q _ l [.ref t] ((same_upd' nt).trans (same_upd' nl)) ((same_upd' nt).free nl) upd_same (.cons ⟨t, rfl, same_upd' nl _ _ upd_same⟩ .nil)⟩⟩
  rw [if_neg (fun z => of_decide_eq_false h (congrArg V.str z))] at q
  refine ⟨_, rfl, (by show 2 ≤ sizeLine; decide), fun c1 nc1 => ?_⟩
  have sc1 := same_upd' (o := .tup [V.str "call", V.str "push"]) nc1
  have hc1 : upd H c1 (.tup [V.str "call", V.str "push"]) c1 = some (.tup ([("call" : Str), "push"].map V.str)) := upd_same
  generalize upd H c1 (.tup [V.str "call", V.str "push"]) = H1 at *
  refine ⟨c1, _, rfl, .inr (SqT.of hc1), rfl, flat_strs' _, _, rfl, ?_⟩
  rw [if_neg Bool.false_ne_true, in_strs]
  refine ifB (fun h => ?_) (fun h => ?_)
  · rw [if_pos (of_decide_eq_true h)] at q
    exact ⟨_, rfl, r, _, rfl, dg (k := Sum.inr "sp") (sc1 _ _ hR) rG_sp, (by show 2 ≤ sizeLine; decide), fun t nt => ⟨(by show 1 ≤ sizeLine; decide), fun l nl => q _ l [.ref t] ((sc1.trans (same_upd' nt)).trans (same_upd' nl)) ((sc1.trans (same_upd' nt)).free nl) upd_same (.cons ⟨t, rfl, same_upd' nl _ _ upd_same⟩ .nil)⟩⟩
  rw [if_neg (of_decide_eq_false h)] at q
  refine ⟨_, rfl, (by show 2 ≤ sizeLine; decide), fun c2 nc2 => ?_⟩
  have sc2 := sc1.trans (same_upd' (o := .tup [V.str "ret", V.str "pop"]) nc2)
  have hc2 : upd H1 c2 (.tup [V.str "ret", V.str "pop"]) c2 = some (.tup ([("ret" : Str), "pop"].map V.str)) := upd_same
  generalize upd H1 c2 (.tup [V.str "ret", V.str "pop"]) = H2 at *
  refine ⟨c2, _, rfl, .inr (SqT.of hc2), rfl, flat_strs' _, _, rfl, ?_⟩
  rw [if_neg Bool.false_ne_true, in_strs]
  refine ifB (fun h => ?_) (fun h => ?_)
  · rw [if_pos (of_decide_eq_true h)] at q
    exact ⟨_, rfl, r, _, rfl, dg (k := Sum.inr "sp") (sc2 _ _ hR) rG_sp, _, _, rfl, rfl, (by show 2 ≤ sizeLine; decide), fun t nt => ⟨(by show 1 ≤ sizeLine; decide), fun l nl => q _ l [.ref t] ((sc2.trans (same_upd' nt)).trans (same_upd' nl)) ((sc2.trans (same_upd' nt)).free nl) upd_same (.cons ⟨t, rfl, same_upd' nl _ _ upd_same⟩ .nil)⟩⟩
  rw [if_neg (of_decide_eq_false h)] at q
  refine ⟨_, rfl, rfl, _, rfl, ifB (fun h => ?_) (fun h => ?_)⟩
  · rw [if_pos (V.str.inj (of_decide_eq_true h))] at q
    refine ⟨_, rfl, r, _, rfl, dg (k := Sum.inr "sp") (sc2 _ _ hR) rG_sp, _, _, rfl, rfl, (by show 2 ≤ sizeLine; decide), fun t nt => ?_⟩
    have sc3 := sc2.trans (same_upd' (o := .tup [V.str "r", V.int (sp + 1)]) nt)
    have ht : upd H2 t (.tup [V.str "r", V.int (sp + 1)]) t = some (.tup [V.str "r", V.int (sp + 1)]) := upd_same
    generalize upd H2 t (.tup [V.str "r", V.int (sp + 1)]) = H3 at *
    refine ⟨_, rfl, r, _, rfl, dg (k := Sum.inr "sp") (sc3 _ _ hR) rG_sp, _, _, rfl, rfl, (by show 2 ≤ sizeLine; decide), fun t2 nt2 => ⟨(by show 2 ≤ sizeLine; decide), fun l nl => ?_⟩⟩
    exact q _ l [.ref t, .ref t2] ((sc3.trans (same_upd' nt2)).trans (same_upd' nl)) ((sc3.trans (same_upd' nt2)).free nl) upd_same (.cons ⟨t, rfl, same_upd' nl _ _ (same_upd' nt2 _ _ ht)⟩ (.cons ⟨t2, rfl, same_upd' nl _ _ upd_same⟩ .nil))
  rw [if_neg (fun z => of_decide_eq_false h (congrArg V.str z))] at q
  exact ⟨Nat.zero_le _, fun l nl => q _ l [] (sc2.trans (same_upd' nl)) (sc2.free nl) upd_same .nil⟩
abbrev sFgive : Stmt := topS 6
def scFgiveN : List Str := ["board", "word"]
theorem scFgive : FnScope scFgiveN ["board", "word"] (defScope sFgive) := ⟨rfl, rfl, rfl, by decide +kernel, rfl, by decide +kernel, by decide +kernel⟩
theorem ok_Fgive {f : Addr} {fd : FuncData} (F : Fun K "give" "give" sFgive f fd) (T : Tx K mg CB CM) : FnOk P w K mg base CX0 1 f fd ["board", "word"] (spGive CB CM) := by
  refine F.ok scFgive (fun vs H Q E h => by obtain ⟨_, _, _, _, rfl, _⟩ := h; rfl) (fun cdv A outer s H vs Q E hr h => ?_)
  have hu := hu_of hr
  obtain ⟨H0, p, x, v, rfl, R, k⟩ := h
  obtain ⟨A, ts, ls, B⟩ := R
  obtain ⟨sv, tv, dv, hp, hz⟩ := B.hp
  refine ⟨_, (pss_cons (ps_dput hu (pe_fld (pv 0) rfl) pe_str (pv 1) rfl)
    (pss_one (ps_fld (pv 0) (pe_cmpR op_eq (pv 1) pe_int (nomark _)) rfl))), ?_⟩
  refine ⟨_, rfl, _, rfl, p, CB, A.dx, _, _, rfl, hp, T.cB, T.n_registers, bF_reg, A.r, _, rfl, dp (k := Sum.inr "a") B.hr rP_a, ?_⟩
  have B1 := B.regs (a := v) (b := x.b) (pc := x.pc) (sp := x.sp)
  obtain ⟨sv1, tv1, dv1, hp1, hz1⟩ := B1.hp
  refine ⟨_, rfl, rfl, _, rfl, p, CB, A.dx, _, rfl, hp1, T.cB, T.n_zero, (by show 13 < 1000; decide), ?_⟩
  rw [bP_zero]
  have B2 := B1.fld (z := decide (V.int v = V.int 0)) (le := x.lets) (as := x.asleep) (bt := x.beat) (sv := sv1) (la := x.la) (tv := tv1) (dv := dv1) hz1
  have e : decide (V.int v = V.int 0) = decide (v = 0) := by
    by_cases h : v = 0
    · rw [decide_eq_true h, h]; rfl
    · rw [decide_eq_false h]; exact decide_eq_false fun z => h (V.int.inj z)
  rw [e] at B2 ⊢
  exact k _ ⟨A, ts, ls, B2⟩
abbrev sMpw : Stmt := inClass (topS 64) 11
def scMpwN : List Str := ["self", "address", "word"]
theorem scMpw : FnScope scMpwN ["self", "address", "word"] (defScope sMpw) := ⟨rfl, rfl, rfl, by decide +kernel, rfl, by decide +kernel, by decide +kernel⟩
theorem ok_Mpw {f : Addr} {fd : FuncData} {fM_put : Addr} {dM_put : FuncData} (F : Fun K "put_word" "Board.put_word" sMpw f fd) (T : Tx K mg CB CM)
    (M_put : CalM P w K mg base CM 1 "put" ["self", "address", "word"] (spMPut CM) fM_put dM_put) : FnOk P w K mg base CX0 2 f fd ["self", "address", "word"] (spPw CB CM) := by
  refine F.ok scMpw (fun vs H Q E h => by obtain ⟨_, _, _, _, _, rfl, _⟩ := h; rfl) (fun cdv A outer s H vs Q E hr h => ?_)
  have hu := hu_of hr
  obtain ⟨t_LINE_OUT, g_LINE_OUT⟩ := T.g_LINE_OUT
  obtain ⟨H0, p, x, a, v, rfl, R, hsl, a0, a1, k⟩ := h
  obtain ⟨A, ts, ls, B⟩ := R
  obtain ⟨sv, tv, dv, hp, hz⟩ := B.hp
  refine ⟨_, (pss_cons (ps_if (pt_cmpR op_eq (pv 1) (pgI g_LINE_OUT) (nomark _)) (pss_one (ps_expr (pe_bm PySem.F.plainAttrs_list PySem.F.slot_list_append PySem.F.type_list_append mt_append (pe_fld (pv 0) rfl) (pa_cons (pe_tup (pa_cons (pe_fld (pv 0) rfl) (pa_cons (pv 2) pa_nil))) pa_nil)))) pss_nil)
    (pss_one (ps_expr (pe_meth (pe_fld (pv 0) rfl) M_put.c M_put.m M_put.G (hr.mono (by decide)) M_put.b .nil pass0 (pa_cons (pv 1) (pa_cons (pv 2) pa_nil)))))), ?_⟩
  have fin : ∀ H1 y ts1, Bp CB CM H0 H1 p A ts1 ls y → y = sendM a v x → ∃ sv tv dv, H1 p = some (.ins CB A.dx (bdF A.r A.t A.m A.l y.zero y.lets y.asleep y.beat sv y.la tv dv)) ∧ MemAt CM H1 A.m A.dm A.w A.s y.mem ∧ Q .non (upd H1 A.w (.lst ((putMM a v y.mem).map V.int))) := fun H1 y ts1 B1 e => by
    obtain ⟨sv, tv, dv, hp, hz⟩ := B1.hp
    refine ⟨sv, tv, dv, hp, B1.mem, k _ ⟨A, ts1, ls, ?_⟩⟩
    have B2 := B1.wds (m := putMM a v y.mem) (by rw [putMM_len]; exact B1.lm)
    have e2 : putWM a v x = { y with mem := putMM a v y.mem } := by
      unfold putWM
      rw [e]
      have : (sendM a v x).mem = x.mem := by unfold sendM; split <;> rfl
      rw [this]
    rw [e2]
    exact B2
  refine ⟨_, rfl, rfl, _, rfl, ifB (fun h => ?_) (fun h => ?_)⟩
  · have ea := V.int.inj (of_decide_eq_true h)
    refine ⟨_, rfl, p, CB, A.dx, _, _, rfl, hp, T.cB, T.n_sent, bF_sent, .inl ⟨rfl, _, SqL.of B.ht⟩, _, rfl, p, CB, A.dx, _, _, rfl, hp, T.cB, T.n_beat, bF_beat, _, rfl, (by show 2 ≤ sizeLine; decide), fun q nq => ?_⟩
    have B1 := B.more (o := .tup [V.int x.beat, V.int v]) nq
    refine ⟨A.t, ts, _, rfl, rfl, B1.ht, (by rw [TupsAt.len B.us]; exact Nat.lt_of_lt_of_le hsl (by decide)), ?_⟩
    have B2 := B1.snd (q := q) (u := (x.beat, v)) upd_same
    obtain ⟨sv2, tv2, dv2, hp2, M2, fin2⟩ := fin _ _ _ B2 (by unfold sendM; rw [if_pos ea])
    exact ⟨_, rfl, p, CB, A.dx, _, _, rfl, hp2, T.cB, T.n_memory, bF_mem, A.m, A.dm, _, rfl, M2.hm, mN_put, _, rfl, _, rfl, A.m, A.dm, A.w, A.s, _, a, v, rfl, M2, a0, a1, fin2⟩
  · have ea : ¬ a = 773 := fun z => of_decide_eq_false h (congrArg V.int z)
    obtain ⟨sv2, tv2, dv2, hp2, M2, fin2⟩ := fin _ _ _ B (by unfold sendM; rw [if_neg ea])
    exact ⟨_, rfl, p, CB, A.dx, _, _, rfl, hp2, T.cB, T.n_memory, bF_mem, A.m, A.dm, _, rfl, M2.hm, mN_put, _, rfl, _, rfl, A.m, A.dm, A.w, A.s, _, a, v, rfl, M2, a0, a1, fin2⟩
abbrev sMpbt : Stmt := inClass (topS 64) 10
def scMpbtN : List Str := ["self", "address", "word"]
theorem scMpbt : FnScope scMpbtN ["self", "address", "word"] (defScope sMpbt) := ⟨rfl, rfl, rfl, by decide +kernel, rfl, by decide +kernel, by decide +kernel⟩
theorem ok_Mpbt {f : Addr} {fd : FuncData} {fM_pw : Addr} {dM_pw : FuncData} (F : Fun K "put_by_turn" "Board.put_by_turn" sMpbt f fd) (T : Tx K mg CB CM)
    (M_pw : CalM P w K mg base CB 2 "put_word" ["self", "address", "word"] (spPw CB CM) fM_pw dM_pw) : FnOk P w K mg base CX0 3 f fd ["self", "address", "word"] (spPw CB CM) := by
  refine F.ok scMpbt (fun vs H Q E h => by obtain ⟨_, _, _, _, _, rfl, _⟩ := h; rfl) (fun cdv A outer s H vs Q E hr h => ?_)
  have hu := hu_of hr
  obtain ⟨H0, p, x, a, v, rfl, R, hsl, a0, a1, k⟩ := h
  obtain ⟨A, ts, ls, B⟩ := R
  obtain ⟨sv, tv, dv, hp, hz⟩ := B.hp
  refine ⟨_, (pss_cons (ps_if (pt_cmp (pc_din hu (pv 1) (pe_fld (pe_fld (pv 0) rfl) rfl))) (pss_one (ps_ddel (pe_fld (pe_fld (pv 0) rfl) rfl) (pv 1))) pss_nil)
    (pss_one (ps_expr (pe_meth (pv 0) M_pw.c M_pw.m M_pw.G (hr.mono (by decide)) M_pw.b .nil pass0 (pa_cons (pv 1) (pa_cons (pv 2) pa_nil)))))), ?_⟩
  refine ⟨_, rfl, _, rfl, p, CB, A.dx, _, _, rfl, hp, T.cB, T.n_memory, bF_mem, A.m, CM, A.dm, _, _, rfl, B.hm, T.cM, T.n_swapped, mF_s, A.s, _, rfl, DGet.k (k := Sum.inl a) B.hs, _, rfl, ?_⟩
  exact ⟨_, rfl, p, A.dx, _, rfl, hp, bN_pw, _, rfl, _, rfl, H0, p, x, a, v, rfl, ⟨A, ts, ls, B⟩, hsl, a0, a1, k⟩
end
end Bh

/-! What each deed does. -/
namespace Bh
open PySem PySem.Spec PyProof.Rows L2
section
variable {P : Program} {w : World} {K : PySem.W.Frag} {mg : Str → Option Value} {base : Heap} {CB CM : Addr}
abbrev sD1 : Stmt := topS 7
def scD1N : List Str := ["board", "x", "words"]
theorem scD1 : FnScope scD1N ["board", "x", "words"] (defScope sD1) := ⟨rfl, rfl, rfl, by decide +kernel, rfl, by decide +kernel, by decide +kernel⟩
theorem ok_D1 {f : Addr} {fd : FuncData} {fF_give : Addr} {dF_give : FuncData} (F : Fun K "do_lit" "do_lit" sD1 f fd) (T : Tx K mg CB CM)
    (F_give : CalF P w K mg base 1 "give" ["board", "word"] (spGive CB CM) fF_give dF_give) : FnOk P w K mg base CX0 4 f fd ["board", "x", "words"] (spDo CB CM 1) := by
  refine F.ok scD1 (fun vs H Q E h => by obtain ⟨_, _, _, _, _, _, rfl, _⟩ := h; rfl) (fun cdv A outer s H vs Q E hr h => ?_)
  have hu := hu_of hr
  obtain ⟨H0, p, lw, x, n, ws, rfl, R, hlw, hws, hto, hsl, k⟩ := h
  refine ⟨_, (pss_one (ps_expr (pe_call F_give.G (hr.mono (by decide)) (by rfl) F_give.g F_give.kp F_give.b .nil pass0 (pa_cons (pv 0) (pa_cons (pv 1) pa_nil))))), ?_⟩
  exact ⟨_, rfl, _, rfl, H0, p, x, n, rfl, R, k⟩
abbrev sD2 : Stmt := topS 8
def scD2N : List Str := ["board", "x", "words"]
theorem scD2 : FnScope scD2N ["board", "x", "words"] (defScope sD2) := ⟨rfl, rfl, rfl, by decide +kernel, rfl, by decide +kernel, by decide +kernel⟩
theorem ok_D2 {f : Addr} {fd : FuncData} {fF_give : Addr} {dF_give : FuncData} (F : Fun K "do_get" "do_get" sD2 f fd) (T : Tx K mg CB CM)
    (F_give : CalF P w K mg base 1 "give" ["board", "word"] (spGive CB CM) fF_give dF_give) : FnOk P w K mg base CX0 4 f fd ["board", "x", "words"] (spDo CB CM 2) := by
  refine F.ok scD2 (fun vs H Q E h => by obtain ⟨_, _, _, _, _, _, rfl, _⟩ := h; rfl) (fun cdv A outer s H vs Q E hr h => ?_)
  have hu := hu_of hr
  obtain ⟨H0, p, lw, x, n, ws, rfl, R, hlw, hws, hto, hsl, k⟩ := h
  obtain ⟨v, rfl⟩ := len1 hws
  refine ⟨_, (pss_one (ps_expr (pe_call F_give.G (hr.mono (by decide)) (by rfl) F_give.g F_give.kp F_give.b .nil pass0 (pa_cons (pv 0) (pa_cons (pe_ix ix_list (pv 2) pe_int (fun _ _ => rfl)) pa_nil))))), ?_⟩
  exact ⟨_, rfl, _, rfl, lw, _, 0, _, rfl, rfl, SqL.of hlw, atI_nat (j := 0) rfl, H0, p, x, v, rfl, R, k⟩
abbrev sD8 : Stmt := topS 8
def scD8N : List Str := ["board", "x", "words"]
theorem scD8 : FnScope scD8N ["board", "x", "words"] (defScope sD8) := ⟨rfl, rfl, rfl, by decide +kernel, rfl, by decide +kernel, by decide +kernel⟩
theorem ok_D8 {f : Addr} {fd : FuncData} {fF_give : Addr} {dF_give : FuncData} (F : Fun K "do_get" "do_get" sD8 f fd) (T : Tx K mg CB CM)
    (F_give : CalF P w K mg base 1 "give" ["board", "word"] (spGive CB CM) fF_give dF_give) : FnOk P w K mg base CX0 4 f fd ["board", "x", "words"] (spDo CB CM 8) := by
  refine F.ok scD8 (fun vs H Q E h => by obtain ⟨_, _, _, _, _, _, rfl, _⟩ := h; rfl) (fun cdv A outer s H vs Q E hr h => ?_)
  have hu := hu_of hr
  obtain ⟨H0, p, lw, x, n, ws, rfl, R, hlw, hws, hto, hsl, k⟩ := h
  obtain ⟨v, rfl⟩ := len1 hws
  refine ⟨_, (pss_one (ps_expr (pe_call F_give.G (hr.mono (by decide)) (by rfl) F_give.g F_give.kp F_give.b .nil pass0 (pa_cons (pv 0) (pa_cons (pe_ix ix_list (pv 2) pe_int (fun _ _ => rfl)) pa_nil))))), ?_⟩
  exact ⟨_, rfl, _, rfl, lw, _, 0, _, rfl, rfl, SqL.of hlw, atI_nat (j := 0) rfl, H0, p, x, v, rfl, R, k⟩
abbrev sD3 : Stmt := topS 9
def scD3N : List Str := ["board", "x", "words"]
theorem scD3 : FnScope scD3N ["board", "x", "words"] (defScope sD3) := ⟨rfl, rfl, rfl, by decide +kernel, rfl, by decide +kernel, by decide +kernel⟩
theorem ok_D3 {f : Addr} {fd : FuncData} {fM_pbt : Addr} {dM_pbt : FuncData} (F : Fun K "do_put" "do_put" sD3 f fd) (T : Tx K mg CB CM)
    (M_pbt : CalM P w K mg base CB 3 "put_by_turn" ["self", "address", "word"] (spPw CB CM) fM_pbt dM_pbt) : FnOk P w K mg base CX0 4 f fd ["board", "x", "words"] (spDo CB CM 3) := by
  refine F.ok scD3 (fun vs H Q E h => by obtain ⟨_, _, _, _, _, _, rfl, _⟩ := h; rfl) (fun cdv A outer s H vs Q E hr h => ?_)
  have hu := hu_of hr
  obtain ⟨H0, p, lw, x, n, ws, rfl, R, hlw, hws, hto, hsl, k⟩ := h
  obtain ⟨A, ts, ls, B⟩ := R
  obtain ⟨sv, tv, dv, hp, hz⟩ := B.hp
  obtain ⟨t0, t1⟩ := hto (true, n) (List.mem_singleton.mpr rfl)
  refine ⟨_, (pss_one (ps_expr (pe_meth (pv 0) M_pbt.c M_pbt.m M_pbt.G (hr.mono (by decide)) M_pbt.b .nil pass0 (pa_cons (pv 1) (pa_cons (pe_dget hu (pe_fld (pv 0) rfl) pe_str (fun _ _ => rfl)) pa_nil))))), ?_⟩
  exact ⟨_, rfl, p, A.dx, _, rfl, hp, bN_pbt, _, rfl, _, rfl, p, CB, A.dx, _, _, rfl, hp, T.cB, T.n_registers, bF_reg, A.r, _, rfl, dg (k := Sum.inr "a") B.hr rG_a, H0, p, x, n, x.a, rfl, ⟨A, ts, ls, B⟩, hsl, t0, t1, k⟩
abbrev sD4 : Stmt := topS 10
def scD4N : List Str := ["board", "x", "words"]
theorem scD4 : FnScope scD4N ["board", "x", "words"] (defScope sD4) := ⟨rfl, rfl, rfl, by decide +kernel, rfl, by decide +kernel, by decide +kernel⟩
theorem ok_D4 {f : Addr} {fd : FuncData} {fF_give : Addr} {dF_give : FuncData} (F : Fun K "do_add" "do_add" sD4 f fd) (T : Tx K mg CB CM)
    (F_give : CalF P w K mg base 1 "give" ["board", "word"] (spGive CB CM) fF_give dF_give) : FnOk P w K mg base CX0 4 f fd ["board", "x", "words"] (spDo CB CM 4) := by
  refine F.ok scD4 (fun vs H Q E h => by obtain ⟨_, _, _, _, _, _, rfl, _⟩ := h; rfl) (fun cdv A outer s H vs Q E hr h => ?_)
  have hu := hu_of hr
  obtain ⟨t_WORDS, g_WORDS⟩ := T.g_WORDS
  obtain ⟨H0, p, lw, x, n, ws, rfl, R, hlw, hws, hto, hsl, k⟩ := h
  obtain ⟨v, rfl⟩ := len1 hws
  obtain ⟨A, ts, ls, B⟩ := R
  obtain ⟨sv, tv, dv, hp, hz⟩ := B.hp
  refine ⟨_, (pss_one (ps_expr (pe_call F_give.G (hr.mono (by decide)) (by rfl) F_give.g F_give.kp F_give.b .nil pass0 (pa_cons (pv 0) (pa_cons (pe_op op_mod (pe_op op_add (pe_dget hu (pe_fld (pv 0) rfl) pe_str (fun _ _ => rfl)) (pe_ix ix_list (pv 2) pe_int (fun _ _ => rfl))) (pgI g_WORDS)) pa_nil))))), ?_⟩
  exact ⟨_, rfl, _, rfl, p, CB, A.dx, _, _, rfl, hp, T.cB, T.n_registers, bF_reg, A.r, _, rfl, dg (k := Sum.inr "a") B.hr rG_a, _, rfl, lw, _, 0, _, rfl, rfl, SqL.of hlw, atI_nat (j := 0) rfl, _, _, rfl, rfl, _, _, rfl, rfl, (by show (0 : Int) < 65536; decide), H0, p, x, (x.a + v) % 65536, rfl, ⟨A, ts, ls, B⟩, k⟩
abbrev sD5 : Stmt := topS 11
def scD5N : List Str := ["board", "x", "words"]
theorem scD5 : FnScope scD5N ["board", "x", "words"] (defScope sD5) := ⟨rfl, rfl, rfl, by decide +kernel, rfl, by decide +kernel, by decide +kernel⟩
theorem ok_D5 {f : Addr} {fd : FuncData} {fF_give : Addr} {dF_give : FuncData} (F : Fun K "do_sub" "do_sub" sD5 f fd) (T : Tx K mg CB CM)
    (F_give : CalF P w K mg base 1 "give" ["board", "word"] (spGive CB CM) fF_give dF_give) : FnOk P w K mg base CX0 4 f fd ["board", "x", "words"] (spDo CB CM 5) := by
  refine F.ok scD5 (fun vs H Q E h => by obtain ⟨_, _, _, _, _, _, rfl, _⟩ := h; rfl) (fun cdv A outer s H vs Q E hr h => ?_)
  have hu := hu_of hr
  obtain ⟨t_WORDS, g_WORDS⟩ := T.g_WORDS
  obtain ⟨H0, p, lw, x, n, ws, rfl, R, hlw, hws, hto, hsl, k⟩ := h
  obtain ⟨v, rfl⟩ := len1 hws
  obtain ⟨A, ts, ls, B⟩ := R
  obtain ⟨sv, tv, dv, hp, hz⟩ := B.hp
  refine ⟨_, (pss_one (ps_expr (pe_call F_give.G (hr.mono (by decide)) (by rfl) F_give.g F_give.kp F_give.b .nil pass0 (pa_cons (pv 0) (pa_cons (pe_op op_mod (pe_op op_sub (pe_dget hu (pe_fld (pv 0) rfl) pe_str (fun _ _ => rfl)) (pe_ix ix_list (pv 2) pe_int (fun _ _ => rfl))) (pgI g_WORDS)) pa_nil))))), ?_⟩
  exact ⟨_, rfl, _, rfl, p, CB, A.dx, _, _, rfl, hp, T.cB, T.n_registers, bF_reg, A.r, _, rfl, dg (k := Sum.inr "a") B.hr rG_a, _, rfl, lw, _, 0, _, rfl, rfl, SqL.of hlw, atI_nat (j := 0) rfl, _, _, rfl, rfl, _, _, rfl, rfl, (by show (0 : Int) < 65536; decide), H0, p, x, (x.a - v) % 65536, rfl, ⟨A, ts, ls, B⟩, k⟩
abbrev sD6 : Stmt := topS 12
def scD6N : List Str := ["board", "x", "words"]
theorem scD6 : FnScope scD6N ["board", "x", "words"] (defScope sD6) := ⟨rfl, rfl, rfl, by decide +kernel, rfl, by decide +kernel, by decide +kernel⟩
theorem ok_D6 {f : Addr} {fd : FuncData} {fF_give : Addr} {dF_give : FuncData} (F : Fun K "do_and" "do_and" sD6 f fd) (T : Tx K mg CB CM)
    (F_give : CalF P w K mg base 1 "give" ["board", "word"] (spGive CB CM) fF_give dF_give) : FnOk P w K mg base CX0 4 f fd ["board", "x", "words"] (spDo CB CM 6) := by
  refine F.ok scD6 (fun vs H Q E h => by obtain ⟨_, _, _, _, _, _, rfl, _⟩ := h; rfl) (fun cdv A outer s H vs Q E hr h => ?_)
  have hu := hu_of hr
  obtain ⟨H0, p, lw, x, n, ws, rfl, R, hlw, hws, hto, hsl, k⟩ := h
  obtain ⟨v, rfl⟩ := len1 hws
  obtain ⟨A, ts, ls, B⟩ := R
  obtain ⟨sv, tv, dv, hp, hz⟩ := B.hp
  refine ⟨_, (pss_one (ps_expr (pe_call F_give.G (hr.mono (by decide)) (by rfl) F_give.g F_give.kp F_give.b .nil pass0 (pa_cons (pv 0) (pa_cons (pe_op op_and (pe_dget hu (pe_fld (pv 0) rfl) pe_str (fun _ _ => rfl)) (pe_ix ix_list (pv 2) pe_int (fun _ _ => rfl))) pa_nil))))), ?_⟩
  exact ⟨_, rfl, _, rfl, p, CB, A.dx, _, _, rfl, hp, T.cB, T.n_registers, bF_reg, A.r, _, rfl, dg (k := Sum.inr "a") B.hr rG_a, _, rfl, lw, _, 0, _, rfl, rfl, SqL.of hlw, atI_nat (j := 0) rfl, _, _, rfl, rfl, H0, p, x, Builtin.bitAnd x.a v, rfl, ⟨A, ts, ls, B⟩, k⟩
abbrev sD7 : Stmt := topS 13
def scD7N : List Str := ["board", "x", "words"]
theorem scD7 : FnScope scD7N ["board", "x", "words"] (defScope sD7) := ⟨rfl, rfl, rfl, by decide +kernel, rfl, by decide +kernel, by decide +kernel⟩
theorem ok_D7 {f : Addr} {fd : FuncData} {fF_give : Addr} {dF_give : FuncData} (F : Fun K "do_xor" "do_xor" sD7 f fd) (T : Tx K mg CB CM)
    (F_give : CalF P w K mg base 1 "give" ["board", "word"] (spGive CB CM) fF_give dF_give) : FnOk P w K mg base CX0 4 f fd ["board", "x", "words"] (spDo CB CM 7) := by
  refine F.ok scD7 (fun vs H Q E h => by obtain ⟨_, _, _, _, _, _, rfl, _⟩ := h; rfl) (fun cdv A outer s H vs Q E hr h => ?_)
  have hu := hu_of hr
  obtain ⟨H0, p, lw, x, n, ws, rfl, R, hlw, hws, hto, hsl, k⟩ := h
  obtain ⟨v, rfl⟩ := len1 hws
  obtain ⟨A, ts, ls, B⟩ := R
  obtain ⟨sv, tv, dv, hp, hz⟩ := B.hp
  refine ⟨_, (pss_one (ps_expr (pe_call F_give.G (hr.mono (by decide)) (by rfl) F_give.g F_give.kp F_give.b .nil pass0 (pa_cons (pv 0) (pa_cons (pe_op op_xor (pe_dget hu (pe_fld (pv 0) rfl) pe_str (fun _ _ => rfl)) (pe_ix ix_list (pv 2) pe_int (fun _ _ => rfl))) pa_nil))))), ?_⟩
  exact ⟨_, rfl, _, rfl, p, CB, A.dx, _, _, rfl, hp, T.cB, T.n_registers, bF_reg, A.r, _, rfl, dg (k := Sum.inr "a") B.hr rG_a, _, rfl, lw, _, 0, _, rfl, rfl, SqL.of hlw, atI_nat (j := 0) rfl, _, _, rfl, rfl, H0, p, x, Builtin.bitXor x.a v, rfl, ⟨A, ts, ls, B⟩, k⟩
abbrev sD9 : Stmt := topS 14
def scD9N : List Str := ["board", "x", "words"]
theorem scD9 : FnScope scD9N ["board", "x", "words"] (defScope sD9) := ⟨rfl, rfl, rfl, by decide +kernel, rfl, by decide +kernel, by decide +kernel⟩
theorem ok_D9 {f : Addr} {fd : FuncData} {fM_pbt : Addr} {dM_pbt : FuncData} (F : Fun K "do_putb" "do_putb" sD9 f fd) (T : Tx K mg CB CM)
    (M_pbt : CalM P w K mg base CB 3 "put_by_turn" ["self", "address", "word"] (spPw CB CM) fM_pbt dM_pbt) : FnOk P w K mg base CX0 4 f fd ["board", "x", "words"] (spDo CB CM 9) := by
  refine F.ok scD9 (fun vs H Q E h => by obtain ⟨_, _, _, _, _, _, rfl, _⟩ := h; rfl) (fun cdv A outer s H vs Q E hr h => ?_)
  have hu := hu_of hr
  obtain ⟨H0, p, lw, x, n, ws, rfl, R, hlw, hws, hto, hsl, k⟩ := h
  obtain ⟨A, ts, ls, B⟩ := R
  obtain ⟨sv, tv, dv, hp, hz⟩ := B.hp
  obtain ⟨t0, t1⟩ := hto (true, n + x.b) (List.mem_singleton.mpr rfl)
  refine ⟨_, (pss_one (ps_expr (pe_meth (pv 0) M_pbt.c M_pbt.m M_pbt.G (hr.mono (by decide)) M_pbt.b .nil pass0 (pa_cons (pe_op op_add (pv 1) (pe_dget hu (pe_fld (pv 0) rfl) pe_str (fun _ _ => rfl))) (pa_cons (pe_dget hu (pe_fld (pv 0) rfl) pe_str (fun _ _ => rfl)) pa_nil))))), ?_⟩
  exact ⟨_, rfl, p, A.dx, _, rfl, hp, bN_pbt, _, rfl, _, rfl, p, CB, A.dx, _, _, rfl, hp, T.cB, T.n_registers, bF_reg, A.r, _, rfl, dg (k := Sum.inr "b") B.hr rG_b, _, _, rfl, rfl, _, rfl, p, CB, A.dx, _, _, rfl, hp, T.cB, T.n_registers, bF_reg, A.r, _, rfl, dg (k := Sum.inr "a") B.hr rG_a, H0, p, x, (n + x.b), x.a, rfl, ⟨A, ts, ls, B⟩, hsl, t0, t1, k⟩
abbrev sD10 : Stmt := topS 15
def scD10N : List Str := ["board", "x", "words"]
theorem scD10 : FnScope scD10N ["board", "x", "words"] (defScope sD10) := ⟨rfl, rfl, rfl, by decide +kernel, rfl, by decide +kernel, by decide +kernel⟩
theorem ok_D10 {f : Addr} {fd : FuncData} (F : Fun K "do_tob" "do_tob" sD10 f fd) (T : Tx K mg CB CM) : FnOk P w K mg base CX0 4 f fd ["board", "x", "words"] (spDo CB CM 10) := by
  refine F.ok scD10 (fun vs H Q E h => by obtain ⟨_, _, _, _, _, _, rfl, _⟩ := h; rfl) (fun cdv A outer s H vs Q E hr h => ?_)
  have hu := hu_of hr
  obtain ⟨H0, p, lw, x, n, ws, rfl, R, hlw, hws, hto, hsl, k⟩ := h
  obtain ⟨A, ts, ls, B⟩ := R
  obtain ⟨sv, tv, dv, hp, hz⟩ := B.hp
  refine ⟨_, (pss_one (ps_dput hu (pe_fld (pv 0) rfl) pe_str (pe_dget hu (pe_fld (pv 0) rfl) pe_str (fun _ _ => rfl)) rfl)), ?_⟩
  exact ⟨_, rfl, p, CB, A.dx, _, _, rfl, hp, T.cB, T.n_registers, bF_reg, A.r, _, rfl, dg (k := Sum.inr "a") B.hr rG_a, _, rfl, p, CB, A.dx, _, _, rfl, hp, T.cB, T.n_registers, bF_reg, A.r, _, rfl, dp (k := Sum.inr "b") B.hr rP_b, k _ ⟨A, ts, ls, B.regs (a := x.a) (b := x.a) (pc := x.pc) (sp := x.sp)⟩⟩
abbrev sD11 : Stmt := topS 16
def scD11N : List Str := ["board", "x", "words", "a"]
theorem scD11 : FnScope scD11N ["board", "x", "words"] (defScope sD11) := ⟨rfl, rfl, rfl, by decide +kernel, rfl, by decide +kernel, by decide +kernel⟩
theorem ok_D11 {f : Addr} {fd : FuncData} {fF_give : Addr} {dF_give : FuncData} (F : Fun K "do_swap" "do_swap" sD11 f fd) (T : Tx K mg CB CM)
    (F_give : CalF P w K mg base 1 "give" ["board", "word"] (spGive CB CM) fF_give dF_give) : FnOk P w K mg base CX0 4 f fd ["board", "x", "words"] (spDo CB CM 11) := by
  refine F.ok scD11 (fun vs H Q E h => by obtain ⟨_, _, _, _, _, _, rfl, _⟩ := h; rfl) (fun cdv A outer s H vs Q E hr h => ?_)
  have hu := hu_of hr
  obtain ⟨H0, p, lw, x, n, ws, rfl, R, hlw, hws, hto, hsl, k⟩ := h
  obtain ⟨A, ts, ls, B⟩ := R
  obtain ⟨sv, tv, dv, hp, hz⟩ := B.hp
  refine ⟨_, (pss_cons (ps_set (i := 3) scD11.nd rfl (.inl rfl) (pe_dget hu (pe_fld (pv 0) rfl) pe_str (fun _ _ => rfl)))
    (pss_cons (ps_expr (pe_call F_give.G (hr.mono (by decide)) (by rfl) F_give.g F_give.kp F_give.b .nil pass0 (pa_cons (pv 0) (pa_cons (pe_dget hu (pe_fld (pv 0) rfl) pe_str (fun _ _ => rfl)) pa_nil))))
    (pss_one (ps_dput hu (pe_fld (pv 0) rfl) pe_str (pv 3) rfl)))), ?_⟩
  refine ⟨_, rfl, p, CB, A.dx, _, _, rfl, hp, T.cB, T.n_registers, bF_reg, A.r, _, rfl, dg (k := Sum.inr "a") B.hr rG_a, _, rfl, _, rfl, p, CB, A.dx, _, _, rfl, hp, T.cB, T.n_registers, bF_reg, A.r, _, rfl, dg (k := Sum.inr "b") B.hr rG_b, H0, p, x, x.b, rfl, ⟨A, ts, ls, B⟩, fun H1 R1 => ?_⟩
  obtain ⟨A1, ts1, ls1, B1⟩ := R1
  obtain ⟨sv1, tv1, dv1, hp1, hz1⟩ := B1.hp
  exact ⟨_, rfl, _, rfl, p, CB, A1.dx, _, _, rfl, hp1, T.cB, T.n_registers, bF_reg, A1.r, _, rfl, dp (k := Sum.inr "b") B1.hr rP_b, k _ ⟨A1, ts1, ls1, B1.regs (a := x.b) (b := x.a) (pc := x.pc) (sp := x.sp)⟩⟩
abbrev sD12 : Stmt := topS 17
def scD12N : List Str := ["board", "x", "words"]
theorem scD12 : FnScope scD12N ["board", "x", "words"] (defScope sD12) := ⟨rfl, rfl, rfl, by decide +kernel, rfl, by decide +kernel, by decide +kernel⟩
theorem ok_D12 {f : Addr} {fd : FuncData} (F : Fun K "do_go" "do_go" sD12 f fd) (T : Tx K mg CB CM) : FnOk P w K mg base CX0 4 f fd ["board", "x", "words"] (spDo CB CM 12) := by
  refine F.ok scD12 (fun vs H Q E h => by obtain ⟨_, _, _, _, _, _, rfl, _⟩ := h; rfl) (fun cdv A outer s H vs Q E hr h => ?_)
  have hu := hu_of hr
  obtain ⟨H0, p, lw, x, n, ws, rfl, R, hlw, hws, hto, hsl, k⟩ := h
  obtain ⟨A, ts, ls, B⟩ := R
  obtain ⟨sv, tv, dv, hp, hz⟩ := B.hp
  refine ⟨_, (pss_one (ps_dput hu (pe_fld (pv 0) rfl) pe_str (pv 1) rfl)), ?_⟩
  exact ⟨_, rfl, _, rfl, p, CB, A.dx, _, _, rfl, hp, T.cB, T.n_registers, bF_reg, A.r, _, rfl, dp (k := Sum.inr "pc") B.hr rP_pc, k _ ⟨A, ts, ls, B.regs (a := x.a) (b := x.b) (pc := n) (sp := x.sp)⟩⟩
abbrev sD13 : Stmt := topS 18
def scD13N : List Str := ["board", "x", "words"]
theorem scD13 : FnScope scD13N ["board", "x", "words"] (defScope sD13) := ⟨rfl, rfl, rfl, by decide +kernel, rfl, by decide +kernel, by decide +kernel⟩
theorem ok_D13 {f : Addr} {fd : FuncData} (F : Fun K "do_ifz" "do_ifz" sD13 f fd) (T : Tx K mg CB CM) : FnOk P w K mg base CX0 4 f fd ["board", "x", "words"] (spDo CB CM 13) := by
  refine F.ok scD13 (fun vs H Q E h => by obtain ⟨_, _, _, _, _, _, rfl, _⟩ := h; rfl) (fun cdv A outer s H vs Q E hr h => ?_)
  have hu := hu_of hr
  obtain ⟨H0, p, lw, x, n, ws, rfl, R, hlw, hws, hto, hsl, k⟩ := h
  obtain ⟨A, ts, ls, B⟩ := R
  obtain ⟨sv, tv, dv, hp, hz⟩ := B.hp
  refine ⟨_, (pss_one (ps_if (pt_val (pe_fld (pv 0) rfl)) (pss_one (ps_dput hu (pe_fld (pv 0) rfl) pe_str (pv 1) rfl)) pss_nil)), ?_⟩
  refine ⟨_, rfl, p, CB, A.dx, _, _, rfl, hp, T.cB, T.n_zero, bF_zero, _, rfl, ifB (fun h => ?_) (fun h => ?_)⟩
  · have e : doM 13 n ws x = { x with pc := n } := if_pos h
    rw [e] at k
    exact ⟨_, rfl, _, rfl, p, CB, A.dx, _, _, rfl, hp, T.cB, T.n_registers, bF_reg, A.r, _, rfl, dp (k := Sum.inr "pc") B.hr rP_pc, k _ ⟨A, ts, ls, B.regs (a := x.a) (b := x.b) (pc := n) (sp := x.sp)⟩⟩
  · have e : doM 13 n ws x = x := if_neg (by rw [h]; decide)
    rw [e] at k
    exact k _ ⟨A, ts, ls, B⟩
abbrev sD14 : Stmt := topS 19
def scD14N : List Str := ["board", "x", "words"]
theorem scD14 : FnScope scD14N ["board", "x", "words"] (defScope sD14) := ⟨rfl, rfl, rfl, by decide +kernel, rfl, by decide +kernel, by decide +kernel⟩
theorem ok_D14 {f : Addr} {fd : FuncData} (F : Fun K "do_ifn" "do_ifn" sD14 f fd) (T : Tx K mg CB CM) : FnOk P w K mg base CX0 4 f fd ["board", "x", "words"] (spDo CB CM 14) := by
  refine F.ok scD14 (fun vs H Q E h => by obtain ⟨_, _, _, _, _, _, rfl, _⟩ := h; rfl) (fun cdv A outer s H vs Q E hr h => ?_)
  have hu := hu_of hr
  obtain ⟨t_HIGH, g_HIGH⟩ := T.g_HIGH
  obtain ⟨H0, p, lw, x, n, ws, rfl, R, hlw, hws, hto, hsl, k⟩ := h
  obtain ⟨A, ts, ls, B⟩ := R
  obtain ⟨sv, tv, dv, hp, hz⟩ := B.hp
  refine ⟨_, (pss_one (ps_if (pt_cmpR op_ge (pe_dget hu (pe_fld (pv 0) rfl) pe_str (fun _ _ => rfl)) (pgI g_HIGH) (nomark _)) (pss_one (ps_dput hu (pe_fld (pv 0) rfl) pe_str (pv 1) rfl)) pss_nil)), ?_⟩
  refine ⟨_, rfl, p, CB, A.dx, _, _, rfl, hp, T.cB, T.n_registers, bF_reg, A.r, _, rfl, dg (k := Sum.inr "a") B.hr rG_a, _, _, rfl, rfl, _, rfl, ifB (fun h => ?_) (fun h => ?_)⟩
  · have e : doM 14 n ws x = { x with pc := n } := if_pos (of_decide_eq_true h)
    rw [e] at k
    exact ⟨_, rfl, _, rfl, p, CB, A.dx, _, _, rfl, hp, T.cB, T.n_registers, bF_reg, A.r, _, rfl, dp (k := Sum.inr "pc") B.hr rP_pc, k _ ⟨A, ts, ls, B.regs (a := x.a) (b := x.b) (pc := n) (sp := x.sp)⟩⟩
  · have e : doM 14 n ws x = x := if_neg (of_decide_eq_false h)
    rw [e] at k
    exact k _ ⟨A, ts, ls, B⟩
abbrev sD15 : Stmt := topS 20
def scD15N : List Str := ["board", "x", "words"]
theorem scD15 : FnScope scD15N ["board", "x", "words"] (defScope sD15) := ⟨rfl, rfl, rfl, by decide +kernel, rfl, by decide +kernel, by decide +kernel⟩
theorem ok_D15 {f : Addr} {fd : FuncData} {fM_pbt : Addr} {dM_pbt : FuncData} (F : Fun K "do_call" "do_call" sD15 f fd) (T : Tx K mg CB CM)
    (M_pbt : CalM P w K mg base CB 3 "put_by_turn" ["self", "address", "word"] (spPw CB CM) fM_pbt dM_pbt) : FnOk P w K mg base CX0 4 f fd ["board", "x", "words"] (spDo CB CM 15) := by
  refine F.ok scD15 (fun vs H Q E h => by obtain ⟨_, _, _, _, _, _, rfl, _⟩ := h; rfl) (fun cdv A outer s H vs Q E hr h => ?_)
  have hu := hu_of hr
  obtain ⟨H0, p, lw, x, n, ws, rfl, R, hlw, hws, hto, hsl, k⟩ := h
  obtain ⟨A, ts, ls, B⟩ := R
  obtain ⟨sv, tv, dv, hp, hz⟩ := B.hp
  obtain ⟨t0, t1⟩ := hto (true, x.sp) (List.mem_singleton.mpr rfl)
  refine ⟨_, (pss_cons (ps_expr (pe_meth (pv 0) M_pbt.c M_pbt.m M_pbt.G (hr.mono (by decide)) M_pbt.b .nil pass0 (pa_cons (pe_dget hu (pe_fld (pv 0) rfl) pe_str (fun _ _ => rfl)) (pa_cons (pe_dget hu (pe_fld (pv 0) rfl) pe_str (fun _ _ => rfl)) pa_nil))))
    (pss_cons (ps_daug hu (pe_fld (pv 0) rfl) pe_str pe_int in_sub (fun _ _ _ => rfl))
    (pss_one (ps_dput hu (pe_fld (pv 0) rfl) pe_str (pv 1) rfl)))), ?_⟩
  refine ⟨_, rfl, p, A.dx, _, rfl, hp, bN_pbt, _, rfl, p, CB, A.dx, _, _, rfl, hp, T.cB, T.n_registers, bF_reg, A.r, _, rfl, dg (k := Sum.inr "sp") B.hr rG_sp, _, rfl, p, CB, A.dx, _, _, rfl, hp, T.cB, T.n_registers, bF_reg, A.r, _, rfl, dg (k := Sum.inr "pc") B.hr rG_pc, H0, p, x, x.sp, x.pc, rfl, ⟨A, ts, ls, B⟩, hsl, t0, t1, fun H1 R1 => ?_⟩
  obtain ⟨A1, ts1, ls1, B1⟩ := R1
  obtain ⟨sv1, tv1, dv1, hp1, hz1⟩ := B1.hp
  have e0 : ∀ a v, ((putWM a v x).a = x.a ∧ (putWM a v x).b = x.b ∧ (putWM a v x).pc = x.pc ∧ (putWM a v x).sp = x.sp) := fun a v => by
    unfold putWM sendM
    split <;> exact ⟨rfl, rfl, rfl, rfl⟩
  obtain ⟨ea, eb, ec, ed⟩ := e0 x.sp x.pc
  refine ⟨_, rfl, p, CB, A1.dx, _, _, rfl, hp1, T.cB, T.n_registers, bF_reg, A1.r, _, rfl, dg (k := Sum.inr "sp") B1.hr rG_sp, _, _, rfl, rfl, _, dp (k := Sum.inr "sp") B1.hr rP_sp, ?_⟩
  have B2 := B1.regs (a := (putWM x.sp x.pc x).a) (b := (putWM x.sp x.pc x).b) (pc := (putWM x.sp x.pc x).pc) (sp := (putWM x.sp x.pc x).sp - 1)
  obtain ⟨sv2, tv2, dv2, hp2, hz2⟩ := B2.hp
  refine ⟨_, rfl, _, rfl, p, CB, A1.dx, _, _, rfl, hp2, T.cB, T.n_registers, bF_reg, A1.r, _, rfl, dp (k := Sum.inr "pc") B2.hr rP_pc, k _ ⟨A1, ts1, ls1, ?_⟩⟩
  have B3 := B2.regs (a := (putWM x.sp x.pc x).a) (b := (putWM x.sp x.pc x).b) (pc := n) (sp := (putWM x.sp x.pc x).sp - 1)
  rw [ed] at B3 ⊢
  exact B3
abbrev sD16 : Stmt := topS 21
def scD16N : List Str := ["board", "x", "words"]
theorem scD16 : FnScope scD16N ["board", "x", "words"] (defScope sD16) := ⟨rfl, rfl, rfl, by decide +kernel, rfl, by decide +kernel, by decide +kernel⟩
theorem ok_D16 {f : Addr} {fd : FuncData} (F : Fun K "do_ret" "do_ret" sD16 f fd) (T : Tx K mg CB CM) : FnOk P w K mg base CX0 4 f fd ["board", "x", "words"] (spDo CB CM 16) := by
  refine F.ok scD16 (fun vs H Q E h => by obtain ⟨_, _, _, _, _, _, rfl, _⟩ := h; rfl) (fun cdv A outer s H vs Q E hr h => ?_)
  have hu := hu_of hr
  obtain ⟨H0, p, lw, x, n, ws, rfl, R, hlw, hws, hto, hsl, k⟩ := h
  obtain ⟨v, rfl⟩ := len1 hws
  obtain ⟨A, ts, ls, B⟩ := R
  obtain ⟨sv, tv, dv, hp, hz⟩ := B.hp
  refine ⟨_, (pss_cons (ps_daug hu (pe_fld (pv 0) rfl) pe_str pe_int in_add (fun _ _ _ => rfl))
    (pss_one (ps_dput hu (pe_fld (pv 0) rfl) pe_str (pe_ix ix_list (pv 2) pe_int (fun _ _ => rfl)) rfl))), ?_⟩
  refine ⟨_, rfl, p, CB, A.dx, _, _, rfl, hp, T.cB, T.n_registers, bF_reg, A.r, _, rfl, dg (k := Sum.inr "sp") B.hr rG_sp, _, _, rfl, rfl, _, dp (k := Sum.inr "sp") B.hr rP_sp, ?_⟩
  have B1 := B.regs (a := x.a) (b := x.b) (pc := x.pc) (sp := x.sp + 1)
  obtain ⟨sv1, tv1, dv1, hp1, hz1⟩ := B1.hp
  have hlw1 : upd H A.r (.dK (regD x.a x.b x.pc (x.sp + 1))) lw = some (.lst [.int v]) := by rw [upd_ne (ne_of hlw B.hr (by intro q; cases q))]; exact hlw
  exact ⟨_, rfl, lw, _, 0, _, rfl, rfl, SqL.of hlw1, atI_nat (j := 0) rfl, _, rfl, p, CB, A.dx, _, _, rfl, hp1, T.cB, T.n_registers, bF_reg, A.r, _, rfl, dp (k := Sum.inr "pc") B1.hr rP_pc, k _ ⟨A, ts, ls, B1.regs (a := x.a) (b := x.b) (pc := v) (sp := x.sp + 1)⟩⟩
abbrev sD17 : Stmt := topS 22
def scD17N : List Str := ["board", "x", "words"]
theorem scD17 : FnScope scD17N ["board", "x", "words"] (defScope sD17) := ⟨rfl, rfl, rfl, by decide +kernel, rfl, by decide +kernel, by decide +kernel⟩
theorem ok_D17 {f : Addr} {fd : FuncData} {fM_pbt : Addr} {dM_pbt : FuncData} (F : Fun K "do_push" "do_push" sD17 f fd) (T : Tx K mg CB CM)
    (M_pbt : CalM P w K mg base CB 3 "put_by_turn" ["self", "address", "word"] (spPw CB CM) fM_pbt dM_pbt) : FnOk P w K mg base CX0 4 f fd ["board", "x", "words"] (spDo CB CM 17) := by
  refine F.ok scD17 (fun vs H Q E h => by obtain ⟨_, _, _, _, _, _, rfl, _⟩ := h; rfl) (fun cdv A outer s H vs Q E hr h => ?_)
  have hu := hu_of hr
  obtain ⟨H0, p, lw, x, n, ws, rfl, R, hlw, hws, hto, hsl, k⟩ := h
  obtain ⟨A, ts, ls, B⟩ := R
  obtain ⟨sv, tv, dv, hp, hz⟩ := B.hp
  obtain ⟨t0, t1⟩ := hto (true, x.sp) (List.mem_singleton.mpr rfl)
  refine ⟨_, (pss_cons (ps_expr (pe_meth (pv 0) M_pbt.c M_pbt.m M_pbt.G (hr.mono (by decide)) M_pbt.b .nil pass0 (pa_cons (pe_dget hu (pe_fld (pv 0) rfl) pe_str (fun _ _ => rfl)) (pa_cons (pe_dget hu (pe_fld (pv 0) rfl) pe_str (fun _ _ => rfl)) pa_nil))))
    (pss_one (ps_daug hu (pe_fld (pv 0) rfl) pe_str pe_int in_sub (fun _ _ _ => rfl)))), ?_⟩
  refine ⟨_, rfl, p, A.dx, _, rfl, hp, bN_pbt, _, rfl, p, CB, A.dx, _, _, rfl, hp, T.cB, T.n_registers, bF_reg, A.r, _, rfl, dg (k := Sum.inr "sp") B.hr rG_sp, _, rfl, p, CB, A.dx, _, _, rfl, hp, T.cB, T.n_registers, bF_reg, A.r, _, rfl, dg (k := Sum.inr "a") B.hr rG_a, H0, p, x, x.sp, x.a, rfl, ⟨A, ts, ls, B⟩, hsl, t0, t1, fun H1 R1 => ?_⟩
  obtain ⟨A1, ts1, ls1, B1⟩ := R1
  obtain ⟨sv1, tv1, dv1, hp1, hz1⟩ := B1.hp
  have e0 : ∀ a v, ((putWM a v x).a = x.a ∧ (putWM a v x).b = x.b ∧ (putWM a v x).pc = x.pc ∧ (putWM a v x).sp = x.sp) := fun a v => by
    unfold putWM sendM
    split <;> exact ⟨rfl, rfl, rfl, rfl⟩
  obtain ⟨ea, eb, ec, ed⟩ := e0 x.sp x.a
  refine ⟨_, rfl, p, CB, A1.dx, _, _, rfl, hp1, T.cB, T.n_registers, bF_reg, A1.r, _, rfl, dg (k := Sum.inr "sp") B1.hr rG_sp, _, _, rfl, rfl, _, dp (k := Sum.inr "sp") B1.hr rP_sp, k _ ⟨A1, ts1, ls1, ?_⟩⟩
  have B2 := B1.regs (a := (putWM x.sp x.a x).a) (b := (putWM x.sp x.a x).b) (pc := (putWM x.sp x.a x).pc) (sp := (putWM x.sp x.a x).sp - 1)
  rw [ed] at B2 ⊢
  exact B2
abbrev sD18 : Stmt := topS 23
def scD18N : List Str := ["board", "x", "words"]
theorem scD18 : FnScope scD18N ["board", "x", "words"] (defScope sD18) := ⟨rfl, rfl, rfl, by decide +kernel, rfl, by decide +kernel, by decide +kernel⟩
theorem ok_D18 {f : Addr} {fd : FuncData} {fF_give : Addr} {dF_give : FuncData} (F : Fun K "do_pop" "do_pop" sD18 f fd) (T : Tx K mg CB CM)
    (F_give : CalF P w K mg base 1 "give" ["board", "word"] (spGive CB CM) fF_give dF_give) : FnOk P w K mg base CX0 4 f fd ["board", "x", "words"] (spDo CB CM 18) := by
  refine F.ok scD18 (fun vs H Q E h => by obtain ⟨_, _, _, _, _, _, rfl, _⟩ := h; rfl) (fun cdv A outer s H vs Q E hr h => ?_)
  have hu := hu_of hr
  obtain ⟨H0, p, lw, x, n, ws, rfl, R, hlw, hws, hto, hsl, k⟩ := h
  obtain ⟨v, rfl⟩ := len1 hws
  obtain ⟨A, ts, ls, B⟩ := R
  obtain ⟨sv, tv, dv, hp, hz⟩ := B.hp
  refine ⟨_, (pss_cons (ps_daug hu (pe_fld (pv 0) rfl) pe_str pe_int in_add (fun _ _ _ => rfl))
    (pss_one (ps_expr (pe_call F_give.G (hr.mono (by decide)) (by rfl) F_give.g F_give.kp F_give.b .nil pass0 (pa_cons (pv 0) (pa_cons (pe_ix ix_list (pv 2) pe_int (fun _ _ => rfl)) pa_nil)))))), ?_⟩
  refine ⟨_, rfl, p, CB, A.dx, _, _, rfl, hp, T.cB, T.n_registers, bF_reg, A.r, _, rfl, dg (k := Sum.inr "sp") B.hr rG_sp, _, _, rfl, rfl, _, dp (k := Sum.inr "sp") B.hr rP_sp, ?_⟩
  have B1 := B.regs (a := x.a) (b := x.b) (pc := x.pc) (sp := x.sp + 1)
  have hlw1 : upd H A.r (.dK (regD x.a x.b x.pc (x.sp + 1))) lw = some (.lst [.int v]) := by rw [upd_ne (ne_of hlw B.hr (by intro q; cases q))]; exact hlw
  exact ⟨_, rfl, _, rfl, lw, _, 0, _, rfl, rfl, SqL.of hlw1, atI_nat (j := 0) rfl, H0, p, _, v, rfl, ⟨A, ts, ls, B1⟩, k⟩
abbrev sD19 : Stmt := topS 24
def scD19N : List Str := ["board", "x", "words"]
theorem scD19 : FnScope scD19N ["board", "x", "words"] (defScope sD19) := ⟨rfl, rfl, rfl, by decide +kernel, rfl, by decide +kernel, by decide +kernel⟩
theorem ok_D19 {f : Addr} {fd : FuncData} (F : Fun K "do_sleep" "do_sleep" sD19 f fd) (T : Tx K mg CB CM) : FnOk P w K mg base CX0 4 f fd ["board", "x", "words"] (spDo CB CM 19) := by
  refine F.ok scD19 (fun vs H Q E h => by obtain ⟨_, _, _, _, _, _, rfl, _⟩ := h; rfl) (fun cdv A outer s H vs Q E hr h => ?_)
  have hu := hu_of hr
  obtain ⟨H0, p, lw, x, n, ws, rfl, R, hlw, hws, hto, hsl, k⟩ := h
  obtain ⟨A, ts, ls, B⟩ := R
  obtain ⟨sv, tv, dv, hp, hz⟩ := B.hp
  refine ⟨_, (pss_one (ps_fld (pv 0) pe_bl rfl)), ?_⟩
  refine ⟨_, rfl, p, CB, A.dx, _, rfl, hp, T.cB, T.n_asleep, (by show 13 < 1000; decide), ?_⟩
  rw [bP_asleep]
  exact k _ ⟨A, ts, ls, B.fld (z := x.zero) (le := x.lets) (as := true) (bt := x.beat) (sv := sv) (la := x.la) (tv := tv) (dv := dv) hz⟩
abbrev sD20 : Stmt := topS 25
def scD20N : List Str := ["board", "x", "words"]
theorem scD20 : FnScope scD20N ["board", "x", "words"] (defScope sD20) := ⟨rfl, rfl, rfl, by decide +kernel, rfl, by decide +kernel, by decide +kernel⟩
theorem ok_D20 {f : Addr} {fd : FuncData} (F : Fun K "do_let" "do_let" sD20 f fd) (T : Tx K mg CB CM) : FnOk P w K mg base CX0 4 f fd ["board", "x", "words"] (spDo CB CM 20) := by
  refine F.ok scD20 (fun vs H Q E h => by obtain ⟨_, _, _, _, _, _, rfl, _⟩ := h; rfl) (fun cdv A outer s H vs Q E hr h => ?_)
  have hu := hu_of hr
  obtain ⟨H0, p, lw, x, n, ws, rfl, R, hlw, hws, hto, hsl, k⟩ := h
  obtain ⟨A, ts, ls, B⟩ := R
  obtain ⟨sv, tv, dv, hp, hz⟩ := B.hp
  refine ⟨_, (pss_one (ps_fld (pv 0) (pe_cmpR op_eq (pe_op op_mod (pv 1) pe_int) pe_int (nomark _)) rfl)), ?_⟩
  have eb : ∀ u : Int, decide (V.int (u % 2) = V.int 1) = decide (u % 2 = 1) := fun u => by
    by_cases h : u % 2 = 1
    · rw [decide_eq_true h, h]; rfl
    · rw [decide_eq_false h]; exact decide_eq_false fun z => h (V.int.inj z)
  refine ⟨_, rfl, _, _, rfl, rfl, (by show (0 : Int) < 2; decide), rfl, _, rfl, p, CB, A.dx, _, rfl, hp, T.cB, T.n_lets, (by show 13 < 1000; decide), ?_⟩
  rw [bP_lets, eb]
  exact k _ ⟨A, ts, ls, B.fld (z := x.zero) (le := decide (n % 2 = 1)) (as := x.asleep) (bt := x.beat) (sv := sv) (la := x.la) (tv := tv) (dv := dv) hz⟩
abbrev sD21 : Stmt := topS 26
def scD21N : List Str := ["board", "x", "words"]
theorem scD21 : FnScope scD21N ["board", "x", "words"] (defScope sD21) := ⟨rfl, rfl, rfl, by decide +kernel, rfl, by decide +kernel, by decide +kernel⟩
theorem ok_D21 {f : Addr} {fd : FuncData} (F : Fun K "do_back" "do_back" sD21 f fd) (T : Tx K mg CB CM) : FnOk P w K mg base CX0 4 f fd ["board", "x", "words"] (spDo CB CM 21) := by
  refine F.ok scD21 (fun vs H Q E h => by obtain ⟨_, _, _, _, _, _, rfl, _⟩ := h; rfl) (fun cdv A outer s H vs Q E hr h => ?_)
  have hu := hu_of hr
  obtain ⟨H0, p, lw, x, n, ws, rfl, R, hlw, hws, hto, hsl, k⟩ := h
  obtain ⟨v, v2, rfl⟩ := len2 hws
  obtain ⟨A, ts, ls, B⟩ := R
  obtain ⟨sv, tv, dv, hp, hz⟩ := B.hp
  refine ⟨_, (pss_cons (ps_daug hu (pe_fld (pv 0) rfl) pe_str pe_int in_add (fun _ _ _ => rfl))
    (pss_cons (ps_fld (pv 0) (pe_cmpR op_eq (pe_op op_mod (pe_ix ix_list (pv 2) pe_int (fun _ _ => rfl)) pe_int) pe_int (nomark _)) rfl)
    (pss_cons (ps_dput hu (pe_fld (pv 0) rfl) pe_str (pe_ix ix_list (pv 2) pe_int (fun _ _ => rfl)) rfl)
    (pss_one (ps_fld (pv 0) pe_bl rfl))))), ?_⟩
  have eb : ∀ u : Int, decide (V.int (u % 2) = V.int 1) = decide (u % 2 = 1) := fun u => by
    by_cases h : u % 2 = 1
    · rw [decide_eq_true h, h]; rfl
    · rw [decide_eq_false h]; exact decide_eq_false fun z => h (V.int.inj z)
  refine ⟨_, rfl, p, CB, A.dx, _, _, rfl, hp, T.cB, T.n_registers, bF_reg, A.r, _, rfl, dg (k := Sum.inr "sp") B.hr rG_sp, _, _, rfl, rfl, _, dp (k := Sum.inr "sp") B.hr rP_sp, ?_⟩
  have B1 := B.regs (a := x.a) (b := x.b) (pc := x.pc) (sp := x.sp + 2)
  obtain ⟨sv1, tv1, dv1, hp1, hz1⟩ := B1.hp
  have hlw1 : upd H A.r (.dK (regD x.a x.b x.pc (x.sp + 2))) lw = some (.lst [.int v, .int v2]) := by rw [upd_ne (ne_of hlw B.hr (by intro q; cases q))]; exact hlw
  refine ⟨_, rfl, lw, _, 0, _, rfl, rfl, SqL.of hlw1, atI_nat (j := 0) rfl, _, _, rfl, rfl, (by show (0 : Int) < 2; decide), rfl, _, rfl, p, CB, A.dx, _, rfl, hp1, T.cB, T.n_zero, (by show 13 < 1000; decide), ?_⟩
  rw [bP_zero, eb]
  have B2 := B1.fld (z := decide (v % 2 = 1)) (le := x.lets) (as := x.asleep) (bt := x.beat) (sv := sv1) (la := x.la) (tv := tv1) (dv := dv1) hz1
  have hlw2 := hlw1
  rw [← upd_ne (H := upd H A.r (.dK (regD x.a x.b x.pc (x.sp + 2)))) (o := .ins CB A.dx (bdF A.r A.t A.m A.l (decide (v % 2 = 1)) x.lets x.asleep x.beat sv1 x.la tv1 dv1)) (ne_of hlw1 hp1 (by intro q; cases q))] at hlw2
  obtain ⟨sv2, tv2, dv2, hp2, hz2⟩ := B2.hp
  refine ⟨_, rfl, lw, _, 1, _, rfl, rfl, SqL.of hlw2, atI_nat (j := 1) rfl, _, rfl, p, CB, A.dx, _, _, rfl, hp2, T.cB, T.n_registers, bF_reg, A.r, _, rfl, dp (k := Sum.inr "pc") B2.hr rP_pc, ?_⟩
  have B3 := B2.regs (a := x.a) (b := x.b) (pc := v2) (sp := x.sp + 2)
  obtain ⟨sv3, tv3, dv3, hp3, hz3⟩ := B3.hp
  refine ⟨_, rfl, p, CB, A.dx, _, rfl, hp3, T.cB, T.n_lets, (by show 13 < 1000; decide), ?_⟩
  rw [bP_lets]
  exact k _ ⟨A, ts, ls, B3.fld (z := decide (v % 2 = 1)) (le := true) (as := x.asleep) (bt := x.beat) (sv := sv3) (la := x.la) (tv := tv3) (dv := dv3) hz3⟩
abbrev sD22 : Stmt := topS 27
def scD22N : List Str := ["board", "x", "words"]
theorem scD22 : FnScope scD22N ["board", "x", "words"] (defScope sD22) := ⟨rfl, rfl, rfl, by decide +kernel, rfl, by decide +kernel, by decide +kernel⟩
theorem ok_D22 {f : Addr} {fd : FuncData} {fF_give : Addr} {dF_give : FuncData} (F : Fun K "do_half" "do_half" sD22 f fd) (T : Tx K mg CB CM)
    (F_give : CalF P w K mg base 1 "give" ["board", "word"] (spGive CB CM) fF_give dF_give) : FnOk P w K mg base CX0 4 f fd ["board", "x", "words"] (spDo CB CM 22) := by
  refine F.ok scD22 (fun vs H Q E h => by obtain ⟨_, _, _, _, _, _, rfl, _⟩ := h; rfl) (fun cdv A outer s H vs Q E hr h => ?_)
  have hu := hu_of hr
  obtain ⟨H0, p, lw, x, n, ws, rfl, R, hlw, hws, hto, hsl, k⟩ := h
  obtain ⟨A, ts, ls, B⟩ := R
  obtain ⟨sv, tv, dv, hp, hz⟩ := B.hp
  refine ⟨_, (pss_one (ps_expr (pe_call F_give.G (hr.mono (by decide)) (by rfl) F_give.g F_give.kp F_give.b .nil pass0 (pa_cons (pv 0) (pa_cons (pe_op op_fdiv (pe_dget hu (pe_fld (pv 0) rfl) pe_str (fun _ _ => rfl)) pe_int) pa_nil))))), ?_⟩
  exact ⟨_, rfl, _, rfl, p, CB, A.dx, _, _, rfl, hp, T.cB, T.n_registers, bF_reg, A.r, _, rfl, dg (k := Sum.inr "a") B.hr rG_a, _, _, rfl, rfl, ⟨by decide, by decide⟩, H0, p, x, x.a / 2, rfl, ⟨A, ts, ls, B⟩, k⟩
end
end Bh

/-! Beats, stops, what may be touched. -/
namespace Bh
open PySem PySem.Spec PyProof.Rows L2
def spCome (CB CM : Addr) : Sp := fun vs H Q _ => ∃ (H0 : Hp) (p : Addr) (x : Bd), vs = [.ref p] ∧ BoardAt CB CM H0 H p x ∧ ∀ H', BoardAt CB CM H0 H' p (comeM x) → Q .non H'
def spPass (CB CM : Addr) : Sp := fun vs H Q _ => ∃ (H0 : Hp) (p : Addr) (x : Bd) (n : Nat), vs = [.ref p, .int (n : Int)] ∧ BoardAt CB CM H0 H p x ∧ n ≤ 1000 ∧ ∀ H', BoardAt CB CM H0 H' p (passM n x) → Q .non H'
def spStop (CB CM : Addr) : Sp := fun vs H Q _ => ∃ (H0 : Hp) (p q : Addr) (x : Bd) (s : Str) (ns : List Int), vs = [.ref p, .ref q] ∧ BoardAt CB CM H0 H p x ∧ H q = some (.tup (.str s :: ns.map V.int)) ∧ ∀ H', BoardAt CB CM H0 H' p { x with stop := some (s, ns) } → Q (.str "stopped") H'
def mayM (x : Bd) (ts : List (Bool × Int)) : Bool × Bd := match firstBad ts with
  | some r => (false, { x with stop := some (r.1, [x.pc, r.2]) })
  | none => (true, x)
def spMay (CB CM : Addr) : Sp := fun vs H Q _ => ∃ (H0 : Hp) (p l : Addr) (x : Bd) (us : List V) (ts : List (Bool × Int)), vs = [.ref p, .ref l] ∧ BoardAt CB CM H0 H p x ∧ H l = some (.lst us) ∧ TouAt H us ts ∧ ∀ H', BoardAt CB CM H0 H' p (mayM x ts).2 → Q (.bl (mayM x ts).1) H'
def comingM (x : Bd) : Str := if x.stop ≠ none then "stopped" else if x.asleep = true ∧ calledM x = 0 then "asleep" else if x.lets = true ∧ calledM x ≠ 0 then "interrupt" else "deed"
def spComing (CB CM : Addr) : Sp := fun vs H Q _ => ∃ (H0 : Hp) (p : Addr) (x : Bd), vs = [.ref p] ∧ BoardAt CB CM H0 H p x ∧ Q (.str (comingM x)) H
section
variable {P : Program} {w : World} {K : PySem.W.Frag} {mg : Str → Option Value} {base : Heap} {CB CM : Addr}
abbrev sMcome : Stmt := inClass (topS 64) 13
def scMcomeN : List Str := ["self"]
theorem scMcome : FnScope scMcomeN ["self"] (defScope sMcome) := ⟨rfl, rfl, rfl, by decide +kernel, rfl, by decide +kernel, by decide +kernel⟩
theorem ok_Mcome {f : Addr} {fd : FuncData} {fM_take : Addr} {dM_take : FuncData} (F : Fun K "come_line" "Board.come_line" sMcome f fd) (T : Tx K mg CB CM)
    (M_take : CalM P w K mg base CM 1 "take_line" ["self", "value"] (spMTake CM) fM_take dM_take) : FnOk P w K mg base CX0 2 f fd ["self"] (spCome CB CM) := by
  refine F.ok scMcome (fun vs H Q E h => by obtain ⟨_, _, _, rfl, _⟩ := h; rfl) (fun cdv A outer s H vs Q E hr h => ?_)
  have hu := hu_of hr
  have z_len := T.z_len
  obtain ⟨H0, p, x, rfl, R, k⟩ := h
  obtain ⟨A, ts, ls, B⟩ := R
  obtain ⟨sv, tv, dv, hp, hz⟩ := B.hp
  refine ⟨_, (pss_one (ps_if (PW.pt (pw_and (pt_cmpR op_lt (pe_fld (pv 0) rfl) (pe_callB call_len_seq (by rfl) z_len PySem.boot_len (pa_cons (pe_fld (pv 0) rfl) pa_nil)) (nomark _)) (pw_and1 (pt_cmpR op_eq (pe_ix ix_tup (pe_ix ix_list (pe_fld (pv 0) rfl) (pe_fld (pv 0) rfl) (fun _ _ => rfl)) pe_int (fun _ _ => rfl)) (pe_fld (pv 0) rfl) (nomark _))))) (pss_cons (ps_expr (pe_meth (pe_fld (pv 0) rfl) M_take.c M_take.m M_take.G (hr.mono (by decide)) M_take.b .nil pass0 (pa_cons (pe_ix ix_tup (pe_ix ix_list (pe_fld (pv 0) rfl) (pe_fld (pv 0) rfl) (fun _ _ => rfl)) pe_int (fun _ _ => rfl)) pa_nil)))
    (pss_one (ps_fldaug (pv 0) pe_int in_add))) pss_nil)), ?_⟩
  unfold comeM at k
  refine ⟨_, rfl, p, CB, A.dx, _, _, rfl, hp, T.cB, T.n_line_at, bF_la, _, rfl, p, CB, A.dx, _, _, rfl, hp, T.cB, T.n_line, bF_line, A.l, _, rfl, .inl (SqL.of B.hl), _, _, rfl, rfl, _, rfl, ifB (fun h => ?_) (fun h => ?_)⟩
  · have hl : x.la < x.line.length := by
      have := of_decide_eq_true h
      rw [TupsAt.len B.ll] at this
      omega
    obtain ⟨t, e1, e2⟩ := TupsAt.get B.ll hl
    refine ⟨_, rfl, p, CB, A.dx, _, _, rfl, hp, T.cB, T.n_line, bF_line, _, rfl, p, CB, A.dx, _, _, rfl, hp, T.cB, T.n_line_at, bF_la, A.l, _, _, _, rfl, rfl, SqL.of B.hl, atI_nat e1, t, _, 0, _, rfl, rfl, SqT.of e2, atI_nat (j := 0) rfl, _, rfl, p, CB, A.dx, _, _, rfl, hp, T.cB, T.n_beat, bF_beat, rfl, _, rfl, ifB (fun h2 => ?_) (fun h2 => ?_)⟩
    · have hb : (x.line.getD x.la (0, 0)).1 = x.beat := V.int.inj (of_decide_eq_true h2)
      rw [if_pos ⟨hl, hb⟩] at k
      refine ⟨_, rfl, p, CB, A.dx, _, _, rfl, hp, T.cB, T.n_memory, bF_mem, A.m, A.dm, _, rfl, B.hm, mN_take, _, rfl, p, CB, A.dx, _, _, rfl, hp, T.cB, T.n_line, bF_line, _, rfl, p, CB, A.dx, _, _, rfl, hp, T.cB, T.n_line_at, bF_la, A.l, _, _, _, rfl, rfl, SqL.of B.hl, atI_nat e1, t, _, 1, _, rfl, rfl, SqT.of e2, atI_nat (j := 1) rfl, A.m, A.dm, A.w, A.s, x.mem, _, rfl, B.mem, ?_⟩
      have B1 := B.wds (m := takeLineM (x.line.getD x.la (0, 0)).2 x.mem) (by rw [takeLineM_len]; exact B.lm)
      obtain ⟨sv1, tv1, dv1, hp1, hz1⟩ := B1.hp
      refine ⟨_, rfl, p, CB, A.dx, _, _, rfl, hp1, T.cB, T.n_line_at, bF_la, _, _, rfl, rfl, A.dx, _, hp1, (by show 13 < 1000; decide), ?_⟩
      rw [bP_la (n := 0)]
      exact k _ ⟨A, ts, ls, B1.fld (z := x.zero) (le := x.lets) (as := x.asleep) (bt := x.beat) (sv := sv1) (la := x.la + 1) (tv := tv1) (dv := dv1) hz1⟩
    · rw [if_neg (fun z => of_decide_eq_false h2 (congrArg V.int z.2))] at k
      exact k _ ⟨A, ts, ls, B⟩
  · have hl : ¬ x.la < x.line.length := by
      have := of_decide_eq_false h
      rw [TupsAt.len B.ll] at this
      omega
    rw [if_neg (fun z => hl z.1)] at k
    exact k _ ⟨A, ts, ls, B⟩
abbrev sMpass : Stmt := inClass (topS 64) 12
def scMpassN : List Str := ["self", "many", "_"]
theorem scMpass : FnScope scMpassN ["self", "many"] (defScope sMpass) := ⟨rfl, rfl, rfl, by decide +kernel, rfl, by decide +kernel, by decide +kernel⟩
theorem ok_Mpass {f : Addr} {fd : FuncData} {fM_come : Addr} {dM_come : FuncData} {fM_timer : Addr} {dM_timer : FuncData} (F : Fun K "pass_beats" "Board.pass_beats" sMpass f fd) (T : Tx K mg CB CM)
    (M_come : CalM P w K mg base CB 2 "come_line" ["self"] (spCome CB CM) fM_come dM_come)
    (M_timer : CalM P w K mg base CM 1 "go_timer" ["self"] (spMTim CM) fM_timer dM_timer) : FnOk P w K mg base CX0 3 f fd ["self", "many"] (spPass CB CM) := by
  refine F.ok scMpass (fun vs H Q E h => by obtain ⟨_, _, _, _, rfl, _⟩ := h; rfl) (fun cdv A outer s H vs Q E hr h => ?_)
  have hu := hu_of hr
  have z_range := T.z_range
  obtain ⟨H0, p, x, n, rfl, R, hn, k⟩ := h
  refine ⟨_, (pss_one (ps_for PassesOwn.never rfl (pi_range1 (by rfl) z_range (pa_cons (pv 1) pa_nil)) (pg_name (i := 2) scMpass.nd rfl (.inl rfl))
      (pss_cons (ps_fldaug (pv 0) pe_int in_add)
    (pss_cons (ps_expr (pe_meth0 (pv 0) M_come.c M_come.m M_come.G (hr.mono (by decide)) M_come.b .nil pass0))
    (pss_one (ps_expr (pe_meth0 (pe_fld (pv 0) rfl) M_timer.c M_timer.m M_timer.G (hr.mono (by decide)) M_timer.b .nil pass0))))))), ?_⟩
  refine ⟨_, rfl, (n : Int), rfl, by omega, by omega, ?_⟩
  refine for_range (lo := 0) (n := ((n : Int)).toNat) (fun i σ H' => ∃ (y : Option V) (z : Bd), σ = [some (.ref p), some (.int (n : Int)), y] ∧ BoardAt CB CM H0 H' p z ∧ passM (n - i) z = passM n x) ⟨none, x, rfl, R, rfl⟩ ?_ ?_
  · rintro i σ H1 hi ⟨y, z, rfl, R, e⟩
    have hin : i < n := by omega
    obtain ⟨A, ts, ls, B⟩ := R
    obtain ⟨sv, tv, dv, hp, hz⟩ := B.hp
    refine ⟨_, rfl, p, CB, A.dx, _, _, rfl, hp, T.cB, T.n_beat, bF_beat, _, _, rfl, rfl, A.dx, _, hp, (by show 13 < 1000; decide), ?_⟩
    rw [bP_beat]
    have B1 := B.fld (z := z.zero) (le := z.lets) (as := z.asleep) (bt := z.beat + 1) (sv := sv) (la := z.la) (tv := tv) (dv := dv) hz
    obtain ⟨sv1, tv1, dv1, hp1, hz1⟩ := B1.hp
    refine ⟨_, rfl, p, A.dx, _, rfl, hp1, bN_come, H0, p, _, rfl, ⟨A, ts, ls, B1⟩, fun H2 R2 => ?_⟩
    obtain ⟨A2, ts2, ls2, B2⟩ := R2
    obtain ⟨sv2, tv2, dv2, hp2, hz2⟩ := B2.hp
    refine ⟨_, rfl, p, CB, A2.dx, _, _, rfl, hp2, T.cB, T.n_memory, bF_mem, A2.m, A2.dm, _, rfl, B2.hm, mN_timer, A2.m, A2.dm, A2.w, A2.s, _, rfl, B2.mem, ?_⟩
    have B3 := B2.wds (m := goTimerM (comeM { z with beat := z.beat + 1 }).mem) (by rw [goTimerM_len]; exact B2.lm)
    refine ⟨some (.int (0 + (i : Int))), passOneM z, rfl, ⟨A2, ts2, ls2, B3⟩, ?_⟩
    have e3 : n - i = (n - (i + 1)) + 1 := by omega
    rw [e3] at e
    exact e
  · rintro σ H1 ⟨y, z, rfl, R, e⟩
    have e0 : n - ((n : Int)).toNat = 0 := by omega
    rw [e0] at e
    rw [← e] at k
    exact k _ R
abbrev sMstop : Stmt := inClass (topS 64) 9
def scMstopN : List Str := ["self", "stop"]
theorem scMstop : FnScope scMstopN ["self", "stop"] (defScope sMstop) := ⟨rfl, rfl, rfl, by decide +kernel, rfl, by decide +kernel, by decide +kernel⟩
theorem ok_Mstop {f : Addr} {fd : FuncData} (F : Fun K "stop" "Board.stop" sMstop f fd) (T : Tx K mg CB CM) : FnOk P w K mg base CX0 1 f fd ["self", "stop"] (spStop CB CM) := by
  refine F.ok scMstop (fun vs H Q E h => by obtain ⟨_, _, _, _, _, _, rfl, _⟩ := h; rfl) (fun cdv A outer s H vs Q E hr h => ?_)
  have hu := hu_of hr
  obtain ⟨H0, p, q, x, s_, ns, rfl, R, hq, k⟩ := h
  obtain ⟨A, ts, ls, B⟩ := R
  obtain ⟨sv, tv, dv, hp, hz⟩ := B.hp
  refine ⟨_, (pss_cons (ps_fld (pv 0) (pv 1) rfl)
    (pss_one (ps_ret pe_str))), ?_⟩
  refine ⟨_, rfl, _, rfl, p, CB, A.dx, _, rfl, hp, T.cB, T.n_stopped, (by show 13 < 1000; decide), ?_⟩
  rw [bP_stop]
  exact k _ ⟨A, ts, ls, B.fld (z := x.zero) (le := x.lets) (as := x.asleep) (bt := x.beat) (sv := .ref q) (la := x.la) (tv := tv) (dv := dv) (so := some (s_, ns)) ⟨q, rfl, hq⟩⟩
abbrev sMmay : Stmt := inClass (topS 64) 8
def scMmayN : List Str := ["self", "touches", "kind", "address", "why"]
theorem scMmay : FnScope scMmayN ["self", "touches"] (defScope sMmay) := ⟨rfl, rfl, rfl, by decide +kernel, rfl, by decide +kernel, by decide +kernel⟩
theorem ok_Mmay {f : Addr} {fd : FuncData} {fF_bar : Addr} {dF_bar : FuncData} {fM_stop : Addr} {dM_stop : FuncData} (F : Fun K "may_touch" "Board.may_touch" sMmay f fd) (T : Tx K mg CB CM)
    (F_bar : CalF P w K mg base 1 "bar_of" ["kind", "address"] (spBar) fF_bar dF_bar)
    (M_stop : CalM P w K mg base CB 1 "stop" ["self", "stop"] (spStop CB CM) fM_stop dM_stop) : FnOk P w K mg base CX0 2 f fd ["self", "touches"] (spMay CB CM) := by
  refine F.ok scMmay (fun vs H Q E h => by obtain ⟨_, _, _, _, _, _, rfl, _⟩ := h; rfl) (fun cdv A outer s H vs Q E hr h => ?_)
  have hu := hu_of hr
  obtain ⟨H0, p, l, x, us, tl, rfl, R, hl, ht, k⟩ := h
  obtain ⟨A, ts, ls, B⟩ := R
  obtain ⟨sv, tv, dv, hp, hz⟩ := B.hp
  refine ⟨_, (pss_cons (ps_for PassesOwn.never rfl (pi_list (pv 1)) (pg_tup rfl (pgs_cons (pg_name (i := 2) scMmay.nd rfl (.inl rfl)) (pgs_cons (pg_name (i := 3) scMmay.nd rfl (.inl rfl)) pgs_nil)))
      (pss_cons (ps_set (i := 4) scMmay.nd rfl (.inl rfl) (pe_call F_bar.G (hr.mono (by decide)) (by rfl) F_bar.g F_bar.kp F_bar.b .nil pass0 (pa_cons (pv 2) (pa_cons (pv 3) pa_nil))))
    (pss_one (ps_if (pt_cmp (pc_notN (pv 4))) (pss_cons (ps_expr (pe_meth (pv 0) M_stop.c M_stop.m M_stop.G (hr.mono (by decide)) M_stop.b .nil pass0 (pa_cons (pe_tup (pa_cons (pv 4) (pa_cons (pe_dget hu (pe_fld (pv 0) rfl) pe_str (fun _ _ => rfl)) (pa_cons (pv 3) pa_nil)))) pa_nil)))
    (pss_one (ps_ret pe_bl))) pss_nil))))
    (pss_cons (ps_fld (pv 0) (pv 1) rfl)
    (pss_one (ps_ret pe_bl)))), ?_⟩
  refine ⟨_, rfl, l, rfl, ⟨_, SqL.of hl⟩, ?_⟩
  refine for_list (K := K) (a := l) (xs := us) (fun i σ H' => H' = H ∧ firstBad (tl.drop i) = firstBad tl ∧ ∃ y2 y3 y4, σ = [some (.ref p), some (.ref l), y2, y3, y4]) ⟨rfl, rfl, none, none, none, rfl⟩ (fun i σ H' _ h => by obtain ⟨rfl, _⟩ := h; exact SqL.of hl) ?_ ?_
  · rintro i v σ H' hv ⟨rfl, hf, y2, y3, y4, rfl⟩
    obtain ⟨q, t, rfl, e1, e2⟩ := TouAt.get ht hv
    have hil : i < tl.length := (List.getElem?_eq_some_iff.mp e1).1
    have hd : tl.drop i = t :: tl.drop (i + 1) := by
      rw [List.drop_eq_getElem_cons hil]
      have : tl[i] = t := Option.some.inj ((List.getElem?_eq_getElem hil).symm.trans e1)
      rw [this]
    rw [hd, firstBad_cons] at hf
    refine ⟨q, _, rfl, SqT.of e2, rfl, _, _, rfl, _, _, rfl, rfl, ?_⟩
    refine ⟨_, rfl, _, rfl, t, rfl, ?_⟩
    cases e : barM t with
    | none =>
      rw [e] at hf
      refine ⟨_, rfl, _, rfl, ifN (fun h => absurd rfl (of_decide_eq_false h)) (fun _ => ?_)⟩
      exact ⟨rfl, hf, _, _, _, rfl⟩
    | some wy =>
      rw [e] at hf
      refine ⟨_, rfl, _, rfl, ifN (fun _ => ?_) (fun h => by cases (of_decide_eq_true h))⟩
      have em : mayM x tl = (false, { x with stop := some (wy, [x.pc, t.2]) }) := by
        unfold mayM
        rw [← hf]
      rw [em] at k
      exact ⟨_, rfl, p, A.dx, _, rfl, hp, bN_stop, _, rfl, _, rfl, p, CB, A.dx, _, _, rfl, hp, T.cB, T.n_registers, bF_reg, A.r, _, rfl, dg (k := Sum.inr "pc") B.hr rG_pc, _, rfl, (by show 3 ≤ sizeLine; decide), fun q2 nq => ⟨H0, p, q2, x, wy, [x.pc, t.2], rfl, ⟨A, ts, ls, B.more nq⟩, upd_same, fun H2 R2 => k _ R2⟩⟩
  · rintro σ H' ⟨rfl, hf, y2, y3, y4, rfl⟩
    rw [TouAt.len ht, List.drop_length] at hf
    have em : mayM x tl = (true, x) := by
      unfold mayM
      rw [← hf]
      rfl
    rw [em] at k
    refine ⟨_, rfl, _, rfl, p, CB, A.dx, _, rfl, hp, T.cB, T.n_touched, (by show 13 < 1000; decide), ?_⟩
    rw [bP_tou]
    exact k _ ⟨A, ts, ls, B.fld (z := x.zero) (le := x.lets) (as := x.asleep) (bt := x.beat) (sv := sv) (la := x.la) (tv := .ref l) (dv := dv) hz⟩
abbrev sMcoming : Stmt := inClass (topS 64) 4
def scMcomingN : List Str := ["self", "called"]
theorem scMcoming : FnScope scMcomingN ["self"] (defScope sMcoming) := ⟨rfl, rfl, rfl, by decide +kernel, rfl, by decide +kernel, by decide +kernel⟩
theorem ok_Mcoming {f : Addr} {fd : FuncData} {fM_called : Addr} {dM_called : FuncData} (F : Fun K "coming" "Board.coming" sMcoming f fd) (T : Tx K mg CB CM)
    (M_called : CalM P w K mg base CM 1 "called_flags" ["self"] (spMCall CM) fM_called dM_called) : FnOk P w K mg base CX0 2 f fd ["self"] (spComing CB CM) := by
  refine F.ok scMcoming (fun vs H Q E h => by obtain ⟨_, _, _, rfl, _⟩ := h; rfl) (fun cdv A outer s H vs Q E hr h => ?_)
  have hu := hu_of hr
  obtain ⟨H0, p, x, rfl, R, q⟩ := h
  obtain ⟨A, ts, ls, B⟩ := R
  obtain ⟨sv, tv, dv, hp, hz⟩ := B.hp
  refine ⟨_, (pss_cons (ps_if (pt_cmp (pc_notN (pe_fld (pv 0) rfl))) (pss_one (ps_ret pe_str)) pss_nil)
    (pss_cons (ps_set (i := 1) scMcoming.nd rfl (.inl rfl) (pe_cmpR op_ne (pe_meth0 (pe_fld (pv 0) rfl) M_called.c M_called.m M_called.G (hr.mono (by decide)) M_called.b .nil pass0) pe_int (nomark _)))
    (pss_cons (ps_if (PW.pt (pw_and (pt_val (pe_fld (pv 0) rfl)) (pw_and1 (pt_not (pt_val (pv 1)))))) (pss_one (ps_ret pe_str)) pss_nil)
    (pss_cons (ps_if (PW.pt (pw_and (pt_val (pe_fld (pv 0) rfl)) (pw_and1 (pt_val (pv 1))))) (pss_one (ps_ret pe_str)) pss_nil)
    (pss_one (ps_ret pe_str)))))), ?_⟩
  unfold comingM at q
  refine ⟨_, rfl, p, CB, A.dx, _, _, rfl, hp, T.cB, T.n_stopped, bF_stop, _, rfl, ?_⟩
  cases es : x.stop with
  | some r =>
    rw [es] at hz q
    obtain ⟨q1, rfl, hq1⟩ := hz
    refine ifN (fun _ => ?_) (fun h => by cases (of_decide_eq_true h))
    rw [if_pos (by intro z; cases z)] at q
    exact q
  | none =>
    rw [es] at hz q
    obtain rfl : sv = V.non := hz
    refine ifN (fun h => absurd rfl (of_decide_eq_false h)) (fun _ => ?_)
    rw [if_neg (fun z => z rfl)] at q
    refine ⟨_, rfl, p, CB, A.dx, _, _, rfl, hp, T.cB, T.n_memory, bF_mem, A.m, A.dm, _, rfl, B.hm, mN_called, A.m, A.dm, A.w, A.s, _, rfl, B.mem, rfl, ?_⟩
    have ec : decide (V.int (Builtin.bitAnd (rd x.mem 770) (rd x.mem 771)) = V.int 0) = decide (calledM x = 0) := by
      by_cases h : calledM x = 0
      · rw [decide_eq_true h]; exact decide_eq_true (congrArg V.int h)
      · rw [decide_eq_false h]; exact decide_eq_false fun z => h (V.int.inj z)
    rw [ec]
    refine ⟨_, rfl, p, CB, A.dx, _, _, rfl, hp, T.cB, T.n_asleep, bF_asleep, _, rfl, ifB (fun ha => ?_) (fun ha => ?_)⟩
    · refine ⟨_, rfl, _, rfl, ?_⟩
      by_cases hc : calledM x = 0
      · rw [if_pos ⟨ha, hc⟩] at q
        rw [decide_eq_true hc]
        exact q
      · rw [if_neg (fun z => hc z.2)] at q
        rw [decide_eq_false hc]
        refine ⟨_, rfl, p, CB, A.dx, _, _, rfl, hp, T.cB, T.n_lets, bF_lets, _, rfl, ifB (fun hl => ?_) (fun hl => ?_)⟩
        · rw [if_pos ⟨hl, hc⟩] at q
          exact ⟨_, rfl, _, rfl, q⟩
        · rw [if_neg (fun z => by rw [hl] at z; cases z.1)] at q
          exact q
    · rw [if_neg (fun z => by rw [ha] at z; cases z.1)] at q
      refine ⟨_, rfl, p, CB, A.dx, _, _, rfl, hp, T.cB, T.n_lets, bF_lets, _, rfl, ifB (fun hl => ?_) (fun hl => ?_)⟩
      · refine ⟨_, rfl, _, rfl, ?_⟩
        by_cases hc : calledM x = 0
        · rw [if_neg (fun z => z.2 hc)] at q
          rw [decide_eq_true hc]
          exact q
        · rw [if_pos ⟨hl, hc⟩] at q
          rw [decide_eq_false hc]
          exact q
      · rw [if_neg (fun z => by rw [hl] at z; cases z.1)] at q
        exact q
end
end Bh

/-! Interrupts, deeds, turns. -/
namespace Bh
open PySem PySem.Spec PyProof.Rows L2
def PcOk (x : Bd) : Prop := 0 ≤ x.pc → x.pc < 768 → 0 ≤ rd x.mem x.pc
def spBegin (CB CM : Addr) : Sp := fun vs H Q _ => ∃ (H0 : Hp) (p : Addr) (x : Bd), vs = [.ref p] ∧ BoardAt CB CM H0 H p x ∧ x.sent.length < 900000 ∧ ∀ H', BoardAt CB CM H0 H' p (intM x).2 → Q (.str (intM x).1) H'
def spDeed (CB CM : Addr) : Sp := fun vs H Q _ => ∃ (H0 : Hp) (p : Addr) (x : Bd), vs = [.ref p] ∧ BoardAt CB CM H0 H p x ∧ x.sent.length < 900000 ∧ PcOk x ∧ ∀ H', BoardAt CB CM H0 H' p (deedM x).2 → Q (.str (deedM x).1) H'
def spTurn (CB CM : Addr) : Sp := fun vs H Q _ => ∃ (H0 : Hp) (p : Addr) (x : Bd), vs = [.ref p] ∧ BoardAt CB CM H0 H p x ∧ x.sent.length < 900000 ∧ PcOk x ∧ ∀ H', BoardAt CB CM H0 H' p (turnM x).2 → Q (.str (turnM x).1) H'
structure DoF (P : Program) (w : World) (K : PySem.W.Frag) (mg : Str → Option Value) (base : Heap) (CB CM : Addr) (adr : Nat → Addr) (fdr : Nat → FuncData) : Prop where
  G : ∀ op, 1 ≤ op → op < 23 → FnOk P w K mg base CX0 4 (adr op) (fdr op) ["board", "x", "words"] (spDo CB CM op)
  kp : ∀ op, 1 ≤ op → op < 23 → PySem.W.keepIn K (.ref (adr op)) = true
  b : ∀ op, 1 ≤ op → op < 23 → Binds K (fdr op) ["board", "x", "words"] []
  D : ∃ a, mg "DOINGS" = some (.ref a) ∧ ∀ op, 1 ≤ op → op < 23 → KDct K w a (nmOf op) (.ref (adr op))
theorem iteb {c : Bool} {Q : V → Hp → Prop} {H : Hp} {σ : L2.St} (h : tC (.int (b2n c)) σ H Q) : if c = true then tC (.int 1) σ H Q else tC (.int 0) σ H Q := by
  cases c with
  | true => exact h
  | false => exact h
theorem putWM_zero (a v : Int) (x : Bd) : (putWM a v x).zero = x.zero := by
  unfold putWM sendM
  split <;> rfl
theorem putWM_sent (a v : Int) (x : Bd) : (putWM a v x).sent.length ≤ x.sent.length + 1 := by
  unfold putWM sendM
  split
  · show (x.sent ++ [(x.beat, v)]).length ≤ _
    rw [List.length_append]
    exact Nat.le_refl _
  · exact Nat.le_succ _
theorem kS_r (b : Bool) : decide (V.str (kS b) = V.str "r") = !b := by
  cases b with
  | true => exact ne_wr
  | false => exact decide_eq_true rfl
theorem nm_at {op : Nat} (h : op < 23) : atI (opN.map V.str) (op : Int) = some (.str (nmOf op)) := by
  have hj : op < opN.length := h
  refine atI_nat ?_
  rw [List.getElem?_map, List.getElem?_eq_getElem hj]
  unfold nmOf
  rw [List.getD_eq_getElem?_getD, List.getElem?_eq_getElem hj]
  rfl
theorem nm_mark : ∀ op : Nat, op < 23 → decide (V.str (nmOf op) = V.str "mark") = decide (op = 0) := by decide +kernel
theorem reads_len (ts : List (Bool × Int)) (m : List Int) : (readsM m ts).length = (ts.filter fun t => !t.1).length := List.length_map ..
theorem nR_ok (op : Nat) (n b sp : Int) (m : List Int) (h : op < 23) : (readsM m (touM op n b sp)).length = nR op := by
  match op, h with

  | 0, _ => rfl
  | 1, _ => rfl
  | 2, _ => rfl
  | 3, _ => rfl
  | 4, _ => rfl
  | 5, _ => rfl
  | 6, _ => rfl
  | 7, _ => rfl
  | 8, _ => rfl
  | 9, _ => rfl
  | 10, _ => rfl
  | 11, _ => rfl
  | 12, _ => rfl
  | 13, _ => rfl
  | 14, _ => rfl
  | 15, _ => rfl
  | 16, _ => rfl
  | 17, _ => rfl
  | 18, _ => rfl
  | 19, _ => rfl
  | 20, _ => rfl
  | 21, _ => rfl
  | 22, _ => rfl
  | n + 23, h => omega
section
variable {P : Program} {w : World} {K : PySem.W.Frag} {mg : Str → Option Value} {base : Heap} {CB CM : Addr}
abbrev sMbegin : Stmt := inClass (topS 64) 6
def scMbeginN : List Str := ["self", "pc", "sp", "flags"]
theorem scMbegin : FnScope scMbeginN ["self"] (defScope sMbegin) := ⟨rfl, rfl, rfl, by decide +kernel, rfl, by decide +kernel, by decide +kernel⟩
theorem ok_Mbegin {f : Addr} {fd : FuncData} {fM_called : Addr} {dM_called : FuncData} {fM_may : Addr} {dM_may : FuncData} {fM_pass : Addr} {dM_pass : FuncData} {fM_pbt : Addr} {dM_pbt : FuncData} (F : Fun K "begin_interrupt" "Board.begin_interrupt" sMbegin f fd) (T : Tx K mg CB CM)
    (M_called : CalM P w K mg base CM 1 "called_flags" ["self"] (spMCall CM) fM_called dM_called)
    (M_may : CalM P w K mg base CB 2 "may_touch" ["self", "touches"] (spMay CB CM) fM_may dM_may)
    (M_pass : CalM P w K mg base CB 3 "pass_beats" ["self", "many"] (spPass CB CM) fM_pass dM_pass)
    (M_pbt : CalM P w K mg base CB 3 "put_by_turn" ["self", "address", "word"] (spPw CB CM) fM_pbt dM_pbt) : FnOk P w K mg base CX0 4 f fd ["self"] (spBegin CB CM) := by
  refine F.ok scMbegin (fun vs H Q E h => by obtain ⟨_, _, _, rfl, _⟩ := h; rfl) (fun cdv A outer s H vs Q E hr h => ?_)
  have hu := hu_of hr
  obtain ⟨t_INTERRUPT_BEATS, g_INTERRUPT_BEATS⟩ := T.g_INTERRUPT_BEATS
  obtain ⟨t_LINE_PC, g_LINE_PC⟩ := T.g_LINE_PC
  obtain ⟨t_TIMER_FLAG, g_TIMER_FLAG⟩ := T.g_TIMER_FLAG
  obtain ⟨t_TIMER_PC, g_TIMER_PC⟩ := T.g_TIMER_PC
  obtain ⟨H0, p, x, rfl, R, hsl, k⟩ := h
  obtain ⟨A, ts, ls, B⟩ := R
  obtain ⟨sv, tv, dv, hp, hz⟩ := B.hp
  refine ⟨_, (pss_cons (ps_set (i := 1) scMbegin.nd rfl (.inl rfl) (pe_dget hu (pe_fld (pv 0) rfl) pe_str (fun _ _ => rfl)))
    (pss_cons (ps_set (i := 2) scMbegin.nd rfl (.inl rfl) (pe_dget hu (pe_fld (pv 0) rfl) pe_str (fun _ _ => rfl)))
    (pss_cons (ps_set (i := 3) scMbegin.nd rfl (.inl rfl) (pe_meth0 (pe_fld (pv 0) rfl) M_called.c M_called.m M_called.G (hr.mono (by decide)) M_called.b .nil pass0))
    (pss_cons (ps_if (pt_not (pt_val (pe_meth (pv 0) M_may.c M_may.m M_may.G (hr.mono (by decide)) M_may.b .nil pass0 (pa_cons (pe_lst (pa_cons (pe_tup (pa_cons pe_str (pa_cons (pv 2) pa_nil))) (pa_cons (pe_tup (pa_cons pe_str (pa_cons (pe_op op_sub (pv 2) pe_int) pa_nil))) pa_nil))) pa_nil)))) (pss_one (ps_ret pe_str)) pss_nil)
    (pss_cons (ps_expr (pe_meth (pv 0) M_pbt.c M_pbt.m M_pbt.G (hr.mono (by decide)) M_pbt.b .nil pass0 (pa_cons (pv 2) (pa_cons (pv 1) pa_nil))))
    (pss_cons (ps_expr (pe_meth (pv 0) M_pbt.c M_pbt.m M_pbt.G (hr.mono (by decide)) M_pbt.b .nil pass0 (pa_cons (pe_op op_sub (pv 2) pe_int) (pa_cons (pe_ifExp (pt_val (pe_fld (pv 0) rfl)) pe_int pe_int) pa_nil))))
    (pss_cons (ps_dput hu (pe_fld (pv 0) rfl) pe_str (pe_op op_sub (pv 2) pe_int) rfl)
    (pss_cons (ps_fld (pv 0) pe_bl rfl)
    (pss_cons (ps_dput hu (pe_fld (pv 0) rfl) pe_str (pe_ifExp (pt_truth (pe_op op_and (pv 3) (pgI g_TIMER_FLAG)) (fun _ => rfl)) (pgI g_TIMER_PC) (pgI g_LINE_PC)) rfl)
    (pss_cons (ps_expr (pe_meth (pv 0) M_pass.c M_pass.m M_pass.G (hr.mono (by decide)) M_pass.b .nil pass0 (pa_cons (pgI g_INTERRUPT_BEATS) pa_nil)))
    (pss_one (ps_ret pe_str)))))))))))), ?_⟩
  refine ⟨_, rfl, p, CB, A.dx, _, _, rfl, hp, T.cB, T.n_registers, bF_reg, A.r, _, rfl, dg (k := Sum.inr "pc") B.hr rG_pc, _, rfl, p, CB, A.dx, _, _, rfl, hp, T.cB, T.n_registers, bF_reg, A.r, _, rfl, dg (k := Sum.inr "sp") B.hr rG_sp, _, rfl, p, CB, A.dx, _, _, rfl, hp, T.cB, T.n_memory, bF_mem, A.m, A.dm, _, rfl, B.hm, mN_called, A.m, A.dm, A.w, A.s, _, rfl, B.mem, ?_⟩
  refine ⟨_, rfl, p, A.dx, _, rfl, hp, bN_may, _, rfl, (by show 2 ≤ sizeLine; decide), fun t1 n1 => ⟨_, rfl, _, _, rfl, rfl, (by show 2 ≤ sizeLine; decide), fun t2 n2 => ⟨(by show 2 ≤ sizeLine; decide), fun l nl => ⟨H0, p, l, x, [.ref t1, .ref t2], [(true, x.sp), (true, x.sp - 1)], rfl, ⟨A, ts, ls, ((B.more n1).more n2).more nl⟩, upd_same, .cons ⟨t1, rfl, same_upd' nl _ _ (same_upd' n2 _ _ upd_same)⟩ (.cons ⟨t2, rfl, same_upd' nl _ _ upd_same⟩ .nil), fun H2 R2 => ?_⟩⟩⟩⟩
  cases e : firstBad [(true, x.sp), (true, x.sp - 1)] with
  | some r =>
    have em : mayM x [(true, x.sp), (true, x.sp - 1)] = (false, { x with stop := some (r.1, [x.pc, r.2]) }) := by
      unfold mayM
      rw [e]
    have ei : intM x = (("stopped" : Str), { x with stop := some (r.1, [x.pc, r.2]) }) := by
      unfold intM
      rw [e]
      rfl
    rw [em] at R2 ⊢
    rw [ei] at k
    exact ⟨_, rfl, ifN (fun _ => k _ R2) (fun h => by cases h)⟩
  | none =>
    have em : mayM x [(true, x.sp), (true, x.sp - 1)] = (true, x) := by
      unfold mayM
      rw [e]
    have ei : intM x = (("interrupt" : Str), begunM x) := by
      unfold intM
      rw [e]
    rw [em] at R2 ⊢
    rw [ei] at k
    refine ⟨_, rfl, ifN (fun h => by cases h) (fun _ => ?_)⟩
    have tok := firstBad_ok e
    obtain ⟨t0, t1'⟩ := barM_ok (tok (true, x.sp) List.mem_cons_self)
    obtain ⟨u0, u1⟩ := barM_ok (tok (true, x.sp - 1) (List.mem_cons_of_mem _ List.mem_cons_self))
    obtain ⟨A2, ts2, ls2, B2⟩ := R2
    obtain ⟨sv2, tv2, dv2, hp2, hz2⟩ := B2.hp
    refine ⟨_, rfl, p, A2.dx, _, rfl, hp2, bN_pbt, _, rfl, _, rfl, H0, p, x, x.sp, x.pc, rfl, ⟨A2, ts2, ls2, B2⟩, by omega, t0, t1', fun H3 R3 => ?_⟩
    obtain ⟨A3, ts3, ls3, B3⟩ := R3
    obtain ⟨sv3, tv3, dv3, hp3, hz3⟩ := B3.hp
    have hs3 := putWM_sent x.sp x.pc x
    refine ⟨_, rfl, p, A3.dx, _, rfl, hp3, bN_pbt, _, rfl, _, _, rfl, rfl, _, rfl, p, CB, A3.dx, _, _, rfl, hp3, T.cB, T.n_zero, bF_zero, _, rfl, ?_⟩
    refine iteb ?_
    rw [putWM_zero]
    refine ⟨H0, p, _, x.sp - 1, b2n x.zero, rfl, ⟨A3, ts3, ls3, B3⟩, by omega, u0, u1, fun H4 R4 => ?_⟩
    generalize hy : putWM (x.sp - 1) (b2n x.zero) (putWM x.sp x.pc x) = y at *
    obtain ⟨A4, ts4, ls4, B4⟩ := R4
    obtain ⟨sv4, tv4, dv4, hp4, hz4⟩ := B4.hp
    refine ⟨_, rfl, _, _, rfl, rfl, _, rfl, p, CB, A4.dx, _, _, rfl, hp4, T.cB, T.n_registers, bF_reg, A4.r, _, rfl, dp (k := Sum.inr "sp") B4.hr rP_sp, ?_⟩
    have B5 := B4.regs (a := y.a) (b := y.b) (pc := y.pc) (sp := x.sp - 2)
    obtain ⟨sv5, tv5, dv5, hp5, hz5⟩ := B5.hp
    refine ⟨_, rfl, p, CB, A4.dx, _, rfl, hp5, T.cB, T.n_lets, (by show 13 < 1000; decide), ?_⟩
    rw [bP_lets]
    have B6 := B5.fld (z := y.zero) (le := false) (as := y.asleep) (bt := y.beat) (sv := sv5) (la := y.la) (tv := tv5) (dv := dv5) hz5
    obtain ⟨sv6, tv6, dv6, hp6, hz6⟩ := B6.hp
    have fin : ∀ pc' : Int, pc' = (if Builtin.bitAnd (calledM x) 1 ≠ 0 then 1 else 2) → ∀ H7, BoardAt CB CM H0 H7 p { y with sp := x.sp - 2, lets := false, pc := pc' } → ∀ H8, BoardAt CB CM H0 H8 p (passM 3 { y with sp := x.sp - 2, lets := false, pc := pc' }) → Q (.str "interrupt") H8 := fun pc' epc H7 _ H8 R8 => by
      refine k _ ?_
      unfold begunM
      rw [hy]
      subst epc
      exact R8
    have step : ∀ pc' : Int, pc' = (if Builtin.bitAnd (calledM x) 1 ≠ 0 then 1 else 2) → Bp CB CM H0 (upd _ A4.r (.dK (regD y.a y.b pc' (x.sp - 2)))) p A4 ts4 ls4 { y with sp := x.sp - 2, lets := false, pc := pc' } := fun pc' _ => B6.regs (a := y.a) (b := y.b) (pc := pc') (sp := x.sp - 2)
    refine ⟨_, rfl, _, _, rfl, rfl, _, rfl, ifB (fun hb => ?_) (fun hb => ?_)⟩
    · have e1 : (1 : Int) = (if Builtin.bitAnd (calledM x) 1 ≠ 0 then 1 else 2) := (if_pos (fun z => by
        have hb' : (Builtin.bitAnd (calledM x) 1 != 0) = true := hb
        rw [z] at hb'
        cases hb')).symm
      refine ⟨_, rfl, p, CB, A4.dx, _, _, rfl, hp6, T.cB, T.n_registers, bF_reg, A4.r, _, rfl, dp (k := Sum.inr "pc") B6.hr rP_pc, ?_⟩
      have B7 := step 1 e1
      obtain ⟨sv7, tv7, dv7, hp7, hz7⟩ := B7.hp
      exact ⟨_, rfl, p, A4.dx, _, rfl, hp7, bN_pass, H0, p, _, 3, rfl, ⟨A4, ts4, ls4, B7⟩, by decide, fun H8 R8 => fin 1 e1 _ ⟨A4, ts4, ls4, B7⟩ H8 R8⟩
    · have e1 : (2 : Int) = (if Builtin.bitAnd (calledM x) 1 ≠ 0 then 1 else 2) := (if_neg (fun z => z (by
        have hb' : (Builtin.bitAnd (calledM x) 1 != 0) = false := hb
        simpa using hb'))).symm
      refine ⟨_, rfl, p, CB, A4.dx, _, _, rfl, hp6, T.cB, T.n_registers, bF_reg, A4.r, _, rfl, dp (k := Sum.inr "pc") B6.hr rP_pc, ?_⟩
      have B7 := step 2 e1
      obtain ⟨sv7, tv7, dv7, hp7, hz7⟩ := B7.hp
      exact ⟨_, rfl, p, A4.dx, _, rfl, hp7, bN_pass, H0, p, _, 3, rfl, ⟨A4, ts4, ls4, B7⟩, by decide, fun H8 R8 => fin 2 e1 _ ⟨A4, ts4, ls4, B7⟩ H8 R8⟩
abbrev sMdo : Stmt := inClass (topS 64) 7
def scMdoN : List Str := ["self", "pc", "op", "x", "name", "touches", "words", "doing", "kind", "address"]
theorem scMdo : FnScope scMdoN ["self"] (defScope sMdo) := ⟨rfl, rfl, rfl, by decide +kernel, rfl, by decide +kernel, by decide +kernel⟩
theorem ok_Mdo {f : Addr} {fd : FuncData} {fF_tou : Addr} {dF_tou : FuncData} {fM_may : Addr} {dM_may : FuncData} {fM_pass : Addr} {dM_pass : FuncData} {fM_read : Addr} {dM_read : FuncData} {fM_stop : Addr} {dM_stop : FuncData} (F : Fun K "do_deed" "Board.do_deed" sMdo f fd) (T : Tx K mg CB CM)
    (F_tou : CalF P w K mg base 1 "touches_of" ["name", "x", "registers"] (spTou) fF_tou dF_tou)
    (M_may : CalM P w K mg base CB 2 "may_touch" ["self", "touches"] (spMay CB CM) fM_may dM_may)
    (M_pass : CalM P w K mg base CB 3 "pass_beats" ["self", "many"] (spPass CB CM) fM_pass dM_pass)
    (M_read : CalM P w K mg base CM 1 "read" ["self", "address", "pc"] (spMRead CM) fM_read dM_read)
    (M_stop : CalM P w K mg base CB 1 "stop" ["self", "stop"] (spStop CB CM) fM_stop dM_stop)
    {adr : Nat → Addr} {fdr : Nat → FuncData} (FD : DoF P w K mg base CB CM adr fdr) : FnOk P w K mg base CX0 5 f fd ["self"] (spDeed CB CM) := by
  refine F.ok scMdo (fun vs H Q E h => by obtain ⟨_, _, _, rfl, _⟩ := h; rfl) (fun cdv A outer s H vs Q E hr h => ?_)
  have hu := hu_of hr
  obtain ⟨t_RAM_END, g_RAM_END⟩ := T.g_RAM_END
  obtain ⟨t_X_SPAN, g_X_SPAN⟩ := T.g_X_SPAN
  have z_divmod := T.z_divmod
  have z_len := T.z_len
  obtain ⟨H0, p, x, rfl, R, hsl, hpc, k⟩ := h
  obtain ⟨A, ts, ls, B⟩ := R
  obtain ⟨sv, tv, dv, hp, hz⟩ := B.hp
  obtain ⟨aO, g_OP_NAMES, vO⟩ := T.g_OP_NAMES
  obtain ⟨aD, g_DOINGS, vD⟩ := FD.D
  obtain ⟨op1, eop, o1, o2⟩ : ∃ op1 : Nat, (1 ≤ opM x → opM x < 23 → op1 = opM x) ∧ 1 ≤ op1 ∧ op1 < 23 := by
    by_cases h : 1 ≤ opM x ∧ opM x < 23
    · exact ⟨opM x, fun _ _ => rfl, h.1, h.2⟩
    · exact ⟨1, fun a b => absurd ⟨a, b⟩ h, by decide, by decide⟩
  refine ⟨_, (pss_cons (ps_set (i := 1) scMdo.nd rfl (.inr rfl) (pe_dget hu (pe_fld (pv 0) rfl) pe_str (fun _ _ => rfl)))
    (pss_cons (ps_if (pt_not (pt_chain op_le op_lt pe_int (pv 1) (pgI g_RAM_END))) (pss_one (ps_ret (pe_meth (pv 0) M_stop.c M_stop.m M_stop.G (hr.mono (by decide)) M_stop.b .nil pass0 (pa_cons (pe_tup (pa_cons pe_str (pa_cons (pv 1) (pa_cons (pv 1) pa_nil)))) pa_nil)))) pss_nil)
    (pss_cons (ps_asg (pe_callB call_divmod (by rfl) z_divmod (by decide +kernel) (pa_cons (pe_meth (pe_fld (pv 0) rfl) M_read.c M_read.m M_read.G (hr.mono (by decide)) M_read.b .nil pass0 (pa_cons (pv 1) (pa_cons (pv 1) pa_nil))) (pa_cons (pgI g_X_SPAN) pa_nil))) (pg_tup rfl (pgs_cons (pg_name (i := 2) scMdo.nd rfl (.inl rfl)) (pgs_cons (pg_name (i := 3) scMdo.nd rfl (.inl rfl)) pgs_nil))))
    (pss_cons (ps_if (pt_cmpR op_ge (pv 2) (pe_callB call_len_seq (by rfl) z_len PySem.boot_len (pa_cons (pgR g_OP_NAMES) pa_nil)) (nomark _)) (pss_one (ps_ret (pe_meth (pv 0) M_stop.c M_stop.m M_stop.G (hr.mono (by decide)) M_stop.b .nil pass0 (pa_cons (pe_tup (pa_cons pe_str (pa_cons (pv 1) pa_nil))) pa_nil)))) pss_nil)
    (pss_cons (ps_set (i := 4) scMdo.nd rfl (.inl rfl) (pe_ix ix_tup (pgR g_OP_NAMES) (pv 2) (fun _ _ => rfl)))
    (pss_cons (ps_if (pt_cmpR op_eq (pv 4) pe_str (nomark _)) (pss_one (ps_ret (pe_meth (pv 0) M_stop.c M_stop.m M_stop.G (hr.mono (by decide)) M_stop.b .nil pass0 (pa_cons (pe_tup (pa_cons pe_str (pa_cons (pv 1) pa_nil))) pa_nil)))) pss_nil)
    (pss_cons (ps_set (i := 5) scMdo.nd rfl (.inl rfl) (pe_call F_tou.G (hr.mono (by decide)) (by rfl) F_tou.g F_tou.kp F_tou.b .nil pass0 (pa_cons (pv 4) (pa_cons (pv 3) (pa_cons (pe_fld (pv 0) rfl) pa_nil)))))
    (pss_cons (ps_if (pt_not (pt_val (pe_meth (pv 0) M_may.c M_may.m M_may.G (hr.mono (by decide)) M_may.b .nil pass0 (pa_cons (pv 5) pa_nil)))) (pss_one (ps_ret pe_str)) pss_nil)
    (pss_cons (ps_setLc (i := 6) (own := [("kind", 8), ("address", 9)]) (g := gTup K 2 (gCons (gName 8) (gCons (gName 9) gNil))) (by rfl) scMdo.nd rfl rfl rfl (pi_list (pv 5)) (blkOk_by (own := [("kind", 8), ("address", 9)]) (N := scMdoN) (sc := defScope sMdo) (by decide +kernel)) (fun _ _ _ _ _ => (gtK (K := K) (n := 2) (by rfl) (by rfl) (pgs_cons (pg_name (i := 8) scMdo.nd rfl (.inl rfl)) (pgs_cons (pg_name (i := 9) scMdo.nd rfl (.inl rfl)) pgs_nil)) (by rfl) (by rfl))) (fun _ _ _ _ _ => (pts_one (pt_cmpR op_eq (pv 8) pe_str (nomark _)))) (fun _ _ _ _ _ => (pe_meth (pe_fldK (K := K) (by rfl) (pv 0) (by rfl)) M_read.c M_read.m M_read.G (hr.mono (by decide)) M_read.b .nil pass0 (pa_cons (pv 9) (pa_cons (pv 1) pa_nil)))))
    (pss_cons (ps_if (pt_truth (pv 6) (fun _ => rfl)) (pss_cons (ps_asg (pe_op op_xor (pe_ix ix_list (pv 6) pe_int (fun _ _ => rfl)) (pe_fld (pv 0) rfl)) (pg_sub (pv 6) pe_int set_list))
    (pss_one (ps_fld (pv 0) pe_int rfl))) pss_nil)
    (pss_cons (ps_fld (pv 0) (pv 4) rfl)
    (pss_cons (ps_dput hu (pe_fld (pv 0) rfl) pe_str (pe_op op_add (pv 1) pe_int) rfl)
    (pss_cons (ps_set (i := 7) scMdo.nd rfl (.inl rfl) (pe_ix ix_kdict (pgR g_DOINGS) (pv 4) (fun _ _ => rfl)))
    (pss_cons (ps_expr (pe_callL (i := 7) (FD.G op1 o1 o2) (hr.mono (by decide)) rfl (.inl rfl) (FD.kp op1 o1 o2) (FD.b op1 o1 o2) .nil pass0 (pa_cons (pv 0) (pa_cons (pv 3) (pa_cons (pv 6) pa_nil)))))
    (pss_cons (ps_expr (pe_meth (pv 0) M_pass.c M_pass.m M_pass.G (hr.mono (by decide)) M_pass.b .nil pass0 (pa_cons (pe_op op_add pe_int (pe_callB call_len_seq (by rfl) z_len PySem.boot_len (pa_cons (pv 5) pa_nil))) pa_nil)))
    (pss_one (ps_ret pe_str))))))))))))))))), ?_⟩
  have far : ¬ (0 ≤ x.pc ∧ x.pc < 768) → deedM x = (("stopped" : Str), { x with stop := some ("far", [x.pc, x.pc]) }) := fun h => by
    unfold deedM stopAt
    rw [if_pos h]
  refine ⟨_, rfl, p, CB, A.dx, _, _, rfl, hp, T.cB, T.n_registers, bF_reg, A.r, _, rfl, dg (k := Sum.inr "pc") B.hr rG_pc, ?_⟩
  refine ⟨_, rfl, _, _, rfl, rfl, _, rfl, ifB (fun h0 => ?_) (fun h0 => ⟨_, rfl, ?_⟩)⟩
  rotate_left
  · rw [far (fun z => of_decide_eq_false h0 z.1)] at k
    refine ⟨_, rfl, p, A.dx, _, rfl, hp, bN_stop, _, rfl, _, rfl, (by show 3 ≤ sizeLine; decide), fun q nq => ⟨H0, p, q, x, "far", [x.pc, x.pc], rfl, ⟨A, ts, ls, B.more nq⟩, upd_same, fun H2 R2 => ?_⟩⟩
    exact k _ R2
  refine ⟨_, _, rfl, rfl, _, rfl, ifN (fun h1 => ?_) (fun h1 => ?_)⟩
  · rw [far (fun z => of_decide_eq_false h1 z.2)] at k
    refine ⟨_, rfl, p, A.dx, _, rfl, hp, bN_stop, _, rfl, _, rfl, (by show 3 ≤ sizeLine; decide), fun q nq => ⟨H0, p, q, x, "far", [x.pc, x.pc], rfl, ⟨A, ts, ls, B.more nq⟩, upd_same, fun H2 R2 => ?_⟩⟩
    exact k _ R2
  have h0 := of_decide_eq_true h0
  have h1 := of_decide_eq_true h1
  have hw := hpc h0 h1
  refine ⟨_, rfl, p, CB, A.dx, _, _, rfl, hp, T.cB, T.n_memory, bF_mem, A.m, A.dm, _, rfl, B.hm, mN_read, _, rfl, _, rfl, A.m, A.dm, A.w, A.s, x.mem, x.pc, x.pc, rfl, B.mem, h0, by omega, ?_⟩
  refine ⟨_, _, rfl, ⟨by decide, by decide⟩, fun t nt => ?_⟩
  refine ⟨t, _, rfl, SqT.of upd_same, rfl, _, _, rfl, _, _, rfl, rfl, ?_⟩
  have B1 := B.more (o := .tup [.int (rd x.mem x.pc / 1024), .int (rd x.mem x.pc % 1024)]) nt
  clear B hp hz sv tv dv
  generalize upd H t (.tup [.int (rd x.mem x.pc / 1024), .int (rd x.mem x.pc % 1024)]) = H1 at *
  have B := B1
  obtain ⟨sv, tv, dv, hp, hz⟩ := B.hp
  have eop0 : rd x.mem x.pc / 1024 = ((opM x : Nat) : Int) := by
    unfold opM
    have := Int.ediv_nonneg hw (show (0 : Int) ≤ 1024 by decide)
    omega
  rw [eop0]
  refine ⟨_, rfl, aO, _, rfl, .inr (vO _), _, _, rfl, rfl, _, rfl, ifB (fun h => ?_) (fun h => ?_)⟩
  · have h23 : 23 ≤ opM x := by
      have := of_decide_eq_true h
      have e : (opN.map V.str).length = 23 := rfl
      rw [e] at this
      omega
    have ed : deedM x = (("stopped" : Str), { x with stop := some ("none", [x.pc]) }) := by
      unfold deedM stopAt
      rw [if_neg (fun z => z ⟨h0, h1⟩), if_pos h23]
    rw [ed] at k
    refine ⟨_, rfl, p, A.dx, _, rfl, hp, bN_stop, _, rfl, (by show 2 ≤ sizeLine; decide), fun q nq => ⟨H0, p, q, x, "none", [x.pc], rfl, ⟨A, ts, ls, B.more nq⟩, upd_same, fun H2 R2 => ?_⟩⟩
    exact k _ R2
  have h23 : opM x < 23 := by
    have := of_decide_eq_false h
    have e : (opN.map V.str).length = 23 := rfl
    rw [e] at this
    omega
  refine ⟨_, rfl, aO, _, _, _, rfl, rfl, vO _, nm_at h23, ?_⟩
  refine ⟨_, rfl, rfl, _, rfl, ?_⟩
  rw [nm_mark _ h23]
  refine ifB (fun h => ?_) (fun h => ?_)
  · have hm0 := of_decide_eq_true h
    have ed : deedM x = (("stopped" : Str), { x with stop := some ("mark", [x.pc]) }) := by
      unfold deedM stopAt
      rw [if_neg (fun z => z ⟨h0, h1⟩), if_neg (by omega), if_pos hm0]
    rw [ed] at k
    refine ⟨_, rfl, p, A.dx, _, rfl, hp, bN_stop, _, rfl, (by show 2 ≤ sizeLine; decide), fun q nq => ⟨H0, p, q, x, "mark", [x.pc], rfl, ⟨A, ts, ls, B.more nq⟩, upd_same, fun H2 R2 => ?_⟩⟩
    exact k _ R2
  have hm0 := of_decide_eq_false h
  have eop1 := eop (by omega) h23
  subst eop1
  refine ⟨_, rfl, _, rfl, _, rfl, p, CB, A.dx, _, _, rfl, hp, T.cB, T.n_registers, bF_reg, nmOf (opM x), xM x, A.r, x.a, x.b, x.pc, x.sp, rfl, B.hr, fun H2 l us s2 nl hl tu => ?_⟩
  rw [touN_op _ h23] at tu
  have tu : TouAt H2 us (toM x) := tu
  have B2 := B.same s2
  obtain ⟨sv2, tv2, dv2, hp2, hz2⟩ := B2.hp
  have lp : l ≠ p := ne_of hl hp2 (by intro q; cases q)
  have lr : l ≠ A.r := ne_of hl B2.hr (by intro q; cases q)
  have lw : l ≠ A.w := fun z => by rw [z, B.hw] at nl; cases nl
  have lt : l ≠ A.t := fun z => by rw [z, B.ht] at nl; cases nl
  have lm_ : l ≠ A.m := fun z => by rw [z, B.hm] at nl; cases nl
  have ls_ : l ≠ A.s := fun z => by rw [z, B.hs] at nl; cases nl
  have ll_ : l ≠ A.l := fun z => by rw [z, B.hl] at nl; cases nl
  have B2' := B2.rebase
  have bs := B2.base_same
  have bl : baseOf H2 p A l = some (.lst us) := (B2.base_at lp lr lw lt lm_ ls_ ll_).trans hl
  have bt : TouAt (baseOf H2 p A) us (toM x) := tu.mono B2.base_tup
  generalize baseOf H2 p A = Hb at *
  refine ⟨_, rfl, p, A.dx, _, rfl, hp2, bN_may, _, rfl, Hb, p, l, x, us, toM x, rfl, ⟨A, ts, ls, B2'⟩, hl, tu, fun H3 R3 => ?_⟩
  cases e : firstBad (toM x) with
  | some r =>
    have em : mayM x (toM x) = (false, { x with stop := some (r.1, [x.pc, r.2]) }) := by
      unfold mayM
      rw [e]
    have ed : deedM x = (("stopped" : Str), { x with stop := some (r.1, [x.pc, r.2]) }) := by
      unfold deedM
      rw [if_neg (fun z => z ⟨h0, h1⟩), if_neg (by omega), if_neg hm0, e]
      rfl
    rw [em] at R3 ⊢
    rw [ed] at k
    exact ⟨_, rfl, ifN (fun _ => k _ (R3.unbase bs)) (fun h => by cases h)⟩
  | none =>
    have em : mayM x (toM x) = (true, x) := by
      unfold mayM
      rw [e]
    have ed : deedM x = (("deed" : Str), doneM x) := by
      unfold deedM
      rw [if_neg (fun z => z ⟨h0, h1⟩), if_neg (by omega), if_neg hm0, e]
    rw [em] at R3 ⊢
    rw [ed] at k
    refine ⟨_, rfl, ifN (fun h => by cases h) (fun _ => ?_)⟩
    have tok := firstBad_ok e
    obtain ⟨A3, ts3, ls3, B3⟩ := R3
    obtain ⟨sv3, tv3, dv3, hp3, hz3⟩ := B3.hp
    have l3 := B3.sm _ _ bl
    have t3 := bt.mono fun t xs e => B3.sm _ _ e
    refine ⟨_, rfl, l, rfl, ⟨_, SqL.of l3⟩, fun D nD => ?_⟩
    refine lc_list (K := K) (a := l) (xs := us) (fun i H' => Same H3 H' ∧ H' D = some (.lst ((readsM x.mem ((toM x).take i)).map V.int))) ⟨same_upd' nD, upd_same⟩ (fun i H' _ h => SqL.of (h.1 _ _ l3)) ?_ ?_
    · rintro j v H' hv ⟨sm, hD⟩
      obtain ⟨q, t, rfl, e1, e2⟩ := TouAt.get t3 hv
      have hq := sm _ _ e2
      have htk : (toM x).take (j + 1) = (toM x).take j ++ [t] := by rw [List.take_succ, e1]; rfl
      obtain ⟨i0, i1⟩ := barM_ok (tok t (List.mem_of_getElem? e1))
      refine ⟨q, _, rfl, SqT.of hq, rfl, _, _, rfl, _, _, rfl, rfl, rfl, ?_⟩
      refine ⟨_, rfl, rfl, _, rfl, ?_⟩
      rw [kS_r]
      obtain ⟨tb, ta⟩ := t
      cases tb with
      | true =>
        refine ifB (fun h => by cases h) (fun _ => ?_)
        refine ⟨sm, ?_⟩
        rw [htk]
        unfold readsM at hD ⊢
        rw [List.filter_append, List.map_append, List.map_append]
        rw [show (List.filter (fun t : Bool × Int => !t.1) [(true, ta)]) = [] from rfl, List.map_nil, List.map_nil, List.append_nil]
        exact hD
      | false =>
        refine ifB (fun _ => ?_) (fun h => by cases h)
        have Bj := B3.same sm
        obtain ⟨svj, tvj, dvj, hpj, hzj⟩ := Bj.hp
        refine ⟨_, rfl, p, CB, A3.dx, _, _, rfl, hpj, T.cB, T.n_memory, bF_mem, A3.m, A3.dm, _, rfl, Bj.hm, mN_read, _, rfl, _, rfl, A3.m, A3.dm, A3.w, A3.s, x.mem, _, _, rfl, Bj.mem, i0, i1, ?_⟩
        refine ⟨_, hD, ?_, same_of sm nD, ?_⟩
        · rw [List.length_map]
          refine small1000 ?_
          unfold readsM
          rw [List.length_map]
          refine Nat.le_trans (List.length_filter_le _ _) ?_
          rw [List.length_take]
          have := (List.getElem?_eq_some_iff.mp e1).1
          have hlen : (toM x).length ≤ 2 := touM_len _ _ _ _
          omega
        · rw [upd_same, htk]
          unfold readsM
          rw [List.filter_append, List.map_append, List.map_append]
          rfl
    · rintro H4 ⟨sm4, hD⟩
      rw [TouAt.len t3, List.take_length] at hD
      have B4 := B3.same sm4
      obtain ⟨sv4, tv4, dv4, hp4, hz4⟩ := B4.hp
      refine ⟨_, rfl, _, .inl ⟨_, SqL.of hD, rfl⟩, ifJ ?_ fun hb hB => ?_⟩
      rotate_left
      · obtain ⟨w0, wr, ew⟩ : ∃ w0 wr, readsM x.mem (toM x) = w0 :: wr := by
          cases ew : readsM x.mem (toM x) with
          | nil => rw [ew] at hb; cases hb
          | cons w0 wr => exact ⟨w0, wr, rfl⟩
        rw [ew] at hD
        have e0 : upd H4 D (.lst (((w0 :: wr).map V.int).set ((0 : Int).toNat) (.int (Builtin.bitXor w0 0)))) = H4 := by
          rw [bitXor_zero]
          exact upd_id hD
        refine ⟨_, rfl, D, _, 0, _, rfl, rfl, SqL.of hD, atI_nat (j := 0) rfl, _, rfl, p, CB, A3.dx, _, _, rfl, hp4, T.cB, T.n_bend, bF_bend, _, _, rfl, rfl, _, rfl, D, _, _, _, rfl, rfl, hD, ixN_in (by decide) (by show (0 : Int) < (((w0 :: wr).map V.int).length : Int); rw [List.length_map, List.length_cons]; omega), ?_⟩
        rw [e0]
        refine ⟨_, rfl, p, CB, A3.dx, _, rfl, hp4, T.cB, T.n_bend, (by show 13 < 1000; decide), ?_⟩
        rw [bP_bend, upd_id hp4]
        exact hB
      refine ⟨_, rfl, _, rfl, p, CB, A3.dx, _, rfl, hp4, T.cB, T.n_did, (by show 13 < 1000; decide), ?_⟩
      rw [bP_did]
      have B5 := B4.fld (z := x.zero) (le := x.lets) (as := x.asleep) (bt := x.beat) (sv := sv4) (la := x.la) (tv := tv4) (dv := .str (nmOf (opM x))) hz4
      have hD5 := hD
      rw [← upd_ne (H := H4) (o := .ins CB A3.dx (bdF A3.r A3.t A3.m A3.l x.zero x.lets x.asleep x.beat sv4 x.la tv4 (.str (nmOf (opM x))))) (ne_of hD hp4 (by intro q; cases q))] at hD5
      generalize upd H4 p (.ins CB A3.dx (bdF A3.r A3.t A3.m A3.l x.zero x.lets x.asleep x.beat sv4 x.la tv4 (.str (nmOf (opM x))))) = H5 at *
      obtain ⟨sv5, tv5, dv5, hp5, hz5⟩ := B5.hp
      refine ⟨_, rfl, _, _, rfl, rfl, _, rfl, p, CB, A3.dx, _, _, rfl, hp5, T.cB, T.n_registers, bF_reg, A3.r, _, rfl, dp (k := Sum.inr "pc") B5.hr rP_pc, ?_⟩
      have B6 := B5.regs (a := x.a) (b := x.b) (pc := x.pc + 1) (sp := x.sp)
      have hD6 := hD5
      rw [← upd_ne (H := H5) (o := .dK (regD x.a x.b (x.pc + 1) x.sp)) (ne_of hD5 B5.hr (by intro q; cases q))] at hD6
      generalize upd H5 A3.r (.dK (regD x.a x.b (x.pc + 1) x.sp)) = H6 at *
      obtain ⟨sv6, tv6, dv6, hp6, hz6⟩ := B6.hp
      refine ⟨_, rfl, aD, nmOf (opM x), _, rfl, rfl, vD (opM x) o1 o2, ?_⟩
      refine ⟨rfl, _, rfl, _, rfl, _, rfl, Hb, p, D, { x with pc := x.pc + 1 }, xM x, readsM x.mem (toM x), rfl, ⟨A3, ts3, ls3, B6⟩, hD6, nR_ok _ _ _ _ _ h23, (fun t ht => barM_ok (tok t ht)), (by show x.sent.length < 1000000; omega), fun H7 R7 => ?_⟩
      obtain ⟨A7, ts7, ls7, B7⟩ := R7
      obtain ⟨sv7, tv7, dv7, hp7, hz7⟩ := B7.hp
      have l7 := B7.sm _ _ bl
      refine ⟨_, rfl, p, A7.dx, _, rfl, hp7, bN_pass, _, rfl, l, _, rfl, .inl (SqL.of l7), _, _, rfl, rfl, Hb, p, _, 1 + (toM x).length, ?_, ⟨A7, ts7, ls7, B7⟩, ?_, fun H8 R8 => ?_⟩
      · rw [TouAt.len bt]
        simp
      · have hlen : (toM x).length ≤ 2 := touM_len _ _ _ _
        omega
      · exact k _ (R8.unbase bs)
abbrev sMturn : Stmt := inClass (topS 64) 5
def scMturnN : List Str := ["self", "coming"]
theorem scMturn : FnScope scMturnN ["self"] (defScope sMturn) := ⟨rfl, rfl, rfl, by decide +kernel, rfl, by decide +kernel, by decide +kernel⟩
theorem ok_Mturn {f : Addr} {fd : FuncData} {fM_begin : Addr} {dM_begin : FuncData} {fM_coming : Addr} {dM_coming : FuncData} {fM_do : Addr} {dM_do : FuncData} {fM_pass : Addr} {dM_pass : FuncData} (F : Fun K "turn" "Board.turn" sMturn f fd) (T : Tx K mg CB CM)
    (M_begin : CalM P w K mg base CB 4 "begin_interrupt" ["self"] (spBegin CB CM) fM_begin dM_begin)
    (M_coming : CalM P w K mg base CB 2 "coming" ["self"] (spComing CB CM) fM_coming dM_coming)
    (M_do : CalM P w K mg base CB 5 "do_deed" ["self"] (spDeed CB CM) fM_do dM_do)
    (M_pass : CalM P w K mg base CB 3 "pass_beats" ["self", "many"] (spPass CB CM) fM_pass dM_pass) : FnOk P w K mg base CX0 6 f fd ["self"] (spTurn CB CM) := by
  refine F.ok scMturn (fun vs H Q E h => by obtain ⟨_, _, _, rfl, _⟩ := h; rfl) (fun cdv A outer s H vs Q E hr h => ?_)
  have hu := hu_of hr
  obtain ⟨H0, p, x, rfl, R, hsl, hpc, k⟩ := h
  obtain ⟨A, ts, ls, B⟩ := R
  obtain ⟨sv, tv, dv, hp, hz⟩ := B.hp
  refine ⟨_, (pss_cons (ps_fld (pv 0) (pe_lst pa_nil) rfl)
    (pss_cons (ps_fld (pv 0) pe_non rfl)
    (pss_cons (ps_set (i := 1) scMturn.nd rfl (.inl rfl) (pe_meth0 (pv 0) M_coming.c M_coming.m M_coming.G (hr.mono (by decide)) M_coming.b .nil pass0))
    (pss_cons (ps_if (pt_cmpR op_eq (pv 1) pe_str (nomark _)) (pss_one (ps_ret (pv 1))) pss_nil)
    (pss_cons (ps_if (pt_cmpR op_eq (pv 1) pe_str (nomark _)) (pss_cons (ps_expr (pe_meth (pv 0) M_pass.c M_pass.m M_pass.G (hr.mono (by decide)) M_pass.b .nil pass0 (pa_cons pe_int pa_nil)))
    (pss_one (ps_ret (pv 1)))) pss_nil)
    (pss_cons (ps_fld (pv 0) pe_bl rfl)
    (pss_cons (ps_if (pt_cmpR op_eq (pv 1) pe_str (nomark _)) (pss_one (ps_ret (pe_meth0 (pv 0) M_begin.c M_begin.m M_begin.G (hr.mono (by decide)) M_begin.b .nil pass0))) pss_nil)
    (pss_one (ps_ret (pe_meth0 (pv 0) M_do.c M_do.m M_do.G (hr.mono (by decide)) M_do.b .nil pass0)))))))))), ?_⟩
  refine ⟨Nat.zero_le _, fun l nl => ?_⟩
  have B1 := B.more (o := .lst []) nl
  obtain ⟨sv1, tv1, dv1, hp1, hz1⟩ := B1.hp
  refine ⟨_, rfl, p, CB, A.dx, _, rfl, hp1, T.cB, T.n_touched, (by show 13 < 1000; decide), ?_⟩
  rw [bP_tou]
  have B2 := B1.fld (z := x.zero) (le := x.lets) (as := x.asleep) (bt := x.beat) (sv := sv1) (la := x.la) (tv := .ref l) (dv := dv1) hz1
  obtain ⟨sv2, tv2, dv2, hp2, hz2⟩ := B2.hp
  refine ⟨_, rfl, p, CB, A.dx, _, rfl, hp2, T.cB, T.n_did, (by show 13 < 1000; decide), ?_⟩
  rw [bP_did]
  have B3 := B2.fld (z := x.zero) (le := x.lets) (as := x.asleep) (bt := x.beat) (sv := sv2) (la := x.la) (tv := tv2) (dv := .non) hz2
  obtain ⟨sv3, tv3, dv3, hp3, hz3⟩ := B3.hp
  generalize upd (upd (upd H l (.lst [])) p _) p _ = H3 at *
  refine ⟨_, rfl, p, A.dx, _, rfl, hp3, bN_coming, H0, p, x, rfl, ⟨A, ts, ls, B3⟩, ?_⟩
  unfold comingM turnM at *
  by_cases c1 : x.stop ≠ none
  · rw [if_pos c1] at k ⊢
    exact ⟨_, rfl, rfl, _, rfl, ifB (fun _ => ⟨_, rfl, k _ ⟨A, ts, ls, B3⟩⟩) (fun h => absurd rfl (of_decide_eq_false h))⟩
  · rw [if_neg c1] at k ⊢
    by_cases c2 : x.asleep = true ∧ calledM x = 0
    · rw [if_pos c2] at k ⊢
      refine ⟨_, rfl, rfl, _, rfl, ifB (fun h => absurd (V.str.inj (of_decide_eq_true h)) (by decide +kernel)) (fun _ => ?_)⟩
      refine ⟨_, rfl, rfl, _, rfl, ifB (fun _ => ?_) (fun h => absurd rfl (of_decide_eq_false h))⟩
      exact ⟨_, rfl, p, A.dx, _, rfl, hp3, bN_pass, H0, p, x, 1, rfl, ⟨A, ts, ls, B3⟩, by decide, fun H4 R4 => ⟨_, rfl, k _ R4⟩⟩
    · rw [if_neg c2] at k ⊢
      have B4 := B3.fld (z := x.zero) (le := x.lets) (as := false) (bt := x.beat) (sv := sv3) (la := x.la) (tv := tv3) (dv := dv3) hz3
      obtain ⟨sv4, tv4, dv4, hp4, hz4⟩ := B4.hp
      by_cases c3 : x.lets = true ∧ calledM x ≠ 0
      · rw [if_pos c3] at k ⊢
        refine ⟨_, rfl, rfl, _, rfl, ifB (fun h => absurd (V.str.inj (of_decide_eq_true h)) (by decide +kernel)) (fun _ => ?_)⟩
        refine ⟨_, rfl, rfl, _, rfl, ifB (fun h => absurd (V.str.inj (of_decide_eq_true h)) (by decide +kernel)) (fun _ => ?_)⟩
        refine ⟨_, rfl, p, CB, A.dx, _, rfl, hp3, T.cB, T.n_asleep, (by show 13 < 1000; decide), ?_⟩
        rw [bP_asleep]
        refine ⟨_, rfl, rfl, _, rfl, ifB (fun _ => ?_) (fun h => absurd rfl (of_decide_eq_false h))⟩
        exact ⟨_, rfl, p, A.dx, _, rfl, hp4, bN_begin, H0, p, _, rfl, ⟨A, ts, ls, B4⟩, hsl, k⟩
      · rw [if_neg c3] at k ⊢
        refine ⟨_, rfl, rfl, _, rfl, ifB (fun h => absurd (V.str.inj (of_decide_eq_true h)) (by decide +kernel)) (fun _ => ?_)⟩
        refine ⟨_, rfl, rfl, _, rfl, ifB (fun h => absurd (V.str.inj (of_decide_eq_true h)) (by decide +kernel)) (fun _ => ?_)⟩
        refine ⟨_, rfl, p, CB, A.dx, _, rfl, hp3, T.cB, T.n_asleep, (by show 13 < 1000; decide), ?_⟩
        rw [bP_asleep]
        refine ⟨_, rfl, rfl, _, rfl, ifB (fun h => absurd (V.str.inj (of_decide_eq_true h)) (by decide +kernel)) (fun _ => ?_)⟩
        exact ⟨_, rfl, p, A.dx, _, rfl, hp4, bN_do, H0, p, _, rfl, ⟨A, ts, ls, B4⟩, hsl, hpc, k⟩
end
end Bh

/-! A board is made. -/
namespace Bh
open PySem PySem.Spec PyProof.Rows L2
def newBd (ns : List Int) (ls : List (Int × Int)) : Bd := { a := 0, b := 0, pc := 0, sp := 767, zero := false, lets := false, asleep := false, beat := 0, sent := [], mem := memOf ns, line := ls, la := 0, stop := none }
def spBI (CB CM : Addr) : Sp := fun vs H Q _ => ∃ (H0 : Hp) (p dx im ln : Addr) (us : List V) (ns : List Int) (ls : List (Int × Int)), vs = [.ref p, .ref im, .ref ln] ∧ Same H0 H ∧ H0 p = none ∧ H p = some (.ins CB dx []) ∧ H im = some (.lst (ns.map V.int)) ∧ ns.length ≤ 512 ∧ WordsOk ns ∧
  H ln = some (.lst us) ∧ TupsAt H us ls ∧ riseM 0 ls ∧ ∀ H', BoardAt CB CM H0 H' p (newBd ns ls) → Q .non H'
def spFirst : Sp := fun vs H Q _ => vs = [] ∧ ∀ (H' : Hp) (r : Addr), Same H H' → H r = none → H' r = some (.dK (regD 0 0 0 767)) → Q (.ref r) H'
theorem pull {Hb H1 : Hp} {p : Addr} {o : HO} (s : Same (upd Hb p o) H1) (f : Hb p = none) : ∃ Hb1, H1 = upd Hb1 p o ∧ Same Hb Hb1 ∧ Hb1 p = none := by
  refine ⟨fun b => if b = p then none else H1 b, ?_, ?_, if_pos rfl⟩
  · funext b
    by_cases h : b = p
    · subst h
      rw [upd_same]
      exact s _ _ upd_same
    · rw [upd_ne h]
      exact (if_neg h).symm
  · intro b x e
    have h : b ≠ p := ne_of_none e f
    show (if b = p then none else H1 b) = some x
    rw [if_neg h]
    exact s _ _ (by rw [upd_ne h]; exact e)
theorem newp {Hb : Hp} {p r : Addr} {o o' : HO} (f : Hb p = none) (n : upd Hb p o r = none) : ∃ Hb1, upd (upd Hb p o) r o' = upd Hb1 p o ∧ Same Hb Hb1 ∧ Hb1 p = none ∧ Hb1 r = some o' ∧ Hb r = none ∧ r ≠ p := by
  obtain ⟨Hb1, e, s, f1⟩ := pull (same_upd' (o := o') n) f
  have rp : r ≠ p := fun z => by rw [z, upd_same] at n; cases n
  refine ⟨Hb1, e, s, f1, ?_, ?_, rp⟩
  · have := congrFun e r
    rw [upd_same, upd_ne rp] at this
    exact this.symm
  · rw [upd_ne rp] at n
    exact n
section
variable {P : Program} {w : World} {K : PySem.W.Frag} {mg : Str → Option Value} {base : Heap} {CB CM : Addr}
abbrev sFfirst : Stmt := topS 63
def scFfirstN : List Str := []
theorem scFfirst : FnScope scFfirstN [] (defScope sFfirst) := ⟨rfl, rfl, rfl, by decide +kernel, rfl, by decide +kernel, by decide +kernel⟩
theorem ok_Ffirst {f : Addr} {fd : FuncData} (F : Fun K "first_registers" "first_registers" sFfirst f fd) (T : Tx K mg CB CM) : FnOk P w K mg base CX0 1 f fd [] (spFirst) := by
  refine F.ok scFfirst (fun vs H Q E h => by obtain ⟨rfl, _⟩ := h; rfl) (fun cdv A outer s H vs Q E hr h => ?_)
  have hu := hu_of hr
  obtain ⟨t_STACK_TOP, g_STACK_TOP⟩ := T.g_STACK_TOP
  obtain ⟨rfl, q⟩ := h
  refine ⟨_, (pss_one (ps_ret (pe_disp (pps_cons pe_str pe_int (pps_cons pe_str pe_int (pps_cons pe_str pe_int (pps_cons pe_str (pgI g_STACK_TOP) pps_nil)))) rfl rfl (by intro h; cases h) (by decide)))), ?_⟩
  intro r nr
  refine ⟨upd_same, [(Sum.inr "a", .int 0), (Sum.inr "b", .int 0), (Sum.inr "pc", .int 0), (Sum.inr "sp", .int 767)], rfl, (by decide), ?_⟩
  have em : mergeK [] [((Sum.inr "a" : Key), V.int 0), (Sum.inr "b", .int 0), (Sum.inr "pc", .int 0), (Sum.inr "sp", .int 767)] = regD 0 0 0 767 := by kernel_rfl
  rw [em, upd_upd]
  exact q _ r (same_upd' nr) nr upd_same
abbrev sCboard : Stmt := inClass (topS 64) 0
def scCboardN : List Str := ["self", "image", "line"]
theorem scCboard : FnScope scCboardN ["self", "image", "line"] (defScope sCboard) := ⟨rfl, rfl, rfl, by decide +kernel, rfl, by decide +kernel, by decide +kernel⟩
theorem ok_Cboard {f : Addr} {fd : FuncData} {fC_mem : Addr} {dC_mem : FuncData} {fF_first : Addr} {dF_first : FuncData} {fF_image : Addr} {dF_image : FuncData} {fF_line : Addr} {dF_line : FuncData} (F : Fun K "__init__" "Board.__init__" sCboard f fd) (T : Tx K mg CB CM)
    (C_mem : CalC P w K mg base CM 1 "Memory" ["self", "image"] (spMI CM) fC_mem dC_mem)
    (F_first : CalF P w K mg base 1 "first_registers" [] (spFirst) fF_first dF_first)
    (F_image : CalF P w K mg base 4 "is_image" ["thing"] (spImg) fF_image dF_image)
    (F_line : CalF P w K mg base 4 "is_line" ["thing"] (spLine) fF_line dF_line) : FnOk P w K mg base CX0 6 f fd ["self", "image", "line"] (spBI CB CM) := by
  refine F.ok scCboard (fun vs H Q E h => by obtain ⟨_, _, _, _, _, _, _, _, rfl, _⟩ := h; rfl) (fun cdv A outer s H vs Q E hr h => ?_)
  have hu := hu_of hr
  have z_list := T.z_list
  obtain ⟨H0, p, dx, im, ln, us, ns, ls, rfl, s0, f0, hp, him, hl, hw, hln, htu, hri, k⟩ := h
  refine ⟨_, (pss_cons (ps_if (PW.pt (pw_or (pt_not (pt_val (pe_call F_image.G (hr.mono (by decide)) (by rfl) F_image.g F_image.kp F_image.b .nil pass0 (pa_cons (pv 1) pa_nil)))) (pw_or1 (pt_not (pt_val (pe_call F_line.G (hr.mono (by decide)) (by rfl) F_line.g F_line.kp F_line.b .nil pass0 (pa_cons (pv 2) pa_nil))))))) (pss_one ps_never) pss_nil)
    (pss_cons (ps_fld (pv 0) (pe_call0 F_first.G (hr.mono (by decide)) (by rfl) F_first.g F_first.kp F_first.b .nil pass0) rfl)
    (pss_cons (ps_fld (pv 0) pe_bl rfl)
    (pss_cons (ps_fld (pv 0) pe_bl rfl)
    (pss_cons (ps_fld (pv 0) pe_bl rfl)
    (pss_cons (ps_fld (pv 0) pe_int rfl)
    (pss_cons (ps_fld (pv 0) pe_non rfl)
    (pss_cons (ps_fld (pv 0) (pe_lst pa_nil) rfl)
    (pss_cons (ps_fld (pv 0) (pe_make C_mem.M C_mem.I (hr.mono (by decide)) rfl C_mem.g C_mem.b .nil pass0 (pa_cons (pv 1) pa_nil)) rfl)
    (pss_cons (ps_fld (pv 0) (pe_callTy call_list_of (by rfl) z_list (by decide +kernel) (pa_cons (pv 2) pa_nil)) rfl)
    (pss_cons (ps_fld (pv 0) pe_int rfl)
    (pss_cons (ps_fld (pv 0) (pe_lst pa_nil) rfl)
    (pss_cons (ps_fld (pv 0) pe_non rfl)
    (pss_one (ps_fld (pv 0) pe_int rfl))))))))))))))), ?_⟩
  have ne1 : im ≠ p := ne_of him hp (by intro q; cases q)
  have ne2 : ln ≠ p := ne_of hln hp (by intro q; cases q)
  obtain ⟨Hb, eH, sb, fb⟩ : ∃ Hb, H = upd Hb p (.ins CB dx []) ∧ Same H0 Hb ∧ Hb p = none := by
    refine ⟨fun b => if b = p then none else H b, ?_, ?_, if_pos rfl⟩
    · funext b
      by_cases h : b = p
      · subst h
        rw [upd_same]
        exact hp
      · rw [upd_ne h]
        exact (if_neg h).symm
    · intro b x e
      have h : b ≠ p := ne_of_none e f0
      show (if b = p then none else H b) = some x
      rw [if_neg h]
      exact s0 _ _ e
  subst eH
  rw [upd_ne ne1] at him
  rw [upd_ne ne2] at hln
  have htu : TupsAt Hb us ls := htu.mono fun t xs e => by
    rw [upd_ne (ne_of e hp (by intro q; cases q))] at e
    exact e
  refine ⟨_, rfl, im, ns, rfl, (by rw [upd_ne ne1]; exact him), hl, hw, fun H1 s1 => ?_⟩
  obtain ⟨Hb1, rfl, sb1, fb1⟩ := pull s1 fb
  refine ⟨_, rfl, ifN (fun h => by cases h) (fun _ => ?_)⟩
  refine ⟨_, rfl, ln, us, ls, rfl, (by rw [upd_ne ne2]; exact sb1 _ _ hln), htu.mono (fun t xs e => ?_), hri, ?_⟩
  · have tp : t ≠ p := fun z => by rw [z, fb] at e; cases e
    rw [upd_ne tp]
    exact sb1 _ _ e
  refine ⟨_, rfl, ifN (fun h => by cases h) (fun _ => ?_)⟩
  have sB1 := sb.trans sb1
  have him1 := sb1 _ _ him
  have hln1 := sb1 _ _ hln
  have htu1 : TupsAt Hb1 us ls := htu.mono fun t xs e => sb1 _ _ e
  clear hln htu him s1 sb1 sb s0 hp
  refine ⟨rfl, fun H2 r s2' fr hr => ?_⟩
  obtain ⟨Hb3, rfl, s3, fb3⟩ := pull s2' fb1
  have rp : r ≠ p := fun z => by rw [z, upd_same] at fr; cases fr
  rw [upd_ne rp] at fr hr
  have fr0 := fr
  have hr3 := hr
  refine ⟨_, rfl, p, CB, dx, _, rfl, upd_same, T.cB, T.n_registers, (by show 0 < 1000; decide), ?_⟩
  rw [upd_upd]
  refine ⟨_, rfl, p, CB, dx, _, rfl, upd_same, T.cB, T.n_zero, (by show 1 < 1000; decide), ?_⟩
  rw [upd_upd]
  refine ⟨_, rfl, p, CB, dx, _, rfl, upd_same, T.cB, T.n_lets, (by show 2 < 1000; decide), ?_⟩
  rw [upd_upd]
  refine ⟨_, rfl, p, CB, dx, _, rfl, upd_same, T.cB, T.n_asleep, (by show 3 < 1000; decide), ?_⟩
  rw [upd_upd]
  refine ⟨_, rfl, p, CB, dx, _, rfl, upd_same, T.cB, T.n_beat, (by show 4 < 1000; decide), ?_⟩
  rw [upd_upd]
  refine ⟨_, rfl, p, CB, dx, _, rfl, upd_same, T.cB, T.n_stopped, (by show 5 < 1000; decide), ?_⟩
  rw [upd_upd]
  refine ⟨Nat.zero_le _, fun t nt => ?_⟩
  obtain ⟨Hb4, e4, s4, fb4, ht4, ft0, tp⟩ := newp (o' := .lst []) fb3 nt
  rw [e4]
  refine ⟨_, rfl, p, CB, dx, _, rfl, upd_same, T.cB, T.n_sent, (by show 6 < 1000; decide), ?_⟩
  rw [upd_upd]
  refine ⟨_, rfl, ?_⟩
  intro m dm nm ndm ndmm
  have mp : m ≠ p := fun z => by rw [z, upd_same] at nm; cases nm
  rw [upd_ne mp] at nm
  have dmp : dm ≠ p := fun z => by rw [z, upd_same] at ndm; cases ndm
  rw [upd_ne dmp] at ndm
  have him4 := s4 _ _ (s3 _ _ him1)
  have imm : im ≠ m := ne_of_none him4 nm
  have imd : im ≠ dm := ne_of_none him4 ndm
  refine ⟨m, dm, im, ns, rfl, upd_same, (by rw [upd_ne imm, upd_ne imd, upd_ne ne1]; exact him4), hl, fun H5 w_ s_ M5 fr5 fw5 fs5 => ⟨rfl, ?_⟩⟩
  have kp : ∀ b o, Hb4 b = some o → H5 b = some o := fun b o e => fr5 b o (ne_of_none e nm) (by
    rw [upd_ne (ne_of_none e nm), upd_ne (ne_of_none e ndm), upd_ne (ne_of_none e fb4)]
    exact e)
  have hp5 : ∃ fs, H5 p = some (.ins CB dx fs) ∧ fs = ([("registers", .ref r), ("zero", .bl false), ("lets", .bl false), ("asleep", .bl false), ("beat", .int 0), ("stopped", .non), ("sent", .ref t)] : List (Str × V)) := by
    refine ⟨_, fr5 p _ mp.symm (by rw [upd_ne mp.symm, upd_ne dmp.symm]; exact upd_same), ?_⟩
    kernel_rfl
  obtain ⟨fs, hp5, efs⟩ := hp5
  have wp : w_ ≠ p := fun z => by
    rw [z, upd_ne mp.symm, upd_ne dmp.symm, upd_same] at fw5
    cases fw5
  have wm : w_ ≠ m := ne_of M5.hw M5.hm (by intro q; cases q)
  have wd : w_ ≠ dm := fun z => by
    rw [z, upd_ne ndmm, upd_same] at fw5
    cases fw5
  have fw4 : Hb4 w_ = none := by rw [upd_ne wm, upd_ne wd, upd_ne wp] at fw5; exact fw5
  have sp_ : s_ ≠ p := fun z => by
    rw [z, upd_ne mp.symm, upd_ne dmp.symm, upd_same] at fs5
    cases fs5
  have sm_ : s_ ≠ m := ne_of M5.hs M5.hm (by intro q; cases q)
  have sd_ : s_ ≠ dm := fun z => by
    rw [z, upd_ne ndmm, upd_same] at fs5
    cases fs5
  have fs4 : Hb4 s_ = none := by rw [upd_ne sm_, upd_ne sd_, upd_ne sp_] at fs5; exact fs5
  obtain ⟨Hb5, rfl, kp5, fb5⟩ : ∃ Hb5 : Hp, H5 = upd Hb5 p (.ins CB dx fs) ∧ Same Hb4 Hb5 ∧ Hb5 p = none := by
    refine ⟨fun b => if b = p then none else H5 b, ?_, ?_, if_pos rfl⟩
    · funext b
      by_cases h : b = p
      · subst h
        rw [upd_same]
        exact hp5
      · rw [upd_ne h]
        exact (if_neg h).symm
    · intro b x e
      show (if b = p then none else H5 b) = some x
      rw [if_neg (ne_of_none e fb4)]
      exact kp _ _ e
  have hm5 : Hb5 m = some (.ins CM dm (mmF w_ s_)) := by have := M5.hm; rw [upd_ne mp] at this; exact this
  have hw5 : Hb5 w_ = some (.lst ((memOf ns).map V.int)) := by have := M5.hw; rw [upd_ne wp] at this; exact this
  have hs5 : Hb5 s_ = some (.dK []) := by have := M5.hs; rw [upd_ne sp_] at this; exact this
  have lm5 := M5.lm
  clear M5 fr5 kp hp5
  subst efs
  refine ⟨_, rfl, p, CB, dx, _, rfl, upd_same, T.cB, T.n_memory, (by show 7 < 1000; decide), ?_⟩
  rw [upd_upd]
  refine ⟨_, rfl, ln, us, rfl, .inl (SqL.of (by rw [upd_ne ne2]; exact kp5 _ _ (s4 _ _ (s3 _ _ hln1)))), fun l nl => ?_⟩
  obtain ⟨Hb6, e6, s6, fb6, hl6, fl0, lp⟩ := newp (o' := .lst us) fb5 nl
  rw [e6]
  refine ⟨_, rfl, p, CB, dx, _, rfl, upd_same, T.cB, T.n_line, (by show 8 < 1000; decide), ?_⟩
  rw [upd_upd]
  refine ⟨_, rfl, p, CB, dx, _, rfl, upd_same, T.cB, T.n_line_at, (by show 9 < 1000; decide), ?_⟩
  rw [upd_upd]
  refine ⟨Nat.zero_le _, fun q nq => ?_⟩
  obtain ⟨Hb7, e7, s7, fb7, hq7, -, qp⟩ := newp (o' := .lst []) fb6 nq
  rw [e7]
  refine ⟨_, rfl, p, CB, dx, _, rfl, upd_same, T.cB, T.n_touched, (by show 10 < 1000; decide), ?_⟩
  rw [upd_upd]
  refine ⟨_, rfl, p, CB, dx, _, rfl, upd_same, T.cB, T.n_did, (by show 11 < 1000; decide), ?_⟩
  rw [upd_upd]
  refine ⟨_, rfl, p, CB, dx, _, rfl, upd_same, T.cB, T.n_bend, (by show 12 < 1000; decide), ?_⟩
  rw [upd_upd]
  have s57 := s6.trans s7
  have s47 := kp5.trans s57
  have s17 : Same Hb1 Hb7 := (s3.trans s4).trans s47
  have hmh : Hb7 m = some (.ins CM dm (mmF w_ s_)) := s57 _ _ hm5
  refine k _ ⟨⟨dx, r, m, dm, w_, s_, t, l⟩, [], us, ?_⟩
  exact {
    sm := fun b x e => by
      rw [upd_ne (ne_of_none e f0)]
      exact s17 _ _ (sB1 _ _ e)
    fp := f0
    fr := sB1.free fr0
    fw := sB1.free ((s3.trans s4).free fw4)
    ft := sB1.free (s3.free ft0)
    fm := sB1.free ((s3.trans s4).free nm)
    fs := sB1.free ((s3.trans s4).free fs4)
    fl := sB1.free (s3.free (s4.free (kp5.free fl0)))
    hp := ⟨.non, .ref q, .non, (by rw [upd_same]; exact congrArg (fun z => some (HO.ins CB dx z)) (by kernel_rfl)), rfl⟩
    hr := by rw [upd_ne rp]; exact s47 _ _ (s4 _ _ hr3)
    hm := by rw [upd_ne mp]; exact hmh
    hw := by rw [upd_ne wp]; exact s57 _ _ hw5
    hs := by rw [upd_ne sp_]; exact s57 _ _ hs5
    ht := by rw [upd_ne tp]; exact s47 _ _ ht4
    hl := by rw [upd_ne lp]; exact s7 _ _ hl6
    pm := mp.symm
    rs := fun (z : r = s_) => by
      have h1 := s4 _ _ hr3
      rw [z, fs4] at h1
      cases h1
    wt := fun (z : w_ = t) => by rw [z, ht4] at fw4; cases fw4
    wl := fun (z : w_ = l) => by rw [← z, hw5] at fl0; cases fl0
    tl := fun (z : t = l) => by
      have h1 := kp5 _ _ ht4
      rw [z, fl0] at h1
      cases h1
    us := .nil
    ll := htu1.mono fun u xs e => by
      have up : u ≠ p := ne_of_none e fb1
      rw [upd_ne up]
      exact s17 _ _ e
    lm := lm5 }
end
end Bh

/-! A board that has no line, in a turn that is a deed. -/
namespace Bh
open PySem PySem.Spec PyProof.Rows L2
def timN : Nat → List Int → List Int
  | 0, m => m
  | n + 1, m => timN n (goTimerM m)
theorem come_nil {x : Bd} (h : x.line = []) : comeM x = x := by
  unfold comeM
  rw [h]
  exact if_neg fun z => by cases z.1
theorem passOne_nil {x : Bd} (h : x.line = []) : passOneM x = { x with beat := x.beat + 1, mem := goTimerM x.mem } := by
  have e : comeM { x with beat := x.beat + 1 } = { x with beat := x.beat + 1 } := come_nil h
  show { comeM { x with beat := x.beat + 1 } with mem := goTimerM (comeM { x with beat := x.beat + 1 }).mem } = _
  rw [e]
theorem pass_nil : ∀ (n : Nat) (x : Bd), x.line = [] → passM n x = { x with beat := x.beat + n, mem := timN n x.mem }
  | 0, x, _ => by
    show x = _
    cases x
    simp [timN]
  | n + 1, x, h => by
    show passM n (passOneM x) = _
    rw [passOne_nil h]
    rw [pass_nil n { x with beat := x.beat + 1, mem := goTimerM x.mem } h]
    show ({ x with beat := x.beat + 1 + (n : Int), mem := timN n (goTimerM x.mem) } : Bd) = { x with beat := x.beat + ((n + 1 : Nat) : Int), mem := timN (n + 1) x.mem }
    have : x.beat + 1 + (n : Int) = x.beat + ((n + 1 : Nat) : Int) := by omega
    rw [this]
    rfl
theorem timN_len : ∀ (n : Nat) (m : List Int), (timN n m).length = m.length
  | 0, _ => rfl
  | n + 1, m => by
    show (timN n (goTimerM m)).length = _
    rw [timN_len n, goTimerM_len]
theorem goTimerM_far {m : List Int} {j : Int} (h0 : 0 ≤ j) (h1 : j ≠ 768) (h2 : j ≠ 770) : rd (goTimerM m) j = rd m j := by
  unfold goTimerM
  split
  · rfl
  · split
    · rw [rd_stM_ne (by decide) h0 (Ne.symm h1), rd_stM_ne (by decide) h0 (Ne.symm h2)]
    · rw [rd_stM_ne (by decide) h0 (Ne.symm h1)]
theorem timN_far : ∀ (n : Nat) (m : List Int) {j : Int}, 0 ≤ j → j ≠ 768 → j ≠ 770 → rd (timN n m) j = rd m j
  | 0, _, _, _, _, _ => rfl
  | n + 1, m, j, h0, h1, h2 => by
    show rd (timN n (goTimerM m)) j = _
    rw [timN_far n _ h0 h1 h2, goTimerM_far h0 h1 h2]
/-- nothing keeps a deed from being done -/
structure Calm (x : Bd) : Prop where
  st : x.stop = none
  as : x.asleep = false
  le : x.lets = false
  ln : x.line = []
  p0 : 0 ≤ x.pc
  p1 : x.pc < 768
theorem turn_deed {x : Bd} (h : Calm x) {op : Nat} {n : Int} (hw : rd x.mem x.pc = 1024 * op + n) (n0 : 0 ≤ n) (n1 : n < 1024) (o1 : 1 ≤ op) (o2 : op < 23) (hb : firstBad (touM op n x.b x.sp) = none) :
    turnM x = (("deed" : Str), passM (1 + (touM op n x.b x.sp).length) (doM op n (readsM x.mem (touM op n x.b x.sp)) { x with pc := x.pc + 1 })) := by
  have eo : opM x = op := by
    unfold opM
    rw [hw]
    omega
  have en : xM x = n := by
    unfold xM
    rw [hw]
    omega
  have et : toM x = touM op n x.b x.sp := by
    unfold toM
    rw [eo, en]
  have ea : ({ x with asleep := false } : Bd) = x := by
    have := h.as
    cases x
    cases this
    rfl
  unfold turnM
  rw [if_neg (fun z => z h.st), if_neg (fun z => by rw [h.as] at z; cases z.1), if_neg (fun z => by rw [h.le] at z; cases z.1), ea]
  unfold deedM
  rw [if_neg (fun z => z ⟨h.p0, h.p1⟩), eo, if_neg (by omega), if_neg (by omega), et, hb]
  unfold doneM
  rw [et, eo, en]
theorem memOf_rd {ns : List Int} (hl : ns.length ≤ 512) {j : Nat} (hj : j < ns.length) : rd (memOf ns) j = rd ns j := by
  unfold rd memOf
  rw [List.getD_eq_getElem?_getD, List.getD_eq_getElem?_getD, List.append_assoc, List.getElem?_append_left (by show j < _; exact hj)]
theorem memOf_ram {ns : List Int} (hl : ns.length ≤ 512) {j : Nat} (h0 : 512 ≤ j) (h1 : j < 774) : rd (memOf ns) j = 0 := by
  unfold rd memOf
  rw [List.getD_eq_getElem?_getD, List.getElem?_append_right (by rw [List.length_append, List.length_replicate]; show _ ≤ j; omega), List.getElem?_replicate]
  rw [List.length_append, List.length_replicate]
  have : ((j : Int).toNat - (ns.length + (512 - ns.length))) < 262 := by
    show j - _ < 262
    omega
  rw [if_pos this]
  rfl
end Bh

/-! The law's own defs. -/
namespace Bh
open PySem PySem.Spec PyProof.Rows L2
def DigOk (ds : List Int) : Prop := ∀ d ∈ ds, 0 ≤ d ∧ d ≤ 1008
theorem digOk_snoc {ds : List Int} {d : Int} (h : DigOk ds) (h0 : 0 ≤ d) (h1 : d ≤ 1008) : DigOk (ds ++ [d]) := fun x hx => by
  rcases List.mem_append.mp hx with q | q
  · exact h x q
  · rw [List.mem_singleton.mp q]
    exact ⟨h0, h1⟩
theorem atN {ds : List Int} (hd : DigOk ds) {j : Int} (h0 : 0 ≤ j) (h1 : j < ds.length) : ∃ d, atI (ds.map V.int) j = some (.int d) ∧ 0 ≤ d ∧ d ≤ 1008 := by
  have hj : j.toNat < ds.length := by omega
  refine ⟨rd ds j, atI_rd h0 h1, ?_⟩
  unfold rd
  rw [List.getD_eq_getElem?_getD, List.getElem?_eq_getElem hj]
  exact hd _ (List.getElem_mem hj)
def spDig : Sp := fun vs H Q _ => ∃ (c : Int) (m : Nat), vs = [.int c, .int (m : Int)] ∧ m ≤ 1000 ∧ ∀ (H' : Hp) (p : Addr) (ds : List Int), ds.length = m → DigOk ds → Same H H' → H p = none → H' p = some (.lst (ds.map V.int)) → Q (.ref p) H'
section
variable {P : Program} {w : World} {K : PySem.W.Frag} {mg : Str → Option Value} {base : Heap} {CB CM : Addr}
abbrev sLdig : Stmt := topS 67
def scLdigN : List Str := ["_law_cell_here", "_law_many", "_law_row", "_law_rest", "_law_number", "_law_k"]
theorem scLdig : FnScope scLdigN ["_law_cell_here", "_law_many"] (defScope sLdig) := ⟨rfl, rfl, rfl, by decide +kernel, rfl, by decide +kernel, by decide +kernel⟩
theorem ok_Ldig {f : Addr} {fd : FuncData} (F : Fun K "_law_digits" "_law_digits" sLdig f fd) (T : Tx K mg CB CM) : FnOk P w K mg base CX0 1 f fd ["_law_cell_here", "_law_many"] (spDig) := by
  refine F.ok scLdig (fun vs H Q E h => by obtain ⟨_, _, rfl, _⟩ := h; rfl) (fun cdv A outer s H vs Q E hr h => ?_)
  have hu := hu_of hr
  have z_range := T.z_range
  obtain ⟨c, m, rfl, hm, q⟩ := h
  refine ⟨_, (pss_cons (ps_set (i := 2) scLdig.nd rfl (.inl rfl) (pe_lst pa_nil))
    (pss_cons (ps_set (i := 3) scLdig.nd rfl (.inl rfl) pe_int)
    (pss_cons (ps_if (pt_cmpR op_ge (pv 0) (pe_op op_pow pe_int pe_int) (nomark _)) (pss_one (ps_set (i := 3) scLdig.nd rfl (.inl rfl) (pv 0))) pss_nil)
    (pss_cons (ps_set (i := 4) scLdig.nd rfl (.inl rfl) (pe_op op_mod (pv 0) pe_int))
    (pss_cons (ps_for PassesOwn.never rfl (pi_range1 (by rfl) z_range (pa_cons (pv 1) pa_nil)) (pg_name (i := 5) scLdig.nd rfl (.inl rfl))
      (pss_cons (ps_set (i := 4) scLdig.nd rfl (.inl rfl) (pe_op op_mod (pe_op op_add (pe_op op_add (pe_op op_mul (pv 4) pe_int) (pe_op op_mul pe_int (pv 5))) pe_int) pe_int))
    (pss_cons (ps_set (i := 4) scLdig.nd rfl (.inl rfl) (pe_op op_mod (pe_op op_mul (pv 4) (pe_op op_add (pe_op op_fdiv (pv 4) pe_int) pe_int)) pe_int))
    (pss_one (ps_if (pt_cmpR op_gt (pv 3) pe_int (nomark _)) (pss_cons (ps_expr (pe_bm PySem.F.plainAttrs_list PySem.F.slot_list_append PySem.F.type_list_append mt_append (pv 2) (pa_cons (pe_op op_mod (pv 3) pe_int) pa_nil)))
    (pss_one (ps_set (i := 3) scLdig.nd rfl (.inl rfl) (pe_op op_fdiv (pv 3) pe_int)))) (pss_one (ps_expr (pe_bm PySem.F.plainAttrs_list PySem.F.slot_list_append PySem.F.type_list_append mt_append (pv 2) (pa_cons (pe_op op_mod (pe_op op_fdiv (pv 4) pe_int) pe_int) pa_nil)))))))))
    (pss_one (ps_ret (pv 2)))))))), ?_⟩
  refine ⟨Nat.zero_le _, fun p np => ?_⟩
  refine ⟨_, rfl, _, _, rfl, rfl, ⟨by decide, by decide, by decide⟩, _, _, rfl, rfl, _, rfl, ite2 (fun _ => ⟨_, rfl, ?_⟩) (fun _ => ?_)⟩
  all_goals
    refine ⟨_, rfl, _, _, rfl, rfl, (by show (0 : Int) < 2147483647; decide), ?_⟩
    refine ⟨_, rfl, (m : Int), rfl, by omega, by omega, ?_⟩
    refine for_range (lo := 0) (n := ((m : Int)).toNat) (fun i σ H' => ∃ (rest num : Int) (y : Option V) (ds : List Int), σ = [some (.int c), some (.int (m : Int)), some (.ref p), some (.int rest), some (.int num), y] ∧ 0 ≤ num ∧ num < 2147483647 ∧ ds.length = i ∧ DigOk ds ∧ Same H H' ∧ H' p = some (.lst (ds.map V.int)))
      ⟨_, _, none, [], rfl, Int.emod_nonneg _ (by decide), Int.emod_lt_of_pos _ (by decide), rfl, (fun _ h => by cases h), same_upd' np, upd_same⟩ ?_ ?_
    · rintro i σ H' hi ⟨rest, num, y, ds, rfl, n0, n1, hl, hd, sm, hp⟩
      have him : i < 1000 := by omega
      refine ⟨_, rfl, _, _, rfl, rfl, .inl ⟨by omega, by omega⟩, _, rfl, _, _, rfl, rfl, .inl ⟨by decide, by decide⟩, _, _, rfl, rfl, _, _, rfl, rfl, _, _, rfl, rfl, (by show (0 : Int) < 2147483647; decide), ?_⟩
      have a0 := Int.emod_nonneg (num * 48271 + 30103 * (0 + (i : Int)) + 11) (show (2147483647 : Int) ≠ 0 by decide)
      have a1 := Int.emod_lt_of_pos (num * 48271 + 30103 * (0 + (i : Int)) + 11) (show (0 : Int) < 2147483647 by decide)
      refine ⟨_, rfl, _, rfl, _, _, rfl, rfl, ⟨by decide, by decide⟩, _, _, rfl, rfl, _, _, rfl, rfl, .inl ⟨by omega, by omega⟩, _, _, rfl, rfl, (by show (0 : Int) < 2147483629; decide), ?_⟩
      have b0 := Int.emod_nonneg (((num * 48271 + 30103 * (0 + (i : Int)) + 11) % 2147483647) * (((num * 48271 + 30103 * (0 + (i : Int)) + 11) % 2147483647) / 1009 + 69621)) (show (2147483629 : Int) ≠ 0 by decide)
      have b1 := Int.emod_lt_of_pos (((num * 48271 + 30103 * (0 + (i : Int)) + 11) % 2147483647) * (((num * 48271 + 30103 * (0 + (i : Int)) + 11) % 2147483647) / 1009 + 69621)) (show (0 : Int) < 2147483629 by decide)
      have hlen : (ds.map V.int).length < sizeLine := by
        rw [List.length_map]
        exact small1000 (by omega)
      have upd_ok : ∀ (d : Int), Same H (upd H' p (.lst (ds.map V.int ++ [.int d]))) ∧ upd H' p (.lst (ds.map V.int ++ [.int d])) p = some (.lst ((ds ++ [d]).map V.int)) := fun d => by
        refine ⟨same_of sm np, ?_⟩
        rw [upd_same, List.map_append]
        rfl
      refine ⟨_, rfl, _, _, rfl, rfl, _, rfl, ite2 (fun _ => ?_) (fun _ => ?_)⟩
      · refine ⟨_, rfl, .inl ⟨rfl, _, SqL.of hp⟩, _, rfl, _, _, rfl, rfl, (by show (0 : Int) < 1009; decide), p, _, _, rfl, rfl, hp, hlen, ?_⟩
        refine ⟨_, rfl, _, _, rfl, rfl, ⟨by decide, by decide⟩, ?_⟩
        have c0 := Int.emod_nonneg rest (show (1009 : Int) ≠ 0 by decide)
        have c1 := Int.emod_lt_of_pos rest (show (0 : Int) < 1009 by decide)
        exact ⟨_, _, _, ds ++ [rest % 1009], rfl, b0, by omega, by rw [List.length_append, hl]; rfl, digOk_snoc hd c0 (by omega), (upd_ok _).1, (upd_ok _).2⟩
      · refine ⟨_, rfl, .inl ⟨rfl, _, SqL.of hp⟩, _, rfl, _, _, rfl, rfl, ⟨by decide, by decide⟩, _, _, rfl, rfl, (by show (0 : Int) < 1009; decide), p, _, _, rfl, rfl, hp, hlen, ?_⟩
        have c0 := Int.emod_nonneg (((((num * 48271 + 30103 * (0 + (i : Int)) + 11) % 2147483647) * (((num * 48271 + 30103 * (0 + (i : Int)) + 11) % 2147483647) / 1009 + 69621)) % 2147483629) / 7) (show (1009 : Int) ≠ 0 by decide)
        have c1 := Int.emod_lt_of_pos (((((num * 48271 + 30103 * (0 + (i : Int)) + 11) % 2147483647) * (((num * 48271 + 30103 * (0 + (i : Int)) + 11) % 2147483647) / 1009 + 69621)) % 2147483629) / 7) (show (0 : Int) < 1009 by decide)
        exact ⟨_, _, _, ds ++ [((((num * 48271 + 30103 * (0 + (i : Int)) + 11) % 2147483647) * (((num * 48271 + 30103 * (0 + (i : Int)) + 11) % 2147483647) / 1009 + 69621)) % 2147483629) / 7 % 1009], rfl, b0, by omega, by rw [List.length_append, hl]; rfl, digOk_snoc hd c0 (by omega), (upd_ok _).1, (upd_ok _).2⟩
    · rintro σ H' ⟨rest, num, y, ds, rfl, n0, n1, hl, hd, sm, hp⟩
      exact ⟨_, rfl, q H' p ds (by omega) hd sm np hp⟩
end
end Bh

/-! Lists of ints told; a law's frame. -/
namespace Bh
open PySem PySem.Spec PyProof.Rows L2
theorem can_ints : ∀ ns : List Int, PyData.canLayAll0 (ns.map PyData.int) = true
  | [] => rfl
  | n :: r => by
    show (PyData.canLay0 (.int n) && PyData.canLayAll0 (r.map PyData.int)) = true
    rw [can_ints r]
    rfl
theorem dep_ints : ∀ ns : List Int, PyData.depthAll (ns.map PyData.int) ≤ 1
  | [] => by decide
  | n :: r => by
    have ih := dep_ints r
    show max (PyData.depth (.int n)) (PyData.depthAll (r.map PyData.int)) ≤ 1
    exact Nat.max_le.mpr ⟨Nat.zero_le _, ih⟩
theorem dp_ints {K : PySem.W.Frag} {H : Hp} : ∀ ns : List Int, DpAll K H (ns.map V.int) (ns.map PyData.int)
  | [] => .nil
  | n :: r => .cons (.int n) (dp_ints r)
theorem shaped_ints (ns : List Int) : SeqAt.shaped (.list (ns.map PyData.int)) = true := by
  show (PyData.canLayAll0 (ns.map PyData.int) && decide (PyData.depthAll (ns.map PyData.int) + 1 ≤ 64)) = true
  rw [can_ints, decide_eq_true (by have := dep_ints ns; omega)]
  rfl
theorem cut_ints (ns : List Int) (lo hi : Option Int) : ∃ ms : List Int, cutV (ns.map V.int) lo hi = ms.map V.int ∧ ms.length ≤ ns.length := by
  unfold cutV
  rw [← List.map_drop, ← List.map_take]
  refine ⟨_, rfl, ?_⟩
  rw [List.length_take, List.length_drop]
  omega

def spLaw (K : PySem.W.Frag) : Sp := fun vs H Q _ => ∃ (a : Addr) (ns : List Int), vs = [.ref a] ∧ SqL K H a (ns.map V.int) ∧ ns.length ≤ 63 ∧ ∀ H', Q (.bl true) H'
/-- an object of the base that is not the board's changes -/
theorem Bp.mut {CB CM p q : Addr} {Hb H : Hp} {A : Ad} {ts ls : List V} {x : Bd} (h : Bp CB CM Hb H p A ts ls x) {o o0 : HO} (hq : Hb q = some o0) (nt : ∀ xs, o0 ≠ .tup xs) : Bp CB CM (upd Hb q o) (upd H q o) p A ts ls x := by
  have qp : q ≠ p := ne_of_none hq h.fp
  have qr : q ≠ A.r := ne_of_none hq h.fr
  have qw : q ≠ A.w := ne_of_none hq h.fw
  have qt : q ≠ A.t := ne_of_none hq h.ft
  have nm : q ≠ A.m := ne_of_none hq h.fm
  have ns : q ≠ A.s := ne_of_none hq h.fs
  have nl : q ≠ A.l := ne_of_none hq h.fl
  have hH := h.sm _ _ hq
  have tk : ∀ t xs, H t = some (.tup xs) → upd H q o t = some (.tup xs) := fun t xs e => by
    rw [upd_ne (fun z => by rw [z, hH] at e; exact nt xs (Option.some.inj e))]
    exact e
  obtain ⟨sv, tv, dv, hp, hz⟩ := h.hp
  exact {
    sm := fun b y e => by
      by_cases z : b = q
      · subst z
        rw [upd_same] at e ⊢
        exact e
      · rw [upd_ne z] at e ⊢
        exact h.sm _ _ e
    fp := by rw [upd_ne qp.symm]; exact h.fp
    fr := by rw [upd_ne qr.symm]; exact h.fr
    fw := by rw [upd_ne qw.symm]; exact h.fw
    ft := by rw [upd_ne qt.symm]; exact h.ft
    fm := by rw [upd_ne nm.symm]; exact h.fm
    fs := by rw [upd_ne ns.symm]; exact h.fs
    fl := by rw [upd_ne nl.symm]; exact h.fl
    hp := ⟨sv, tv, dv, by rw [upd_ne qp.symm]; exact hp, hz.mono tk⟩
    hr := by rw [upd_ne qr.symm]; exact h.hr
    hm := by rw [upd_ne nm.symm]; exact h.hm
    hw := by rw [upd_ne qw.symm]; exact h.hw
    hs := by rw [upd_ne ns.symm]; exact h.hs
    ht := by rw [upd_ne qt.symm]; exact h.ht
    hl := by rw [upd_ne nl.symm]; exact h.hl
    pm := h.pm
    rs := h.rs
    wt := h.wt
    wl := h.wl
    tl := h.tl
    us := h.us.mono tk
    ll := h.ll.mono tk
    lm := h.lm }
theorem sqL_upd {K : PySem.W.Frag} {H : Hp} {a q : Addr} {xs : List V} {o o0 : HO} (h : SqL K H a xs) (hq : H q = some o0) (n1 : ∀ xs, o0 ≠ .lst xs) (n2 : ∀ o xs, o0 ≠ .frz o (.lst xs)) : SqL K (upd H q o) a xs := by
  rcases h with (e | ⟨od, e⟩) | h
  · exact .inl (.inl (by rw [upd_ne (fun z => by rw [z, hq] at e; exact n1 _ (Option.some.inj e))]; exact e))
  · exact .inl (.inr ⟨od, by rw [upd_ne (fun z => by rw [z, hq] at e; exact n2 _ _ (Option.some.inj e))]; exact e⟩)
  · exact .inr h
theorem take_snoc {F : List Int} {j : Nat} {v : Int} (h : F[j]? = some v) : (F.take (j + 1)).map V.int = (F.take j).map V.int ++ [.int v] := by
  rw [List.take_succ, h, List.map_append]
  rfl
theorem getI {L : List Int} {j : Nat} {v : V} (h : (L.map V.int)[j]? = some v) : ∃ a, L[j]? = some a ∧ v = .int a := by
  rw [List.getElem?_map] at h
  cases e : L[j]? with
  | none => rw [e] at h; cases h
  | some a => rw [e] at h; exact ⟨a, rfl, (Option.some.inj h).symm⟩
end Bh

/-! Interrupts: a board and the law's image. -/
namespace Bh
open PySem PySem.Spec PyProof.Rows L2
theorem and_nat (x y : Nat) : Builtin.bitAnd (x : Int) (y : Int) = ((x &&& y : Nat) : Int) := by
  unfold Builtin.bitAnd
  rw [decide_eq_true (by omega), decide_eq_true (by omega)]
  rfl
theorem or_nat (x y : Nat) : Builtin.bitOr (x : Int) (y : Int) = ((x ||| y : Nat) : Int) := by
  unfold Builtin.bitOr Builtin.bitAnd Builtin.bitNot
  rw [decide_eq_false (by omega), decide_eq_false (by omega)]
  simp only
  have e1 : (-(-(x : Int) - 1) - 1).toNat = x := by omega
  have e2 : (-(-(y : Int) - 1) - 1).toNat = y := by omega
  rw [e1, e2]
  omega
theorem and_pos {x y : Int} (hx : 0 ≤ x) (hy : 0 ≤ y) : 0 ≤ Builtin.bitAnd x y := by
  rw [← Int.toNat_of_nonneg hx, ← Int.toNat_of_nonneg hy, and_nat]
  omega
theorem or_pos {x y : Int} (hx : 0 ≤ x) (hy : 0 ≤ y) : 0 ≤ Builtin.bitOr x y := by
  rw [← Int.toNat_of_nonneg hx, ← Int.toNat_of_nonneg hy, or_nat]
  omega
/-- what beats leave as it is -/
structure Kept (x y : Bd) (k : Nat) : Prop where
  a : y.a = x.a
  b : y.b = x.b
  z : y.zero = x.zero
  pc : y.pc = x.pc
  sp : y.sp = x.sp
  le : y.lets = x.lets
  as : y.asleep = x.asleep
  se : y.sent = x.sent
  st : y.stop = x.stop
  bt : y.beat = x.beat + k
  lm : y.mem.length = x.mem.length
  m : ∀ j : Int, 0 ≤ j → j ≠ 768 → j ≠ 770 → j ≠ 772 → rd y.mem j = rd x.mem j
  f : 0 ≤ rd x.mem 770 → 0 ≤ rd y.mem 770
theorem takeLineM_f {v : Int} {m : List Int} (hl : m.length = 774) (h : 0 ≤ rd m 770) : 0 ≤ rd (takeLineM v m) 770 := by
  have e : rd (stM m 772 v) 770 = rd m 770 := rd_stM_ne (by decide) (by decide) (by decide)
  unfold takeLineM
  split
  · rw [rd_stM_same (by decide) (by rw [stM_len, hl]; decide), e]
    exact or_pos h (by decide)
  · rw [e]
    exact h
theorem takeLineM_m {v : Int} {m : List Int} {j : Int} (h0 : 0 ≤ j) (h1 : j ≠ 770) (h2 : j ≠ 772) : rd (takeLineM v m) j = rd m j := by
  unfold takeLineM
  split
  · rw [rd_stM_ne (by decide) h0 (Ne.symm h1), rd_stM_ne (by decide) h0 (Ne.symm h2)]
  · rw [rd_stM_ne (by decide) h0 (Ne.symm h2)]
theorem goTimerM_f {m : List Int} (hl : m.length = 774) (h : 0 ≤ rd m 770) : 0 ≤ rd (goTimerM m) 770 := by
  unfold goTimerM
  split
  · exact h
  · split
    · rw [rd_stM_ne (by decide) (by decide) (by decide), rd_stM_same (by decide) (by rw [hl]; decide)]
      exact or_pos h (by decide)
    · rw [rd_stM_ne (by decide) (by decide) (by decide)]
      exact h
theorem come_kept {x : Bd} (hl : x.mem.length = 774) : Kept x (comeM x) 0 := by
  unfold comeM
  split
  · exact ⟨rfl, rfl, rfl, rfl, rfl, rfl, rfl, rfl, rfl, (Int.add_zero _).symm, takeLineM_len _ _, fun j h0 h1 h2 h3 => takeLineM_m h0 h2 h3, takeLineM_f hl⟩
  · exact ⟨rfl, rfl, rfl, rfl, rfl, rfl, rfl, rfl, rfl, (Int.add_zero _).symm, rfl, fun _ _ _ _ _ => rfl, id⟩
theorem one_kept {x : Bd} (hl : x.mem.length = 774) : Kept x (passOneM x) 1 := by
  have c := come_kept (x := { x with beat := x.beat + 1 }) hl
  have hl2 : (comeM { x with beat := x.beat + 1 }).mem.length = 774 := c.lm.trans hl
  exact ⟨c.a, c.b, c.z, c.pc, c.sp, c.le, c.as, c.se, c.st, by
    have := c.bt
    show (comeM { x with beat := x.beat + 1 }).beat = _
    rw [this]
    show x.beat + 1 + ((0 : Nat) : Int) = x.beat + ((1 : Nat) : Int)
    omega, (goTimerM_len _).trans c.lm, fun j h0 h1 h2 h3 => (goTimerM_far h0 h1 h2).trans (c.m j h0 h1 h2 h3), fun h => goTimerM_f hl2 (c.f h)⟩
theorem pass_kept : ∀ (k : Nat) {x : Bd}, x.mem.length = 774 → Kept x (passM k x) k
  | 0, x, _ => ⟨rfl, rfl, rfl, rfl, rfl, rfl, rfl, rfl, rfl, (Int.add_zero _).symm, rfl, fun _ _ _ _ _ => rfl, id⟩
  | k + 1, x, hl => by
    have c := one_kept hl
    have d := pass_kept k (x := passOneM x) (c.lm.trans hl)
    show Kept x (passM k (passOneM x)) (k + 1)
    exact ⟨d.a.trans c.a, d.b.trans c.b, d.z.trans c.z, d.pc.trans c.pc, d.sp.trans c.sp, d.le.trans c.le, d.as.trans c.as, d.se.trans c.se, d.st.trans c.st, by
      rw [d.bt, c.bt]
      omega, d.lm.trans c.lm, fun j h0 h1 h2 h3 => (d.m j h0 h1 h2 h3).trans (c.m j h0 h1 h2 h3), fun h => d.f (c.f h)⟩
theorem deed_ok {x : Bd} (p0 : 0 ≤ x.pc) (p1 : x.pc < 768) {op : Nat} {n : Int} (hw : rd x.mem x.pc = 1024 * op + n) (n0 : 0 ≤ n) (n1 : n < 1024) (o1 : 1 ≤ op) (o2 : op < 23) (hb : firstBad (touM op n x.b x.sp) = none) :
    deedM x = (("deed" : Str), passM (1 + (touM op n x.b x.sp).length) (doM op n (readsM x.mem (touM op n x.b x.sp)) { x with pc := x.pc + 1 })) := by
  have eo : opM x = op := by
    unfold opM
    rw [hw]
    omega
  have en : xM x = n := by
    unfold xM
    rw [hw]
    omega
  have et : toM x = touM op n x.b x.sp := by
    unfold toM
    rw [eo, en]
  unfold deedM
  rw [if_neg (fun z => z ⟨p0, p1⟩), eo, if_neg (by omega), if_neg (by omega), et, hb]
  unfold doneM
  rw [et, eo, en]
theorem and_le16 {x y : Int} (hx : 0 ≤ x) (hy : 0 ≤ y ∧ y ≤ 65535) : 0 ≤ Builtin.bitAnd x y ∧ Builtin.bitAnd x y ≤ 65535 := by
  refine ⟨and_pos hx hy.1, ?_⟩
  rw [← Int.toNat_of_nonneg hx, ← Int.toNat_of_nonneg hy.1, and_nat]
  have := Nat.and_le_right (n := x.toNat) (m := y.toNat)
  omega

theorem fbr {n : Int} (h0 : 0 ≤ n) (h1 : n < 774) : firstBad [(false, n)] = none := by
  rw [firstBad_cons]
  have : barM (false, n) = none := by
    unfold barM
    rw [if_neg (fun z => z ⟨h0, h1⟩), if_pos rfl]
  rw [this]
  rfl
theorem fbw {n : Int} (h0 : 512 ≤ n) (h1 : n < 774) (h2 : n ≠ 772) : firstBad [(true, n)] = none := by
  rw [firstBad_cons]
  have : barM (true, n) = none := by
    unfold barM
    rw [if_neg (fun z => z ⟨by show 0 ≤ n; omega, by show n < 774; omega⟩), if_neg (by intro z; cases z), if_neg (by show ¬ n < 512; omega), if_neg h2]
  rw [this]
  rfl
/-- a word put elsewhere than to a place that does more -/
theorem putw {n v : Int} (x : Bd) (h : n ≠ 773) (h2 : n ≠ 770) : putWM n v x = { x with mem := stM x.mem n v } := by
  unfold putWM
  have es : sendM n v x = x := if_neg h
  rw [es]
  have ep : putMM n v x.mem = stM x.mem n v := if_neg h2
  rw [ep]
theorem putf {v : Int} (x : Bd) : putWM 770 v x = { x with mem := stM x.mem 770 (Builtin.bitAnd (rd x.mem 770) (65535 - v)) } := by
  unfold putWM
  have es : sendM 770 v x = x := if_neg (by decide)
  rw [es]
  rfl
def PcM (p : Int) : Prop := p = 0 ∨ (10 ≤ p ∧ p ≤ 99)
theorem PcM.of {p q : Int} (e : p = q) (h : PcM q) : PcM p := by
  rw [e]
  exact h
def bas (F S g : Int) : Int := if g = 1 then F else S
def rout (g : Int) : Nat → Int
  | 0 => 1024 * 17 + 0
  | 1 => 1024 * 2 + (600 + g)
  | 2 => 1024 * 4 + 500
  | 3 => 1024 * 3 + (600 + g)
  | 4 => 1024 * 1 + g
  | 5 => 1024 * 3 + 770
  | 6 => 1024 * 18 + 0
  | _ => 1024 * 21 + 0
def Deed16 (w : Int) : Prop := w = 1024 * 22 + 0 ∨ w = 1024 * 1 + 0 ∨ w = 1024 * 1 + 9 ∨ w = 1024 * 10 + 0 ∨ w = 1024 * 2 + 512 ∨ w = 1024 * 11 + 0 ∨ w = 1024 * 20 + 1
structure Img (I : List Int) (F S T M : Int) : Prop where
  l : I.length = 501
  f : 100 ≤ F ∧ F ≤ 199
  s : 220 ≤ S ∧ S ≤ 319
  t : 0 ≤ T ∧ T < 1024
  m : 0 ≤ M ∧ M < 1024
  w0 : rd I 0 = 1024 * 12 + 10
  w1 : rd I 1 = 1024 * 12 + F
  w2 : rd I 2 = 1024 * 12 + S
  w10 : rd I 10 = 1024 * 1 + T
  w11 : rd I 11 = 1024 * 3 + 769
  w12 : rd I 12 = 1024 * 1 + M
  w13 : rd I 13 = 1024 * 3 + 771
  dl : ∀ j : Int, 14 ≤ j → j < 99 → Deed16 (rd I j)
  w99 : rd I 99 = 1024 * 12 + 23
  rf : ∀ g : Int, g = 1 ∨ g = 2 → ∀ r : Nat, r < 8 → rd I (bas F S g + r) = rout g r
  w500 : rd I 500 = 1
  ok : WordsOk I
structure Ah where
  a : Int
  b : Int
  pc : Int
  zero : Bool
  lets : Bool
  beat : Int
/-- what always holds -/
structure Cor (I : List Int) (x : Bd) (n1 n2 : Int) : Prop where
  st : x.stop = none
  se : x.sent = []
  lm : x.mem.length = 774
  fl : ∀ j : Int, 0 ≤ j → j < 501 → rd x.mem j = rd I j
  fn : 0 ≤ rd x.mem 770
  mk1 : 0 ≤ rd x.mem 771
  ar : 0 ≤ x.a ∧ x.a ≤ 65535
  br : 0 ≤ x.b ∧ x.b ≤ 65535
  as : x.asleep = false
  z5 : rd x.mem 512 = 0
  c1 : rd x.mem 601 = n1
  c2 : rd x.mem 602 = n2
structure Rou (F S : Int) (x : Bd) (g : Int) (r : Nat) (h : Ah) : Prop where
  g12 : g = 1 ∨ g = 2
  r8 : r ≤ 8
  le : x.lets = false
  b : x.b = h.b
  m7 : rd x.mem 767 = h.pc
  m6 : rd x.mem 766 = b2n h.zero
  hp : PcM h.pc
  ha : 0 ≤ h.a ∧ h.a ≤ 65535
  pc : x.pc = if r = 0 then g else bas F S g + ((r : Int) - 1)
  sp : x.sp = if 2 ≤ r ∧ r ≤ 7 then 764 else 765
  a1 : r ≤ 1 ∨ r = 8 → x.a = h.a
  a5 : 2 ≤ r → r ≤ 7 → rd x.mem 765 = h.a
def nOf (g n1 n2 : Int) : Int := if g = 1 then n1 else n2
theorem Cor.kept {I : List Int} {x y : Bd} {k : Nat} {n1 n2 : Int} (C : Cor I x n1 n2) (K : Kept x y k) : Cor I y n1 n2 where
  st := K.st.trans C.st
  se := K.se.trans C.se
  lm := K.lm.trans C.lm
  fl := fun j h0 h1 => (K.m j h0 (by omega) (by omega) (by omega)).trans (C.fl j h0 h1)
  fn := K.f C.fn
  mk1 := by rw [K.m 771 (by decide) (by decide) (by decide) (by decide)]; exact C.mk1
  ar := by rw [K.a]; exact C.ar
  br := by rw [K.b]; exact C.br
  as := K.as.trans C.as
  z5 := by rw [K.m 512 (by decide) (by decide) (by decide) (by decide)]; exact C.z5
  c1 := by rw [K.m 601 (by decide) (by decide) (by decide) (by decide)]; exact C.c1
  c2 := by rw [K.m 602 (by decide) (by decide) (by decide) (by decide)]; exact C.c2
theorem Rou.kept {F S : Int} {x y : Bd} {k : Nat} {g : Int} {r : Nat} {h : Ah} (R : Rou F S x g r h) (K : Kept x y k) : Rou F S y g r h where
  g12 := R.g12
  r8 := R.r8
  le := K.le.trans R.le
  b := K.b.trans R.b
  m7 := by rw [K.m 767 (by decide) (by decide) (by decide) (by decide)]; exact R.m7
  m6 := by rw [K.m 766 (by decide) (by decide) (by decide) (by decide)]; exact R.m6
  hp := R.hp
  ha := R.ha
  pc := K.pc.trans R.pc
  sp := K.sp.trans R.sp
  a1 := fun z => K.a.trans (R.a1 z)
  a5 := fun z1 z2 => by rw [K.m 765 (by decide) (by decide) (by decide) (by decide)]; exact R.a5 z1 z2
/-- a word of ram or a place is put -/
theorem Cor.put {I : List Int} {x : Bd} {n1 n2 : Int} (C : Cor I x n1 n2) {n v : Int} (h0 : 512 < n) (h1 : n < 774) (h2 : n ≠ 601) (h3 : n ≠ 602) (hv : 0 ≤ v) : Cor I { x with mem := stM x.mem n v } n1 n2 where
  st := C.st
  se := C.se
  lm := (stM_len _ _ _).trans C.lm
  fl := fun j q0 q1 => (rd_stM_ne (by omega) q0 (by omega)).trans (C.fl j q0 q1)
  fn := by
    show 0 ≤ rd (stM x.mem n v) 770
    by_cases h : n = 770
    · subst h
      rw [rd_stM_same (by decide) (by rw [C.lm]; decide)]
      exact hv
    · rw [rd_stM_ne (by omega) (by decide) h]
      exact C.fn
  mk1 := by
    show 0 ≤ rd (stM x.mem n v) 771
    by_cases h : n = 771
    · subst h
      rw [rd_stM_same (by decide) (by rw [C.lm]; decide)]
      exact hv
    · rw [rd_stM_ne (by omega) (by decide) h]
      exact C.mk1
  ar := C.ar
  br := C.br
  as := C.as
  z5 := (rd_stM_ne (by omega) (by decide) (by omega)).trans C.z5
  c1 := (rd_stM_ne (by omega) (by decide) h2).trans C.c1
  c2 := (rd_stM_ne (by omega) (by decide) h3).trans C.c2
/-- a turn that is a deed, of which what stays was shown ahead of the beats -/
theorem fin16 {x y0 : Bd} {k : Nat} (hl : y0.mem.length = 774) : Kept y0 (passM k y0) k := pass_kept k hl
/-- the main part's deed -/
theorem main16 {I : List Int} {F S T M : Int} (G : Img I F S T M) {x : Bd} {n1 n2 : Int} (C : Cor I x n1 n2) (hsp : x.sp = 767) (hpc : PcM x.pc) :
    ∃ y, deedM x = (("deed" : Str), y) ∧ Cor I y n1 n2 ∧ y.sp = 767 ∧ PcM y.pc := by
  have p0 : 0 ≤ x.pc := by unfold PcM at hpc; omega
  have p1 : x.pc < 768 := by unfold PcM at hpc; omega
  have wd : ∀ c : Int, rd I x.pc = c → rd x.mem x.pc = c := fun c e => (C.fl x.pc p0 (by unfold PcM at hpc; omega)).trans e
  have go : ∀ n : Int, rd I x.pc = 1024 * 12 + n → 0 ≤ n → n < 1024 → PcM n → ∃ y, deedM x = (("deed" : Str), y) ∧ Cor I y n1 n2 ∧ y.sp = 767 ∧ PcM y.pc := fun n hw n0 n1' hp => by
    have K := fin16 (x := x) (y0 := { x with pc := n }) (k := 1) C.lm
    have C0 : Cor I { x with pc := n } n1 n2 := { C with }
    exact ⟨_, deed_ok p0 p1 (op := 12) (wd _ hw) n0 n1' (by decide) (by decide) rfl, C0.kept K, K.sp.trans hsp, PcM.of K.pc hp⟩
  have lit : ∀ n : Int, rd I x.pc = 1024 * 1 + n → 0 ≤ n → n < 1024 → PcM (x.pc + 1) → ∃ y, deedM x = (("deed" : Str), y) ∧ Cor I y n1 n2 ∧ y.sp = 767 ∧ PcM y.pc := fun n hw n0 n1' hp => by
    have K := fin16 (x := x) (y0 := giveM n { x with pc := x.pc + 1 }) (k := 1) C.lm
    have C0 : Cor I (giveM n { x with pc := x.pc + 1 }) n1 n2 := { C with ar := ⟨n0, by show n ≤ 65535; omega⟩ }
    exact ⟨_, deed_ok p0 p1 (op := 1) (wd _ hw) n0 n1' (by decide) (by decide) rfl, C0.kept K, K.sp.trans hsp, PcM.of K.pc hp⟩
  have put : ∀ n : Int, rd I x.pc = 1024 * 3 + n → n = 769 ∨ n = 771 → PcM (x.pc + 1) → ∃ y, deedM x = (("deed" : Str), y) ∧ Cor I y n1 n2 ∧ y.sp = 767 ∧ PcM y.pc := fun n hw hn hp => by
    have d := deed_ok p0 p1 (op := 3) (wd _ hw) (by omega) (by omega) (by decide) (by decide) (show firstBad (touM 3 n x.b x.sp) = none from fbw (by omega) (by omega) (by omega))
    have d : deedM x = (("deed" : Str), passM 2 (putWM n x.a { x with pc := x.pc + 1 })) := d
    rw [putw _ (by omega) (by omega)] at d
    have C0 : Cor I { x with pc := x.pc + 1 } n1 n2 := { C with }
    have C1 := C0.put (n := n) (v := x.a) (by omega) (by omega) (by omega) (by omega) C.ar.1
    have K := fin16 (x := x) (y0 := { x with pc := x.pc + 1, mem := stM x.mem n x.a }) (k := 2) C1.lm
    exact ⟨_, d, C1.kept K, K.sp.trans hsp, PcM.of K.pc hp⟩
  have nx : 10 ≤ x.pc → x.pc < 99 → PcM (x.pc + 1) := fun h1 h2 => .inr (by omega)
  rcases hpc with e | ⟨e0, e1⟩
  · exact go 10 (by rw [e]; exact G.w0) (by decide) (by decide) (.inr (by decide))
  by_cases h10 : x.pc = 10
  · exact lit T (by rw [h10]; exact G.w10) G.t.1 G.t.2 (nx (by omega) (by omega))
  by_cases h11 : x.pc = 11
  · exact put 769 (by rw [h11]; exact G.w11) (.inl rfl) (nx (by omega) (by omega))
  by_cases h12 : x.pc = 12
  · exact lit M (by rw [h12]; exact G.w12) G.m.1 G.m.2 (nx (by omega) (by omega))
  by_cases h13 : x.pc = 13
  · exact put 771 (by rw [h13]; exact G.w13) (.inr rfl) (nx (by omega) (by omega))
  by_cases h99 : x.pc = 99
  · exact go 23 (by rw [h99]; exact G.w99) (by decide) (by decide) (.inr (by decide))
  have np := nx (by omega) (by omega)
  rcases G.dl x.pc (by omega) (by omega) with h | h | h | h | h | h | h
  · have K := fin16 (x := x) (y0 := giveM (x.a / 2) { x with pc := x.pc + 1 }) (k := 1) C.lm
    have C0 : Cor I (giveM (x.a / 2) { x with pc := x.pc + 1 }) n1 n2 := { C with ar := ⟨by show 0 ≤ x.a / 2; have := C.ar; omega, by show x.a / 2 ≤ 65535; have := C.ar; omega⟩ }
    exact ⟨_, deed_ok p0 p1 (op := 22) (wd _ h) (by decide) (by decide) (by decide) (by decide) rfl, C0.kept K, K.sp.trans hsp, PcM.of K.pc np⟩
  · exact lit 0 h (by decide) (by decide) np
  · exact lit 9 h (by decide) (by decide) np
  · have K := fin16 (x := x) (y0 := { x with pc := x.pc + 1, b := x.a }) (k := 1) C.lm
    have C0 : Cor I { x with pc := x.pc + 1, b := x.a } n1 n2 := { C with br := C.ar }
    exact ⟨_, deed_ok p0 p1 (op := 10) (wd _ h) (by decide) (by decide) (by decide) (by decide) rfl, C0.kept K, K.sp.trans hsp, PcM.of K.pc np⟩
  · have K := fin16 (x := x) (y0 := giveM (rd x.mem 512) { x with pc := x.pc + 1 }) (k := 2) C.lm
    have C0 : Cor I (giveM (rd x.mem 512) { x with pc := x.pc + 1 }) n1 n2 := { C with ar := by show 0 ≤ rd x.mem 512 ∧ rd x.mem 512 ≤ 65535; rw [C.z5]; exact ⟨by decide, by decide⟩ }
    exact ⟨_, deed_ok p0 p1 (op := 2) (wd _ h) (by decide) (by decide) (by decide) (by decide) (fbr (by decide) (by decide)), C0.kept K, K.sp.trans hsp, PcM.of K.pc np⟩
  · have K := fin16 (x := x) (y0 := { giveM x.b { x with pc := x.pc + 1 } with b := x.a }) (k := 1) C.lm
    have C0 : Cor I { giveM x.b { x with pc := x.pc + 1 } with b := x.a } n1 n2 := { C with ar := C.br, br := C.ar }
    exact ⟨_, deed_ok p0 p1 (op := 11) (wd _ h) (by decide) (by decide) (by decide) (by decide) rfl, C0.kept K, K.sp.trans hsp, PcM.of K.pc np⟩
  · have K := fin16 (x := x) (y0 := { x with pc := x.pc + 1, lets := decide ((1 : Int) % 2 = 1) }) (k := 1) C.lm
    have C0 : Cor I { x with pc := x.pc + 1, lets := decide ((1 : Int) % 2 = 1) } n1 n2 := { C with }
    exact ⟨_, deed_ok p0 p1 (op := 20) (wd _ h) (by decide) (by decide) (by decide) (by decide) rfl, C0.kept K, K.sp.trans hsp, PcM.of K.pc np⟩
/-- a deed of a routine -/
theorem rou16 {I : List Int} {F S T M : Int} (G : Img I F S T M) {x : Bd} {n1 n2 g : Int} {r : Nat} {h : Ah} (C : Cor I x n1 n2) (R : Rou F S x g r h) (hr : r < 8) (m1 : 0 ≤ n1 ∧ n1 ≤ 60000) (m2 : 0 ≤ n2 ∧ n2 ≤ 60000) (h3 : r = 3 → x.a = nOf g n1 n2) (h4 : r = 4 → x.a = nOf g n1 n2 + 1) :
    ∃ y, deedM x = (("deed" : Str), y) ∧ Cor I y (if r = 4 ∧ g = 1 then n1 + 1 else n1) (if r = 4 ∧ g = 2 then n2 + 1 else n2) ∧ Rou F S y g (r + 1) h ∧ (r = 2 → y.a = nOf g n1 n2) ∧ (r = 3 → y.a = nOf g n1 n2 + 1) := by
  have hb : 100 ≤ bas F S g ∧ bas F S g ≤ 319 := by
    have := G.f; have := G.s
    unfold bas
    split <;> omega
  have hng : 0 ≤ nOf g n1 n2 ∧ nOf g n1 n2 ≤ 60000 := by
    unfold nOf
    split
    · exact m1
    · exact m2
  have g12 := R.g12
  have hpc := R.pc
  have hsp := R.sp
  have ne4 : r ≠ 4 → Cor I x (if r = 4 ∧ g = 1 then n1 + 1 else n1) (if r = 4 ∧ g = 2 then n2 + 1 else n2) := fun z => by
    rw [if_neg (fun q => z q.1), if_neg (fun q => z q.1)]
    exact C
  have p0 : 0 ≤ x.pc := by rw [hpc]; split <;> omega
  have p1 : x.pc < 501 := by rw [hpc]; split <;> omega
  have wd : ∀ c : Int, rd I x.pc = c → rd x.mem x.pc = c := fun c e => (C.fl x.pc p0 p1).trans e
  have p2 : x.pc < 768 := by omega
  by_cases e0 : r = 0
  · subst e0
    have hp : x.pc = g := hpc
    have hw : rd I x.pc = 1024 * 12 + bas F S g := by
      rw [hp]
      unfold bas
      rcases g12 with rfl | rfl
      · exact G.w1
      · exact G.w2
    have K := fin16 (x := x) (y0 := { x with pc := bas F S g }) (k := 1) C.lm
    have C0 : Cor I { x with pc := bas F S g } n1 n2 := { C with }
    have R0 : Rou F S { x with pc := bas F S g } g 1 h := { R with
      r8 := by decide
      pc := by show bas F S g = _; rw [if_neg (by decide)]; omega
      sp := hsp
      a1 := fun _ => R.a1 (.inl (by decide))
      a5 := fun z _ => absurd z (by decide) }
    exact ⟨_, deed_ok p0 p2 (op := 12) (wd _ hw) (by omega) (by omega) (by decide) (by decide) rfl, C0.kept K, R0.kept K, fun z => (by cases z), fun z => (by cases z)⟩
  rw [if_neg e0] at hpc
  have hwr : rd I x.pc = rout g (r - 1) := by
    have := G.rf g g12 (r - 1) (by omega)
    rw [hpc, ← this]
    exact congrArg (rd I) (by omega)
  have hnx : x.pc + 1 = if r + 1 = 0 then g else bas F S g + (((r + 1 : Nat) : Int) - 1) := by
    rw [if_neg (by omega), hpc]
    omega
  rcases (show r = 1 ∨ r = 2 ∨ r = 3 ∨ r = 4 ∨ r = 5 ∨ r = 6 ∨ r = 7 by omega) with rfl | rfl | rfl | rfl | rfl | rfl | rfl
  · -- push
    have hs : x.sp = 765 := hsp
    have d := deed_ok p0 p2 (op := 17) (wd _ hwr) (by decide) (by decide) (by decide) (by decide) (show firstBad (touM 17 0 x.b x.sp) = none from by rw [hs]; exact fbw (by decide) (by decide) (by decide))
    have d : deedM x = (("deed" : Str), passM 2 { putWM x.sp x.a { x with pc := x.pc + 1 } with sp := x.sp - 1 }) := d
    rw [hs, putw _ (by decide) (by decide)] at d
    have C1 := C.put (n := 765) (v := x.a) (by decide) (by decide) (by decide) (by decide) C.ar.1
    have C2 : Cor I { x with pc := x.pc + 1, mem := stM x.mem 765 x.a, sp := 764 } n1 n2 := { C1 with }
    have K := fin16 (x := x) (y0 := { x with pc := x.pc + 1, mem := stM x.mem 765 x.a, sp := 764 }) (k := 2) C1.lm
    have R0 : Rou F S { x with pc := x.pc + 1, mem := stM x.mem 765 x.a, sp := 764 } g 2 h := { R with
      r8 := by decide
      m7 := (rd_stM_ne (by decide) (by decide) (by decide)).trans R.m7
      m6 := (rd_stM_ne (by decide) (by decide) (by decide)).trans R.m6
      pc := hnx
      sp := rfl
      a1 := fun z => absurd z (by decide)
      a5 := fun _ _ => (rd_stM_same (by decide) (by rw [C.lm]; decide)).trans (R.a1 (.inl (by decide))) }
    exact ⟨_, d, C2.kept K, R0.kept K, fun z => (by cases z), fun z => (by cases z)⟩
  · -- get
    have hs : x.sp = 764 := hsp
    have hw : rd x.mem (600 + g) = nOf g n1 n2 := by
      unfold nOf
      rcases g12 with rfl | rfl
      · exact C.c1
      · exact C.c2
    have K := fin16 (x := x) (y0 := giveM (rd x.mem (600 + g)) { x with pc := x.pc + 1 }) (k := 2) C.lm
    have C0 : Cor I (giveM (rd x.mem (600 + g)) { x with pc := x.pc + 1 }) n1 n2 := { C with ar := by show 0 ≤ rd x.mem (600 + g) ∧ rd x.mem (600 + g) ≤ 65535; rw [hw]; omega }
    have R0 : Rou F S (giveM (rd x.mem (600 + g)) { x with pc := x.pc + 1 }) g 3 h := { R with
      r8 := by decide
      pc := hnx
      sp := hs
      a1 := fun z => absurd z (by decide)
      a5 := fun _ _ => R.a5 (by decide) (by decide) }
    exact ⟨_, deed_ok p0 p2 (op := 2) (wd _ hwr) (by omega) (by omega) (by decide) (by decide) (fbr (by omega) (by omega)), C0.kept K, R0.kept K, fun _ => K.a.trans hw, fun z => (by cases z)⟩
  · -- add
    have hs : x.sp = 764 := hsp
    have h5 : rd x.mem 500 = 1 := (C.fl 500 (by decide) (by decide)).trans G.w500
    have ha : (x.a + rd x.mem 500) % 65536 = nOf g n1 n2 + 1 := by
      rw [h5, h3 rfl]
      omega
    have K := fin16 (x := x) (y0 := giveM ((x.a + rd x.mem 500) % 65536) { x with pc := x.pc + 1 }) (k := 2) C.lm
    have C0 : Cor I (giveM ((x.a + rd x.mem 500) % 65536) { x with pc := x.pc + 1 }) n1 n2 := { C with ar := by show 0 ≤ (x.a + rd x.mem 500) % 65536 ∧ (x.a + rd x.mem 500) % 65536 ≤ 65535; omega }
    have R0 : Rou F S (giveM ((x.a + rd x.mem 500) % 65536) { x with pc := x.pc + 1 }) g 4 h := { R with
      r8 := by decide
      pc := hnx
      sp := hs
      a1 := fun z => absurd z (by decide)
      a5 := fun _ _ => R.a5 (by decide) (by decide) }
    exact ⟨_, deed_ok p0 p2 (op := 4) (wd _ hwr) (by decide) (by decide) (by decide) (by decide) (fbr (by decide) (by decide)), C0.kept K, R0.kept K, fun z => (by cases z), fun _ => K.a.trans ha⟩
  · -- put
    have hs : x.sp = 764 := hsp
    have d := deed_ok p0 p2 (op := 3) (wd _ hwr) (by omega) (by omega) (by decide) (by decide) (show firstBad (touM 3 (600 + g) x.b x.sp) = none from fbw (by omega) (by omega) (by omega))
    have d : deedM x = (("deed" : Str), passM 2 (putWM (600 + g) x.a { x with pc := x.pc + 1 })) := d
    rw [putw _ (by omega) (by omega)] at d
    have hl : (stM x.mem (600 + g) x.a).length = 774 := (stM_len _ _ _).trans C.lm
    have K := fin16 (x := x) (y0 := { x with pc := x.pc + 1, mem := stM x.mem (600 + g) x.a }) (k := 2) hl
    have far : ∀ j : Int, 0 ≤ j → j ≠ 600 + g → rd (stM x.mem (600 + g) x.a) j = rd x.mem j := fun j q0 q1 => rd_stM_ne (by omega) q0 (Ne.symm q1)
    have C0 : Cor I { x with pc := x.pc + 1, mem := stM x.mem (600 + g) x.a } (if 4 = 4 ∧ g = 1 then n1 + 1 else n1) (if 4 = 4 ∧ g = 2 then n2 + 1 else n2) := {
      st := C.st
      se := C.se
      lm := hl
      fl := fun j q0 q1 => (far j q0 (by omega)).trans (C.fl j q0 q1)
      fn := by show 0 ≤ rd (stM x.mem (600 + g) x.a) 770; rw [far 770 (by decide) (by omega)]; exact C.fn
      mk1 := by show 0 ≤ rd (stM x.mem (600 + g) x.a) 771; rw [far 771 (by decide) (by omega)]; exact C.mk1
      ar := C.ar
      br := C.br
      as := C.as
      z5 := (far 512 (by decide) (by omega)).trans C.z5
      c1 := by
        show rd (stM x.mem (600 + g) x.a) 601 = _
        rcases g12 with rfl | rfl
        · rw [if_pos ⟨rfl, rfl⟩]
          exact (rd_stM_same (by decide) (by rw [C.lm]; decide)).trans (h4 rfl)
        · rw [if_neg (by decide)]
          exact (far 601 (by decide) (by decide)).trans C.c1
      c2 := by
        show rd (stM x.mem (600 + g) x.a) 602 = _
        rcases g12 with rfl | rfl
        · rw [if_neg (by decide)]
          exact (far 602 (by decide) (by decide)).trans C.c2
        · rw [if_pos ⟨rfl, rfl⟩]
          exact (rd_stM_same (by decide) (by rw [C.lm]; decide)).trans (h4 rfl) }
    have R0 : Rou F S { x with pc := x.pc + 1, mem := stM x.mem (600 + g) x.a } g 5 h := { R with
      r8 := by decide
      m7 := (far 767 (by decide) (by omega)).trans R.m7
      m6 := (far 766 (by decide) (by omega)).trans R.m6
      pc := hnx
      sp := hs
      a1 := fun z => absurd z (by decide)
      a5 := fun _ _ => (far 765 (by decide) (by omega)).trans (R.a5 (by decide) (by decide)) }
    exact ⟨_, d, C0.kept K, R0.kept K, fun z => (by cases z), fun z => (by cases z)⟩
  · -- lit
    have hs : x.sp = 764 := hsp
    have K := fin16 (x := x) (y0 := giveM g { x with pc := x.pc + 1 }) (k := 1) C.lm
    have C0 : Cor I (giveM g { x with pc := x.pc + 1 }) n1 n2 := { C with ar := by show 0 ≤ g ∧ g ≤ 65535; omega }
    have R0 : Rou F S (giveM g { x with pc := x.pc + 1 }) g 6 h := { R with
      r8 := by decide
      pc := hnx
      sp := hs
      a1 := fun z => absurd z (by decide)
      a5 := fun _ _ => R.a5 (by decide) (by decide) }
    exact ⟨_, deed_ok p0 p2 (op := 1) (wd _ hwr) (by omega) (by omega) (by decide) (by decide) rfl, C0.kept K, R0.kept K, fun z => (by cases z), fun z => (by cases z)⟩
  · -- flags
    have hs : x.sp = 764 := hsp
    have d := deed_ok p0 p2 (op := 3) (wd _ hwr) (by decide) (by decide) (by decide) (by decide) (show firstBad (touM 3 770 x.b x.sp) = none from fbw (by decide) (by decide) (by decide))
    have d : deedM x = (("deed" : Str), passM 2 (putWM 770 x.a { x with pc := x.pc + 1 })) := d
    rw [putf] at d
    have hv := and_le16 C.fn (y := 65535 - x.a) ⟨by have := C.ar; omega, by have := C.ar; omega⟩
    have C1 := C.put (n := 770) (v := Builtin.bitAnd (rd x.mem 770) (65535 - x.a)) (by decide) (by decide) (by decide) (by decide) hv.1
    have C2 : Cor I { x with pc := x.pc + 1, mem := stM x.mem 770 (Builtin.bitAnd (rd x.mem 770) (65535 - x.a)) } n1 n2 := { C1 with }
    have K := fin16 (x := x) (y0 := { x with pc := x.pc + 1, mem := stM x.mem 770 (Builtin.bitAnd (rd x.mem 770) (65535 - x.a)) }) (k := 2) C1.lm
    have R0 : Rou F S { x with pc := x.pc + 1, mem := stM x.mem 770 (Builtin.bitAnd (rd x.mem 770) (65535 - x.a)) } g 7 h := { R with
      r8 := by decide
      m7 := (rd_stM_ne (by decide) (by decide) (by decide)).trans R.m7
      m6 := (rd_stM_ne (by decide) (by decide) (by decide)).trans R.m6
      pc := hnx
      sp := hs
      a1 := fun z => absurd z (by decide)
      a5 := fun _ _ => (rd_stM_ne (by decide) (by decide) (by decide)).trans (R.a5 (by decide) (by decide)) }
    exact ⟨_, d, C2.kept K, R0.kept K, fun z => (by cases z), fun z => (by cases z)⟩
  · -- pop
    have hs : x.sp = 764 := hsp
    have d := deed_ok p0 p2 (op := 18) (wd _ hwr) (by decide) (by decide) (by decide) (by decide) (show firstBad (touM 18 0 x.b x.sp) = none from by rw [hs]; exact fbr (by decide) (by decide))
    have d : deedM x = (("deed" : Str), passM 2 (giveM (rd x.mem (x.sp + 1)) { x with pc := x.pc + 1, sp := x.sp + 1 })) := d
    have hv : rd x.mem (x.sp + 1) = h.a := by rw [hs]; exact R.a5 (by decide) (by decide)
    rw [hv, show x.sp + 1 = 765 by omega] at d
    have K := fin16 (x := x) (y0 := giveM h.a { x with pc := x.pc + 1, sp := 765 }) (k := 2) C.lm
    have C0 : Cor I (giveM h.a { x with pc := x.pc + 1, sp := 765 }) n1 n2 := { C with ar := R.ha }
    have R0 : Rou F S (giveM h.a { x with pc := x.pc + 1, sp := 765 }) g 8 h := { R with
      r8 := by decide
      pc := hnx
      sp := rfl
      a1 := fun _ => rfl
      a5 := fun _ z => absurd z (by decide) }
    exact ⟨_, d, C0.kept K, R0.kept K, fun z => (by cases z), fun z => (by cases z)⟩
theorem b2n_odd (z : Bool) : decide (b2n z % 2 = 1) = z := by cases z <;> rfl
/-- the way back -/
theorem back16 {I : List Int} {F S T M : Int} (G : Img I F S T M) {x : Bd} {n1 n2 g : Int} {h : Ah} (C : Cor I x n1 n2) (R : Rou F S x g 8 h) :
    ∃ y, deedM x = (("deed" : Str), y) ∧ Cor I y n1 n2 ∧ y.a = h.a ∧ y.b = h.b ∧ y.pc = h.pc ∧ y.sp = 767 ∧ y.zero = h.zero ∧ y.lets = true := by
  have hb : 100 ≤ bas F S g ∧ bas F S g ≤ 319 := by
    have := G.f; have := G.s
    unfold bas
    split <;> omega
  have hpc : x.pc = bas F S g + 7 := R.pc
  have hs : x.sp = 765 := R.sp
  have p0 : 0 ≤ x.pc := by omega
  have hw : rd x.mem x.pc = 1024 * 21 + 0 := by
    rw [C.fl x.pc p0 (by omega), hpc]
    exact G.rf g R.g12 7 (by decide)
  have d := deed_ok p0 (by omega) (op := 21) hw (by decide) (by decide) (by decide) (by decide) (show firstBad (touM 21 0 x.b x.sp) = none from by
    show firstBad [(false, x.sp + 1), (false, x.sp + 2)] = none
    rw [hs]
    decide +kernel)
  have d : deedM x = (("deed" : Str), passM 3 { x with sp := x.sp + 2, zero := decide (rd x.mem (x.sp + 1) % 2 = 1), pc := rd x.mem (x.sp + 2), lets := true }) := d
  have e6 : rd x.mem (x.sp + 1) = b2n h.zero := by rw [hs]; exact R.m6
  have e7 : rd x.mem (x.sp + 2) = h.pc := by rw [hs]; exact R.m7
  rw [e6, e7, b2n_odd, show x.sp + 2 = 767 by omega] at d
  have K := fin16 (x := x) (y0 := { x with sp := 767, zero := h.zero, pc := h.pc, lets := true }) (k := 3) C.lm
  have C0 : Cor I { x with sp := 767, zero := h.zero, pc := h.pc, lets := true } n1 n2 := { C with }
  exact ⟨_, d, C0.kept K, K.a.trans (R.a1 (.inr rfl)), K.b.trans R.b, K.pc, K.sp, K.z, K.le⟩
/-- an interrupt begins -/
theorem begin16 {I : List Int} {F S T M : Int} (G : Img I F S T M) {x : Bd} {n1 n2 : Int} (C : Cor I x n1 n2) (hsp : x.sp = 767) (hpc : PcM x.pc) :
    ∃ y g, intM x = (("interrupt" : Str), y) ∧ Cor I y n1 n2 ∧ Rou F S y g 0 ⟨x.a, x.b, x.pc, x.zero, x.lets, x.beat⟩ ∧ y.beat = x.beat + 3 ∧ y.zero = x.zero ∧ g = 2 - calledM x % 2 := by
  have fb : firstBad [(true, x.sp), (true, x.sp - 1)] = none := by
    rw [hsp]
    decide +kernel
  have ei : intM x = (("interrupt" : Str), begunM x) := by
    unfold intM
    rw [fb]
  have eb : begunM x = passM 3 { x with mem := stM (stM x.mem 767 x.pc) 766 (b2n x.zero), sp := 765, lets := false, pc := if Builtin.bitAnd (calledM x) 1 ≠ 0 then 1 else 2 } := by
    unfold begunM
    show passM 3 { putWM (x.sp - 1) (b2n x.zero) (putWM x.sp x.pc x) with sp := x.sp - 2, lets := false, pc := if Builtin.bitAnd (calledM x) 1 ≠ 0 then 1 else 2 } = _
    rw [hsp, putw x (by decide) (by decide), putw _ (by decide) (by decide)]
    rfl
  have cp : 0 ≤ calledM x := and_pos C.fn C.mk1
  have eg : (if Builtin.bitAnd (calledM x) 1 ≠ 0 then 1 else 2 : Int) = 2 - calledM x % 2 := by
    obtain ⟨n, hn⟩ : ∃ n : Nat, calledM x = (n : Int) := ⟨(calledM x).toNat, by omega⟩
    rw [hn, show (1 : Int) = ((1 : Nat) : Int) from rfl, and_nat, Nat.and_one_is_mod]
    split <;> omega
  rw [eb, eg] at ei
  have C1 := C.put (n := 767) (v := x.pc) (by decide) (by decide) (by decide) (by decide) (by unfold PcM at hpc; omega)
  have C2 := C1.put (n := 766) (v := b2n x.zero) (by decide) (by decide) (by decide) (by decide) (by unfold b2n; split <;> decide)
  have C3 : Cor I { x with mem := stM (stM x.mem 767 x.pc) 766 (b2n x.zero), sp := 765, lets := false, pc := 2 - calledM x % 2 } n1 n2 := { C2 with }
  have K := fin16 (x := x) (y0 := { x with mem := stM (stM x.mem 767 x.pc) 766 (b2n x.zero), sp := 765, lets := false, pc := 2 - calledM x % 2 }) (k := 3) C3.lm
  have R0 : Rou F S { x with mem := stM (stM x.mem 767 x.pc) 766 (b2n x.zero), sp := 765, lets := false, pc := 2 - calledM x % 2 } (2 - calledM x % 2) 0 ⟨x.a, x.b, x.pc, x.zero, x.lets, x.beat⟩ := {
    g12 := by omega
    r8 := by decide
    le := rfl
    b := rfl
    m7 := (rd_stM_ne (by decide) (by decide) (by decide)).trans (rd_stM_same (by decide) (by rw [C.lm]; decide))
    m6 := rd_stM_same (by decide) (by rw [stM_len, C.lm]; decide)
    hp := hpc
    ha := C.ar
    pc := rfl
    sp := rfl
    a1 := fun _ => rfl
    a5 := fun z _ => absurd z (by decide) }
  exact ⟨_, _, ei, C3.kept K, R0.kept K, K.bt, K.z, rfl⟩
/-- where a board is, and the law with it: c1, c2 the law's counts -/
inductive Ph where
  | main
  | rou (g : Int) (r : Nat) (h : Ah)
def Ph.ok (F S : Int) (x : Bd) (n1 n2 c1 c2 : Int) : Ph → Prop
  | .main => x.sp = 767 ∧ PcM x.pc ∧ c1 = n1 ∧ c2 = n2
  | .rou g r h => Rou F S x g r h ∧ h.lets = true ∧ (r = 3 → x.a = nOf g n1 n2) ∧ (r = 4 → x.a = nOf g n1 n2 + 1) ∧ c1 = (if g = 1 ∧ r ≤ 4 then n1 + 1 else n1) ∧ c2 = (if g = 2 ∧ r ≤ 4 then n2 + 1 else n2)
structure Sit16 (I : List Int) (F S : Int) (x : Bd) (n1 n2 c1 c2 : Int) (ph : Ph) : Prop where
  C : Cor I x n1 n2
  p1 : 0 ≤ n1
  p2 : 0 ≤ n2
  ok : ph.ok F S x n1 n2 c1 c2
/-- a turn, as the law looks at it -/
inductive Turn16 (I : List Int) (F S : Int) (x y : Bd) (n1 n2 c1 c2 : Int) : Ph → Str → Prop
  | began (g : Int) (s : Sit16 I F S y n1 n2 (if g = 1 then c1 + 1 else c1) (if g = 2 then c2 + 1 else c2) (.rou g 0 ⟨x.a, x.b, x.pc, x.zero, x.lets, x.beat⟩)) (le : x.lets = true) (due : 0 < calledM x) (hg : g = 2 - calledM x % 2) (bt : y.beat = x.beat + 3) (z : y.zero = x.zero) (sp : x.sp = 767) (nb : rd I x.pc ≠ 1024 * 21) : Turn16 I F S x y n1 n2 c1 c2 .main "interrupt"
  | main (s : Sit16 I F S y n1 n2 c1 c2 .main) (no : ¬ (x.lets = true ∧ 0 < calledM x)) (nb : rd I x.pc ≠ 1024 * 21) : Turn16 I F S x y n1 n2 c1 c2 .main "deed"
  | rou (g : Int) (r : Nat) (h : Ah) (m1 m2 : Int) (s : Sit16 I F S y m1 m2 c1 c2 (.rou g (r + 1) h)) (le : x.lets = false) (nb : rd I x.pc ≠ 1024 * 21) : Turn16 I F S x y n1 n2 c1 c2 (.rou g r h) "deed"
  | back (g : Int) (h : Ah) (s : Sit16 I F S y n1 n2 c1 c2 .main) (le : x.lets = false) (isb : rd I x.pc = 1024 * 21) (ya : y.a = h.a) (yb : y.b = h.b) (yp : y.pc = h.pc) (ys : y.sp = 767) (yz : y.zero = h.zero) (yl : y.lets = true) : Turn16 I F S x y n1 n2 c1 c2 (.rou g 8 h) "deed"
theorem deed_word {w : Int} (h : Deed16 w) : w ≠ 1024 * 21 := by unfold Deed16 at h; omega
theorem main_word {I : List Int} {F S T M : Int} (G : Img I F S T M) {p : Int} (h : PcM p) : rd I p ≠ 1024 * 21 := by
  have ht := G.t
  have hm := G.m
  rcases h with rfl | ⟨e0, e1⟩
  · rw [G.w0]; decide
  by_cases h10 : p = 10
  · rw [h10, G.w10]; omega
  by_cases h11 : p = 11
  · rw [h11, G.w11]; decide
  by_cases h12 : p = 12
  · rw [h12, G.w12]; omega
  by_cases h13 : p = 13
  · rw [h13, G.w13]; decide
  by_cases h99 : p = 99
  · rw [h99, G.w99]; decide
  exact deed_word (G.dl p (by omega) (by omega))
theorem turn16 {I : List Int} {F S T M : Int} (G : Img I F S T M) {x : Bd} {n1 n2 c1 c2 : Int} {ph : Ph} (Q : Sit16 I F S x n1 n2 c1 c2 ph) (m1 : n1 ≤ 60000) (m2 : n2 ≤ 60000) : ∃ y k, turnM x = (k, y) ∧ Turn16 I F S x y n1 n2 c1 c2 ph k := by
  have C := Q.C
  have cp : 0 ≤ calledM x := and_pos C.fn C.mk1
  have ex : { x with asleep := false } = x := by
    have := C.as
    cases x
    simp only at this
    subst this
    rfl
  have tn : ¬ (x.lets = true ∧ 0 < calledM x) → turnM x = deedM x := fun h => by
    unfold turnM
    rw [if_neg (fun z => z C.st), if_neg (fun z => by rw [C.as] at z; cases z.1), if_neg (fun z => h ⟨z.1, by omega⟩), ex]
  cases ph with
  | main =>
    obtain ⟨hsp, hpc, e1, e2⟩ := Q.ok
    by_cases hi : x.lets = true ∧ 0 < calledM x
    · obtain ⟨y, g, ei, C', R', hb, hz, hg⟩ := begin16 G C hsp hpc
      refine ⟨y, _, ?_, .began g ⟨C', Q.p1, Q.p2, R', hi.1, fun z => (by cases z), fun z => (by cases z), ?_, ?_⟩ hi.1 hi.2 hg hb hz hsp (main_word G hpc)⟩
      · unfold turnM
        rw [if_neg (fun z => z C.st), if_neg (fun z => by rw [C.as] at z; cases z.1), if_pos ⟨hi.1, by omega⟩, ex]
        exact ei
      · rw [e1]
        by_cases z : g = 1
        · rw [if_pos z, if_pos ⟨z, by decide⟩]
        · rw [if_neg z, if_neg (fun q => z q.1)]
      · rw [e2]
        by_cases z : g = 2
        · rw [if_pos z, if_pos ⟨z, by decide⟩]
        · rw [if_neg z, if_neg (fun q => z q.1)]
    · obtain ⟨y, ed, C', hs', hp'⟩ := main16 G C hsp hpc
      exact ⟨y, _, (tn hi).trans ed, .main ⟨C', Q.p1, Q.p2, hs', hp', e1, e2⟩ hi (main_word G hpc)⟩
  | rou g r h =>
    obtain ⟨R, hl, h3, h4, e1, e2⟩ := Q.ok
    have no : ¬ (x.lets = true ∧ 0 < calledM x) := fun z => by rw [R.le] at z; cases z.1
    have hb : 100 ≤ bas F S g ∧ bas F S g ≤ 319 := by
      have := G.f; have := G.s
      unfold bas
      split <;> omega
    by_cases h8 : r = 8
    · subst h8
      obtain ⟨y, ed, C', ya, yb, yp, ys, yz, yl⟩ := back16 G C R
      refine ⟨y, _, (tn no).trans ed, .back g h ⟨C', Q.p1, Q.p2, ys, PcM.of yp R.hp, ?_, ?_⟩ R.le ?_ ya yb yp ys yz yl⟩
      · rw [e1, if_neg (by omega)]
      · rw [e2, if_neg (by omega)]
      · have hpc : x.pc = bas F S g + 7 := R.pc
        rw [hpc]
        exact G.rf g R.g12 7 (by decide)
    · have r8 := R.r8
      obtain ⟨y, ed, C', R', y3, y4⟩ := rou16 G C R (by omega) ⟨Q.p1, m1⟩ ⟨Q.p2, m2⟩ h3 h4
      have hw : rd I x.pc ≠ 1024 * 21 := by
        have g12 := R.g12
        rw [R.pc]
        by_cases z : r = 0
        · rw [if_pos z]
          have := G.f; have := G.s
          rcases g12 with rfl | rfl
          · rw [G.w1]; omega
          · rw [G.w2]; omega
        · rw [if_neg z, show bas F S g + ((r : Int) - 1) = bas F S g + ((r - 1 : Nat) : Int) by omega, G.rf g g12 (r - 1) (by omega)]
          rcases (show r = 1 ∨ r = 2 ∨ r = 3 ∨ r = 4 ∨ r = 5 ∨ r = 6 ∨ r = 7 by omega) with rfl | rfl | rfl | rfl | rfl | rfl | rfl
          · show (1024 * 17 + 0 : Int) ≠ 1024 * 21; decide
          · show 1024 * 2 + (600 + g) ≠ 1024 * 21; omega
          · show (1024 * 4 + 500 : Int) ≠ 1024 * 21; decide
          · show 1024 * 3 + (600 + g) ≠ 1024 * 21; omega
          · show 1024 * 1 + g ≠ 1024 * 21; omega
          · show (1024 * 3 + 770 : Int) ≠ 1024 * 21; decide
          · show (1024 * 18 + 0 : Int) ≠ 1024 * 21; decide
      by_cases h4r : r = 4
      · subst h4r
        have g12 := R.g12
        refine ⟨y, _, (tn no).trans ed, .rou g 4 h _ _ ⟨C', ?_, ?_, R', hl, fun z => (by cases z), fun z => (by cases z), ?_, ?_⟩ R.le hw⟩
        · have := Q.p1; split <;> omega
        · have := Q.p2; split <;> omega
        · rw [e1]
          rcases g12 with rfl | rfl <;> simp
        · rw [e2]
          rcases g12 with rfl | rfl <;> simp
      · rw [if_neg (fun z => h4r z.1), if_neg (fun z => h4r z.1)] at C'
        refine ⟨y, _, (tn no).trans ed, .rou g r h _ _ ⟨C', Q.p1, Q.p2, R', hl, fun z => y3 (by omega), fun z => y4 (by omega), ?_, ?_⟩ R.le hw⟩
        · rw [e1]
          by_cases z : g = 1 ∧ r ≤ 4
          · rw [if_pos z, if_pos ⟨z.1, by omega⟩]
          · rw [if_neg z, if_neg (fun q => z ⟨q.1, by omega⟩)]
        · rw [e2]
          by_cases z : g = 2 ∧ r ≤ 4
          · rw [if_pos z, if_pos ⟨z.1, by omega⟩]
          · rw [if_neg z, if_neg (fun q => z ⟨q.1, by omega⟩)]
end Bh

/-! The law's own defs: its image and line. -/
namespace Bh
open PySem PySem.Spec PyProof.Rows L2
def But (l : Addr) (H H' : Hp) : Prop := ∀ b o, b ≠ l → H b = some o → H' b = some o
theorem But.trans {l : Addr} {H G J : Hp} (a : But l H G) (b : But l G J) : But l H J := fun c o n e => b c o n (a c o n e)
theorem But.of {l : Addr} {H G : Hp} (s : Same H G) : But l H G := fun c o _ e => s c o e
theorem rd_app {a b : List Int} {j : Int} (h : 0 ≤ j) : rd (a ++ b) j = if j < a.length then rd a j else rd b (j - a.length) := by
  unfold rd
  by_cases z : j < a.length
  · rw [if_pos z, List.getD_eq_getElem?_getD, List.getD_eq_getElem?_getD, List.getElem?_append_left (by omega)]
  · rw [if_neg z, List.getD_eq_getElem?_getD, List.getD_eq_getElem?_getD, List.getElem?_append_right (by omega)]
    rw [show j.toNat - a.length = (j - a.length).toNat by omega]
theorem rd_mem {a : List Int} {j : Int} (h : 0 ≤ j) (h1 : j < a.length) : rd a j ∈ a := by
  unfold rd
  have : j.toNat < a.length := by omega
  rw [List.getD_eq_getElem?_getD, List.getElem?_eq_getElem this]
  exact List.getElem_mem this
theorem deedAt {j : Int} (h0 : 0 ≤ j) (h1 : j < 6) : ∃ w : Int, atI [V.int (1024 * 22), V.int (1024 * 1), V.int (1024 * 1 + 9), V.int (1024 * 10), V.int (1024 * 2 + 512), V.int (1024 * 11)] j = some (.int w) ∧ Deed16 w := by
  have h : j = 0 ∨ j = 1 ∨ j = 2 ∨ j = 3 ∨ j = 4 ∨ j = 5 := by omega
  unfold Deed16
  rcases h with rfl | rfl | rfl | rfl | rfl | rfl <;> exact ⟨_, rfl, by omega⟩
/-- the image ahead of its routines -/
def pre16 (F S T M : Int) (A B : List Int) : List Int := [1024 * 12 + 10, 1024 * 12 + F, 1024 * 12 + S] ++ List.replicate 7 65535 ++ [1024 * 1 + T, 1024 * 3 + 769, 1024 * 1 + M, 1024 * 3 + 771] ++ A ++ [1024 * 20 + 1] ++ B ++ [1024 * 12 + 23] ++ List.replicate 240 65535
structure Pre (J : List Int) (F S T M : Int) : Prop where
  l : J.length = 340
  w0 : rd J 0 = 1024 * 12 + 10
  w1 : rd J 1 = 1024 * 12 + F
  w2 : rd J 2 = 1024 * 12 + S
  w10 : rd J 10 = 1024 * 1 + T
  w11 : rd J 11 = 1024 * 3 + 769
  w12 : rd J 12 = 1024 * 1 + M
  w13 : rd J 13 = 1024 * 3 + 771
  dl : ∀ j : Int, 14 ≤ j → j < 99 → Deed16 (rd J j)
  w99 : rd J 99 = 1024 * 12 + 23
  ok : WordsOk J
theorem deed_ok16 {w : Int} (h : Deed16 w) : 0 ≤ w ∧ w ≤ 65535 := by unfold Deed16 at h; omega
theorem pre_mk {F S T M : Int} (hF : 100 ≤ F ∧ F ≤ 199) (hS : 220 ≤ S ∧ S ≤ 319) (hT : 0 ≤ T ∧ T < 1024) (hM : 0 ≤ M ∧ M < 1024) {A B : List Int} (hA : ∀ w ∈ A, Deed16 w) (hB : ∀ w ∈ B, Deed16 w) (hl : A.length + B.length = 84) : Pre (pre16 F S T M A B) F S T M := by
  have e : pre16 F S T M A B = ([1024 * 12 + 10, 1024 * 12 + F, 1024 * 12 + S] ++ List.replicate 7 65535 ++ [1024 * 1 + T, 1024 * 3 + 769, 1024 * 1 + M, 1024 * 3 + 771]) ++ ((A ++ [1024 * 20 + 1] ++ B) ++ ([1024 * 12 + 23] ++ List.replicate 240 65535)) := by
    unfold pre16
    simp only [List.append_assoc]
  have l14 : (([1024 * 12 + 10, 1024 * 12 + F, 1024 * 12 + S] ++ List.replicate 7 65535 ++ [1024 * 1 + T, 1024 * 3 + 769, 1024 * 1 + M, 1024 * 3 + 771] : List Int)).length = 14 := rfl
  have l85 : (A ++ [1024 * 20 + 1] ++ B).length = 85 := by
    rw [List.length_append, List.length_append, List.length_singleton]
    omega
  have hC : ∀ w ∈ A ++ [1024 * 20 + 1] ++ B, Deed16 w := fun w hw => by
    rw [List.mem_append, List.mem_append, List.mem_singleton] at hw
    rcases hw with (h | h) | h
    · exact hA w h
    · rw [h]
      unfold Deed16
      omega
    · exact hB w h
  generalize hC2 : A ++ [1024 * 20 + 1] ++ B = C at *
  have lo : ∀ j : Int, 0 ≤ j → j < 14 → rd (pre16 F S T M A B) j = rd ([1024 * 12 + 10, 1024 * 12 + F, 1024 * 12 + S] ++ List.replicate 7 65535 ++ [1024 * 1 + T, 1024 * 3 + 769, 1024 * 1 + M, 1024 * 3 + 771]) j := fun j h0 h1 => by
    rw [e, rd_app h0, if_pos (by rw [l14]; exact h1)]
  refine ⟨?_, lo 0 (by decide) (by decide), lo 1 (by decide) (by decide), lo 2 (by decide) (by decide), lo 10 (by decide) (by decide), lo 11 (by decide) (by decide), lo 12 (by decide) (by decide), lo 13 (by decide) (by decide), fun j h0 h1 => ?_, ?_, fun n hn => ?_⟩
  · rw [e, List.length_append, l14, List.length_append, l85]
    rfl
  · rw [e, rd_app (by omega), if_neg (by rw [l14]; omega), l14, rd_app (by omega), if_pos (by rw [l85]; omega)]
    exact hC _ (rd_mem (by omega) (by rw [l85]; omega))
  · rw [e, rd_app (by decide), if_neg (by rw [l14]; decide), l14, rd_app (by decide), if_neg (by rw [l85]; decide), l85]
    rfl
  · rw [e] at hn
    simp only [List.mem_append, List.mem_cons, List.mem_replicate, List.not_mem_nil, or_false] at hn
    rcases hn with ((h | h) | h) | (h | (h | h))
    · omega
    · omega
    · omega
    · exact deed_ok16 (hC n h)
    · omega
    · omega
/-- the image, as the routines are laid -/
structure Lay (J ws : List Int) (F S : Int) (i : Nat) : Prop where
  l : ws.length = 340
  lo : ∀ j : Int, 0 ≤ j → j < 100 → rd ws j = rd J j
  r1 : 1 ≤ i → ∀ r : Nat, r < 8 → rd ws (F + r) = rout 1 r
  r2 : 2 ≤ i → ∀ r : Nat, r < 8 → rd ws (S + r) = rout 2 r
  ok : WordsOk ws
theorem ok_set {ws : List Int} {i v : Int} (h : WordsOk ws) (hv : 0 ≤ v ∧ v ≤ 65535) : WordsOk (stM ws i v) := fun n hn => by
  unfold stM at hn
  rcases List.mem_or_eq_of_mem_set hn with h1 | h1
  · exact h n h1
  · rw [h1]; exact hv
theorem rout_ok {g : Int} (h : g = 1 ∨ g = 2) : ∀ r : Nat, 0 ≤ rout g r ∧ rout g r ≤ 65535
  | 0 => by show 0 ≤ (1024 * 17 + 0 : Int) ∧ (1024 * 17 + 0 : Int) ≤ 65535; decide
  | 1 => by show 0 ≤ 1024 * 2 + (600 + g) ∧ 1024 * 2 + (600 + g) ≤ 65535; omega
  | 2 => by show 0 ≤ (1024 * 4 + 500 : Int) ∧ (1024 * 4 + 500 : Int) ≤ 65535; decide
  | 3 => by show 0 ≤ 1024 * 3 + (600 + g) ∧ 1024 * 3 + (600 + g) ≤ 65535; omega
  | 4 => by show 0 ≤ 1024 * 1 + g ∧ 1024 * 1 + g ≤ 65535; omega
  | 5 => by show 0 ≤ (1024 * 3 + 770 : Int) ∧ (1024 * 3 + 770 : Int) ≤ 65535; decide
  | 6 => by show 0 ≤ (1024 * 18 + 0 : Int) ∧ (1024 * 18 + 0 : Int) ≤ 65535; decide
  | n + 7 => by show 0 ≤ (1024 * 21 + 0 : Int) ∧ (1024 * 21 + 0 : Int) ≤ 65535; decide
/-- one word of a routine is laid -/
theorem Lay.one {J ws : List Int} {F S g : Int} {i k : Nat} (hF : 100 ≤ F ∧ F ≤ 199) (hS : 220 ≤ S ∧ S ≤ 319) (L : Lay J ws F S i) (hg : (i = 0 ∧ g = 1) ∨ (i = 1 ∧ g = 2)) (hk : k < 8) (h : ∀ r : Nat, r < k → rd ws (bas F S g + r) = rout g r) :
    Lay J (stM ws (bas F S g + k) (rout g k)) F S i ∧ ∀ r : Nat, r < k + 1 → rd (stM ws (bas F S g + k) (rout g k)) (bas F S g + r) = rout g r := by
  have hb : 100 ≤ bas F S g ∧ bas F S g ≤ 319 := by unfold bas; split <;> omega
  refine ⟨⟨(stM_len _ _ _).trans L.l, fun j h0 h1 => (rd_stM_ne (by omega) h0 (by omega)).trans (L.lo j h0 h1), fun hi r hr => ?_, fun hi r hr => by omega, ok_set L.ok (rout_ok (by omega) k)⟩, fun r hr => ?_⟩
  · have e : bas F S g = S := if_neg (by omega)
    rw [rd_stM_ne (by omega) (by omega) (by omega)]
    exact L.r1 hi r hr
  · by_cases z : r = k
    · rw [z]
      exact rd_stM_same (by omega) (by rw [L.l]; omega)
    · rw [rd_stM_ne (by omega) (by omega) (by omega)]
      exact h r (by omega)
theorem Lay.up {J ws : List Int} {F S g : Int} {i : Nat} (L : Lay J ws F S i) (hg : (i = 0 ∧ g = 1) ∨ (i = 1 ∧ g = 2)) (h : ∀ r : Nat, r < 8 → rd ws (bas F S g + r) = rout g r) : Lay J ws F S (i + 1) := by
  refine ⟨L.l, L.lo, fun _ r hr => ?_, fun hi r hr => ?_, L.ok⟩
  · rcases hg with ⟨rfl, rfl⟩ | ⟨rfl, rfl⟩
    · exact h r hr
    · exact L.r1 (by decide) r hr
  · rcases hg with ⟨rfl, rfl⟩ | ⟨rfl, rfl⟩
    · omega
    · exact h r hr
theorem img_mk {J ws : List Int} {F S T M : Int} (hF : 100 ≤ F ∧ F ≤ 199) (hS : 220 ≤ S ∧ S ≤ 319) (hT : 0 ≤ T ∧ T < 1024) (hM : 0 ≤ M ∧ M < 1024) (P : Pre J F S T M) (L : Lay J ws F S 2) : Img (ws ++ List.replicate 160 65535 ++ [1]) F S T M := by
  have hl : (ws ++ List.replicate 160 (65535 : Int)).length = 500 := by
    rw [List.length_append, L.l, List.length_replicate]
  have lo : ∀ j : Int, 0 ≤ j → j < 340 → rd (ws ++ List.replicate 160 65535 ++ [1]) j = rd ws j := fun j h0 h1 => by
    rw [List.append_assoc, rd_app h0, if_pos (by rw [L.l]; exact h1)]
  have l1 : ∀ j : Int, 0 ≤ j → j < 100 → rd (ws ++ List.replicate 160 65535 ++ [1]) j = rd J j := fun j h0 h1 => (lo j h0 (by omega)).trans (L.lo j h0 h1)
  refine ⟨?_, hF, hS, hT, hM, (l1 0 (by decide) (by decide)).trans P.w0, (l1 1 (by decide) (by decide)).trans P.w1, (l1 2 (by decide) (by decide)).trans P.w2, (l1 10 (by decide) (by decide)).trans P.w10, (l1 11 (by decide) (by decide)).trans P.w11, (l1 12 (by decide) (by decide)).trans P.w12, (l1 13 (by decide) (by decide)).trans P.w13, fun j h0 h1 => ?_, (l1 99 (by decide) (by decide)).trans P.w99, fun g hg r hr => ?_, ?_, fun n hn => ?_⟩
  · rw [List.length_append, hl]
    rfl
  · rw [l1 j (by omega) (by omega)]
    exact P.dl j h0 h1
  · unfold bas
    rcases hg with rfl | rfl
    · rw [if_pos rfl, lo _ (by omega) (by omega)]
      exact L.r1 (by decide) r hr
    · rw [if_neg (by decide), lo _ (by omega) (by omega)]
      exact L.r2 (by decide) r hr
  · rw [rd_app (by decide), if_neg (by rw [hl]; decide), hl]
    rfl
  · simp only [List.mem_append, List.mem_cons, List.mem_replicate, List.not_mem_nil, or_false] at hn
    rcases hn with (h | h) | h
    · exact L.ok n h
    · omega
    · omega
def lastB : Int → List (Int × Int) → Int
  | n, [] => n
  | _, r :: rs => lastB r.1 rs
theorem rise_snoc : ∀ {ls : List (Int × Int)} {n : Int} {r : Int × Int}, riseM n ls → lastB n ls < r.1 → 0 ≤ r.2 → r.2 ≤ 3 → riseM n (ls ++ [r])
  | [], _, _, _, h1, h2, h3 => ⟨h1, h2, h3, trivial⟩
  | u :: us, n, r, ⟨a, b, c, d⟩, h1, h2, h3 => ⟨a, b, c, rise_snoc (ls := us) d h1 h2 h3⟩
theorem lastB_snoc : ∀ (ls : List (Int × Int)) (n : Int) (r : Int × Int), lastB n (ls ++ [r]) = r.1
  | [], _, _ => rfl
  | u :: us, _, r => lastB_snoc us u.1 r
def spImg16 : Sp := fun vs H Q _ => ∃ (r : Addr) (ds : List Int), vs = [.ref r] ∧ H r = some (.lst (ds.map V.int)) ∧ ds.length = 60 ∧ DigOk ds ∧
  ∀ (H' : Hp) (t l : Addr) (F S T M : Int) (I : List Int), Same H H' → Img I F S T M → H' l = some (.lst (I.map V.int)) → H' t = some (.tup [.ref l, .int F, .int S]) → Q (.ref t) H'
def spLin16 : Sp := fun vs H Q _ => ∃ (r : Addr) (ds : List Int), vs = [.ref r] ∧ H r = some (.lst (ds.map V.int)) ∧ ds.length = 60 ∧ DigOk ds ∧
  ∀ (H' : Hp) (l : Addr) (us : List V) (ls : List (Int × Int)), Same H H' → H' l = some (.lst us) → TupsAt H' us ls → riseM 0 ls → Q (.ref l) H'
section
variable {P : Program} {w : World} {K : PySem.W.Frag} {mg : Str → Option Value} {base : Heap} {CB CM : Addr}
abbrev sLimg : Stmt := topS 68
def scLimgN : List Str := ["_law_row", "_law_first", "_law_second", "_law_image", "_law_deeds", "_law_at", "_law_flag", "_law_routine", "_law_k"]
theorem scLimg : FnScope scLimgN ["_law_row"] (defScope sLimg) := ⟨rfl, rfl, rfl, by decide +kernel, rfl, by decide +kernel, by decide +kernel⟩
theorem ok_Limg {f : Addr} {fd : FuncData} (F : Fun K "_law_image_of" "_law_image_of" sLimg f fd) (T : Tx K mg CB CM) : FnOk P w K mg base CX0 1 f fd ["_law_row"] (spImg16) := by
  refine F.ok scLimg (fun vs H Q E h => by obtain ⟨_, _, rfl, _⟩ := h; rfl) (fun cdv A outer s H vs Q E hr h => ?_)
  have hu := hu_of hr
  have z_len := T.z_len
  have z_range := T.z_range
  obtain ⟨r, ds, rfl, hR, hlen, hd, q⟩ := h
  refine ⟨_, (pss_cons (ps_par (i := 1) (j := 2) (by rfl) scLimg.nd rfl rfl (by decide) rfl rfl (pa_cons (pe_op op_add pe_int (pe_op op_mod (pe_ix ix_list (pv 0) pe_int (fun _ _ => rfl)) pe_int)) (pa_cons (pe_op op_add pe_int (pe_op op_mod (pe_ix ix_list (pv 0) pe_int (fun _ _ => rfl)) pe_int)) pa_nil)) (by rfl))
    (pss_cons (ps_set (i := 3) scLimg.nd rfl (.inl rfl) (pe_op op_cat (pe_lst (pa_cons (pe_op op_add (pe_op op_mul pe_int pe_int) pe_int) (pa_cons (pe_op op_add (pe_op op_mul pe_int pe_int) (pv 1)) (pa_cons (pe_op op_add (pe_op op_mul pe_int pe_int) (pv 2)) pa_nil)))) (pe_op op_rep (pe_lst (pa_cons pe_int pa_nil)) pe_int)))
    (pss_cons (ps_set (i := 3) scLimg.nd rfl (.inl rfl) (pe_op op_cat (pv 3) (pe_lst (pa_cons (pe_op op_add (pe_op op_add (pe_op op_mul pe_int pe_int) pe_int) (pe_op op_mod (pe_ix ix_list (pv 0) pe_int (fun _ _ => rfl)) pe_int)) (pa_cons (pe_op op_add (pe_op op_mul pe_int pe_int) pe_int) (pa_cons (pe_op op_add (pe_op op_mul pe_int pe_int) (pe_op op_mod (pe_ix ix_list (pv 0) pe_int (fun _ _ => rfl)) pe_int)) (pa_cons (pe_op op_add (pe_op op_mul pe_int pe_int) pe_int) pa_nil)))))))
    (pss_cons (ps_set (i := 4) scLimg.nd rfl (.inr rfl) (pe_lst (pa_cons (pe_op op_mul pe_int pe_int) (pa_cons (pe_op op_mul pe_int pe_int) (pa_cons (pe_op op_add (pe_op op_mul pe_int pe_int) pe_int) (pa_cons (pe_op op_mul pe_int pe_int) (pa_cons (pe_op op_add (pe_op op_mul pe_int pe_int) pe_int) (pa_cons (pe_op op_mul pe_int pe_int) pa_nil))))))))
    (pss_cons (ps_set (i := 3) scLimg.nd rfl (.inl rfl) (pe_op op_cat (pe_op op_cat (pv 3) (pe_lc (own := [("_law_k", 8)]) (g := gName 8) (tt := tYes) (by rfl) scLimg.nd (pi_range1 (by rfl) z_range (pa_cons (pe_op op_mod (pe_ix ix_list (pv 0) pe_int (fun _ _ => rfl)) pe_int) pa_nil)) (blkOk_by (own := [("_law_k", 8)]) (N := scLimgN) (sc := defScope sLimg) (by decide +kernel)) (fun _ _ _ _ _ => (pg_name (i := 8) scLimg.nd rfl (.inl rfl))) (fun _ _ _ _ _ => pts_nil) (fun _ _ _ _ _ => (pe_ix (ix_listK (K := K)) (pv 4) (pe_op op_mod (pe_ix (ix_listK (K := K)) (pv 0) (pe_op op_add pe_int (pv 8)) (fun _ _ => rfl)) pe_int) (fun _ _ => rfl))))) (pe_lst (pa_cons (pe_op op_add (pe_op op_mul pe_int pe_int) pe_int) pa_nil))))
    (pss_cons (ps_set (i := 3) scLimg.nd rfl (.inl rfl) (pe_op op_cat (pe_op op_cat (pv 3) (pe_lc (own := [("_law_k", 8)]) (g := gName 8) (tt := tYes) (by rfl) scLimg.nd (pi_range1 (by rfl) z_range (pa_cons (pe_op op_sub pe_int (pe_callB call_len_seq (by rfl) z_len PySem.boot_len (pa_cons (pv 3) pa_nil))) pa_nil)) (blkOk_by (own := [("_law_k", 8)]) (N := scLimgN) (sc := defScope sLimg) (by decide +kernel)) (fun _ _ _ _ _ => (pg_name (i := 8) scLimg.nd rfl (.inl rfl))) (fun _ _ _ _ _ => pts_nil) (fun _ _ _ _ _ => (pe_ix (ix_listK (K := K)) (pv 4) (pe_op op_mod (pe_ix (ix_listK (K := K)) (pv 0) (pe_op op_add pe_int (pe_op op_mod (pv 8) pe_int)) (fun _ _ => rfl)) pe_int) (fun _ _ => rfl))))) (pe_lst (pa_cons (pe_op op_add (pe_op op_mul pe_int pe_int) pe_int) pa_nil))))
    (pss_cons (ps_set (i := 3) scLimg.nd rfl (.inl rfl) (pe_op op_cat (pv 3) (pe_op op_rep (pe_lst (pa_cons pe_int pa_nil)) (pe_op op_sub pe_int (pe_callB call_len_seq (by rfl) z_len PySem.boot_len (pa_cons (pv 3) pa_nil))))))
    (pss_cons (ps_for PassesOwn.never rfl (pi_list (pe_lst (pa_cons (pe_tup (pa_cons (pv 1) (pa_cons pe_int pa_nil))) (pa_cons (pe_tup (pa_cons (pv 2) (pa_cons pe_int pa_nil))) pa_nil)))) (pg_tup rfl (pgs_cons (pg_name (i := 5) scLimg.nd rfl (.inl rfl)) (pgs_cons (pg_name (i := 6) scLimg.nd rfl (.inl rfl)) pgs_nil)))
      (pss_cons (ps_set (i := 7) scLimg.nd rfl (.inl rfl) (pe_lst (pa_cons (pe_op op_mul pe_int pe_int) (pa_cons (pe_op op_add (pe_op op_add (pe_op op_mul pe_int pe_int) pe_int) (pv 6)) (pa_cons (pe_op op_add (pe_op op_mul pe_int pe_int) pe_int) (pa_cons (pe_op op_add (pe_op op_add (pe_op op_mul pe_int pe_int) pe_int) (pv 6)) pa_nil))))))
    (pss_cons (ps_set (i := 7) scLimg.nd rfl (.inl rfl) (pe_op op_cat (pv 7) (pe_lst (pa_cons (pe_op op_add (pe_op op_mul pe_int pe_int) (pv 6)) (pa_cons (pe_op op_add (pe_op op_mul pe_int pe_int) pe_int) (pa_cons (pe_op op_mul pe_int pe_int) (pa_cons (pe_op op_mul pe_int pe_int) pa_nil)))))))
    (pss_one (ps_for PassesOwn.never rfl (pi_range1 (by rfl) z_range (pa_cons pe_int pa_nil)) (pg_name (i := 8) scLimg.nd rfl (.inl rfl))
      (pss_one (ps_asg (pe_ix ix_list (pv 7) (pv 8) (fun _ _ => rfl)) (pg_sub (pv 3) (pe_op op_add (pv 5) (pv 8)) set_list))))))))
    (pss_cons (ps_set (i := 3) scLimg.nd rfl (.inl rfl) (pe_op op_cat (pe_op op_cat (pv 3) (pe_op op_rep (pe_lst (pa_cons pe_int pa_nil)) (pe_op op_sub pe_int (pe_callB call_len_seq (by rfl) z_len PySem.boot_len (pa_cons (pv 3) pa_nil))))) (pe_lst (pa_cons pe_int pa_nil))))
    (pss_one (ps_ret (pe_tup (pa_cons (pv 3) (pa_cons (pv 1) (pa_cons (pv 2) pa_nil))))))))))))))), ?_⟩
  have s0 : Same H H := Same.refl _
  obtain ⟨d0, e0, b0, c0⟩ := atN hd (j := 0) (by decide) (by rw [hlen]; decide)
  obtain ⟨d1, e1, b1, c1⟩ := atN hd (j := 1) (by decide) (by rw [hlen]; decide)
  obtain ⟨d2, e2, b2, c2⟩ := atN hd (j := 2) (by decide) (by rw [hlen]; decide)
  obtain ⟨d3, e3, b3, c3⟩ := atN hd (j := 3) (by decide) (by rw [hlen]; decide)
  obtain ⟨d5, e5, b5, c5⟩ := atN hd (j := 5) (by decide) (by rw [hlen]; decide)
  refine ⟨_, rfl, r, _, 0, _, rfl, rfl, SqL.of (s0 _ _ hR), e0, _, _, rfl, rfl, (by show (0 : Int) < 100; decide), _, _, rfl, rfl, _, rfl, r, _, 1, _, rfl, rfl, SqL.of (s0 _ _ hR), e1, _, _, rfl, rfl, (by show (0 : Int) < 100; decide), _, _, rfl, rfl, .int (100 + d0 % 100), .int (220 + d1 % 100), rfl, ?_⟩
  refine ⟨_, _, rfl, rfl, .inl ⟨by decide, by decide⟩, _, _, rfl, rfl, _, _, rfl, rfl, .inl ⟨by decide, by decide⟩, _, rfl, _, _, rfl, rfl, _, _, rfl, rfl, .inl ⟨by decide, by decide⟩, _, rfl, _, _, rfl, rfl, (by show 3 ≤ sizeLine; decide), fun l1 n1 => ?_⟩
  have s1 := s0.trans (same_upd' (o := .lst [V.int (1024 * 12 + 10), V.int (1024 * 12 + (100 + d0 % 100)), V.int (1024 * 12 + (220 + d1 % 100))]) n1)
  have r1 := same_upd' (o := .lst [V.int (1024 * 12 + 10), V.int (1024 * 12 + (100 + d0 % 100)), V.int (1024 * 12 + (220 + d1 % 100))]) n1
  have h1 : upd H l1 (.lst [V.int (1024 * 12 + 10), V.int (1024 * 12 + (100 + d0 % 100)), V.int (1024 * 12 + (220 + d1 % 100))]) l1 = some (.lst [V.int (1024 * 12 + 10), V.int (1024 * 12 + (100 + d0 % 100)), V.int (1024 * 12 + (220 + d1 % 100))]) := upd_same
  generalize upd H l1 (.lst [V.int (1024 * 12 + 10), V.int (1024 * 12 + (100 + d0 % 100)), V.int (1024 * 12 + (220 + d1 % 100))]) = G1 at *
  refine ⟨(by show 1 ≤ sizeLine; decide), fun l2 n2 => ?_⟩
  have s2 := s1.trans (same_upd' (o := .lst [V.int 65535]) n2)
  have r2 := same_upd' (o := .lst [V.int 65535]) n2
  have h2 : upd G1 l2 (.lst [V.int 65535]) l2 = some (.lst [V.int 65535]) := upd_same
  generalize upd G1 l2 (.lst [V.int 65535]) = G2 at *
  refine ⟨l2, _, _, rfl, rfl, h2, by decide, by decide, (by show 1 * 7 ≤ sizeLine; decide), fun l3 n3 => ?_⟩
  have e7 : (List.replicate ((7 : Int)).toNat [V.int 65535]).flatten = (List.replicate 7 (65535 : Int)).map V.int := flat_rep 7 65535
  rw [e7]
  clear e7
  have s3 := s2.trans (same_upd' (o := .lst ((List.replicate 7 (65535 : Int)).map V.int)) n3)
  have r3 := same_upd' (o := .lst ((List.replicate 7 (65535 : Int)).map V.int)) n3
  have h3 : upd G2 l3 (.lst ((List.replicate 7 (65535 : Int)).map V.int)) l3 = some (.lst ((List.replicate 7 (65535 : Int)).map V.int)) := upd_same
  generalize upd G2 l3 (.lst ((List.replicate 7 (65535 : Int)).map V.int)) = G3 at *
  have h1 := r3 _ _ (r2 _ _ h1)
  refine ⟨l1, l3, _, _, rfl, rfl, h1, h3, (by show 3 + 7 ≤ sizeLine; decide), fun l4 n4 => ?_⟩
  have s4 := s3.trans (same_upd' (o := .lst ([V.int (1024 * 12 + 10), V.int (1024 * 12 + (100 + d0 % 100)), V.int (1024 * 12 + (220 + d1 % 100))] ++ (List.replicate 7 (65535 : Int)).map V.int)) n4)
  have r4 := same_upd' (o := .lst ([V.int (1024 * 12 + 10), V.int (1024 * 12 + (100 + d0 % 100)), V.int (1024 * 12 + (220 + d1 % 100))] ++ (List.replicate 7 (65535 : Int)).map V.int)) n4
  have h4 : upd G3 l4 (.lst ([V.int (1024 * 12 + 10), V.int (1024 * 12 + (100 + d0 % 100)), V.int (1024 * 12 + (220 + d1 % 100))] ++ (List.replicate 7 (65535 : Int)).map V.int)) l4 = some (.lst ([V.int (1024 * 12 + 10), V.int (1024 * 12 + (100 + d0 % 100)), V.int (1024 * 12 + (220 + d1 % 100))] ++ (List.replicate 7 (65535 : Int)).map V.int)) := upd_same
  generalize upd G3 l4 (.lst ([V.int (1024 * 12 + 10), V.int (1024 * 12 + (100 + d0 % 100)), V.int (1024 * 12 + (220 + d1 % 100))] ++ (List.replicate 7 (65535 : Int)).map V.int)) = G4 at *
  have h4 : G4 l4 = some (.lst (([1024 * 12 + 10, 1024 * 12 + (100 + d0 % 100), 1024 * 12 + (220 + d1 % 100)] ++ List.replicate 7 65535 : List Int).map V.int)) := by
    rw [h4]
    simp only [List.map_append]
    rfl
  refine ⟨_, rfl, _, _, rfl, rfl, .inl ⟨by decide, by decide⟩, _, _, rfl, rfl, _, rfl, r, _, 2, _, rfl, rfl, SqL.of (s4 _ _ hR), e2, _, _, rfl, rfl, (by show (0 : Int) < 40; decide), _, _, rfl, rfl, _, _, rfl, rfl, .inl ⟨by decide, by decide⟩, _, _, rfl, rfl, _, _, rfl, rfl, .inl ⟨by decide, by decide⟩, _, rfl, r, _, 3, _, rfl, rfl, SqL.of (s4 _ _ hR), e3, _, _, rfl, rfl, (by show (0 : Int) < 4; decide), _, _, rfl, rfl, _, _, rfl, rfl, .inl ⟨by decide, by decide⟩, _, _, rfl, rfl, (by show 4 ≤ sizeLine; decide), fun l5 n5 => ?_⟩
  have s5 := s4.trans (same_upd' (o := .lst [V.int (1024 * 1 + 12 + d2 % 40), V.int (1024 * 3 + 769), V.int (1024 * 1 + d3 % 4), V.int (1024 * 3 + 771)]) n5)
  have r5 := same_upd' (o := .lst [V.int (1024 * 1 + 12 + d2 % 40), V.int (1024 * 3 + 769), V.int (1024 * 1 + d3 % 4), V.int (1024 * 3 + 771)]) n5
  have h5 : upd G4 l5 (.lst [V.int (1024 * 1 + 12 + d2 % 40), V.int (1024 * 3 + 769), V.int (1024 * 1 + d3 % 4), V.int (1024 * 3 + 771)]) l5 = some (.lst [V.int (1024 * 1 + 12 + d2 % 40), V.int (1024 * 3 + 769), V.int (1024 * 1 + d3 % 4), V.int (1024 * 3 + 771)]) := upd_same
  generalize upd G4 l5 (.lst [V.int (1024 * 1 + 12 + d2 % 40), V.int (1024 * 3 + 769), V.int (1024 * 1 + d3 % 4), V.int (1024 * 3 + 771)]) = G5 at *
  have h4 := r5 _ _ h4
  refine ⟨l4, l5, _, _, rfl, rfl, h4, h5, (by show 10 + 4 ≤ sizeLine; decide), fun l6 n6 => ?_⟩
  have s6 := s5.trans (same_upd' (o := .lst (([1024 * 12 + 10, 1024 * 12 + (100 + d0 % 100), 1024 * 12 + (220 + d1 % 100)] ++ List.replicate 7 65535 : List Int).map V.int ++ [V.int (1024 * 1 + 12 + d2 % 40), V.int (1024 * 3 + 769), V.int (1024 * 1 + d3 % 4), V.int (1024 * 3 + 771)])) n6)
  have r6 := same_upd' (o := .lst (([1024 * 12 + 10, 1024 * 12 + (100 + d0 % 100), 1024 * 12 + (220 + d1 % 100)] ++ List.replicate 7 65535 : List Int).map V.int ++ [V.int (1024 * 1 + 12 + d2 % 40), V.int (1024 * 3 + 769), V.int (1024 * 1 + d3 % 4), V.int (1024 * 3 + 771)])) n6
  have h6 : upd G5 l6 (.lst (([1024 * 12 + 10, 1024 * 12 + (100 + d0 % 100), 1024 * 12 + (220 + d1 % 100)] ++ List.replicate 7 65535 : List Int).map V.int ++ [V.int (1024 * 1 + 12 + d2 % 40), V.int (1024 * 3 + 769), V.int (1024 * 1 + d3 % 4), V.int (1024 * 3 + 771)])) l6 = some (.lst (([1024 * 12 + 10, 1024 * 12 + (100 + d0 % 100), 1024 * 12 + (220 + d1 % 100)] ++ List.replicate 7 65535 : List Int).map V.int ++ [V.int (1024 * 1 + 12 + d2 % 40), V.int (1024 * 3 + 769), V.int (1024 * 1 + d3 % 4), V.int (1024 * 3 + 771)])) := upd_same
  generalize upd G5 l6 (.lst (([1024 * 12 + 10, 1024 * 12 + (100 + d0 % 100), 1024 * 12 + (220 + d1 % 100)] ++ List.replicate 7 65535 : List Int).map V.int ++ [V.int (1024 * 1 + 12 + d2 % 40), V.int (1024 * 3 + 769), V.int (1024 * 1 + d3 % 4), V.int (1024 * 3 + 771)])) = G6 at *
  have h6 : G6 l6 = some (.lst (([1024 * 12 + 10, 1024 * 12 + (100 + d0 % 100), 1024 * 12 + (220 + d1 % 100)] ++ List.replicate 7 65535 ++ [1024 * 1 + 12 + d2 % 40, 1024 * 3 + 769, 1024 * 1 + d3 % 4, 1024 * 3 + 771] : List Int).map V.int)) := by
    rw [h6]
    simp only [List.map_append]
    rfl
  have hl6 : ([1024 * 12 + 10, 1024 * 12 + (100 + d0 % 100), 1024 * 12 + (220 + d1 % 100)] ++ List.replicate 7 65535 ++ [1024 * 1 + 12 + d2 % 40, 1024 * 3 + 769, 1024 * 1 + d3 % 4, 1024 * 3 + 771] : List Int).length = 14 := rfl
  generalize hJ2 : ([1024 * 12 + 10, 1024 * 12 + (100 + d0 % 100), 1024 * 12 + (220 + d1 % 100)] ++ List.replicate 7 65535 ++ [1024 * 1 + 12 + d2 % 40, 1024 * 3 + 769, 1024 * 1 + d3 % 4, 1024 * 3 + 771] : List Int) = K2 at *
  refine ⟨_, _, rfl, rfl, .inl ⟨by decide, by decide⟩, _, _, rfl, rfl, .inl ⟨by decide, by decide⟩, _, _, rfl, rfl, .inl ⟨by decide, by decide⟩, _, _, rfl, rfl, _, _, rfl, rfl, .inl ⟨by decide, by decide⟩, _, _, rfl, rfl, .inl ⟨by decide, by decide⟩, _, _, rfl, rfl, _, _, rfl, rfl, .inl ⟨by decide, by decide⟩, (by show 6 ≤ sizeLine; decide), fun l7 n7 => ?_⟩
  have s7 := s6.trans (same_upd' (o := .lst [V.int (1024 * 22), V.int (1024 * 1), V.int (1024 * 1 + 9), V.int (1024 * 10), V.int (1024 * 2 + 512), V.int (1024 * 11)]) n7)
  have r7 := same_upd' (o := .lst [V.int (1024 * 22), V.int (1024 * 1), V.int (1024 * 1 + 9), V.int (1024 * 10), V.int (1024 * 2 + 512), V.int (1024 * 11)]) n7
  have h7 : upd G6 l7 (.lst [V.int (1024 * 22), V.int (1024 * 1), V.int (1024 * 1 + 9), V.int (1024 * 10), V.int (1024 * 2 + 512), V.int (1024 * 11)]) l7 = some (.lst [V.int (1024 * 22), V.int (1024 * 1), V.int (1024 * 1 + 9), V.int (1024 * 10), V.int (1024 * 2 + 512), V.int (1024 * 11)]) := upd_same
  generalize upd G6 l7 (.lst [V.int (1024 * 22), V.int (1024 * 1), V.int (1024 * 1 + 9), V.int (1024 * 10), V.int (1024 * 2 + 512), V.int (1024 * 11)]) = G7 at *
  have h6 := r7 _ _ h6
  refine ⟨_, rfl, _, rfl, r, _, 5, _, rfl, rfl, SqL.of (s7 _ _ hR), e5, _, _, rfl, rfl, (by show (0 : Int) < 9; decide), d5 % 9, rfl, by omega, by omega, fun DA nDA => ?_⟩
  refine lc_range (lo := 0) (n := (d5 % 9).toNat) (fun i H' => ∃ A : List Int, Same G7 H' ∧ H' DA = some (.lst (A.map V.int)) ∧ A.length = i ∧ ∀ w ∈ A, Deed16 w) ⟨[], same_upd' nDA, upd_same, rfl, fun _ h => nomatch h⟩ ?_ ?_
  · rintro i H' hi ⟨A, sm, hD, hlA, hdA⟩
    have hi9 : (i : Int) < d5 % 9 := by omega
    obtain ⟨u1, f1, g1, g2⟩ := atN hd (j := 4 + (0 + (i : Int))) (by omega) (by rw [hlen]; omega)
    obtain ⟨wd, ew, hwd⟩ := deedAt (j := u1 % 6) (by omega) (by omega)
    refine ⟨rfl, ?_⟩
    refine ⟨_, rfl, _, rfl, _, rfl, _, _, rfl, rfl, r, _, _, _, rfl, rfl, SqL.of (sm _ _ (s7 _ _ hR)), f1, _, _, rfl, rfl, (by show (0 : Int) < 6; decide), l7, _, _, _, rfl, rfl, SqL.of (sm _ _ h7), ew, ?_⟩
    refine ⟨_, hD, (by rw [List.length_map]; exact hsz (by omega)), A ++ [wd], same_of sm nDA, ?_, by rw [List.length_append, hlA]; rfl, fun w hw => ?_⟩
    · rw [upd_same, List.map_append]
      rfl
    · rcases List.mem_append.mp hw with h | h
      · exact hdA w h
      · rw [List.mem_singleton.mp h]
        exact hwd
  rintro G8 ⟨A_, s8, hDA, hlA, hdA⟩
  have h6 := s8 _ _ h6
  have h7 := s8 _ _ h7
  have s8 := s7.trans s8
  have hlA9 : A_.length ≤ 8 := by omega
  refine ⟨l6, DA, _, _, rfl, rfl, h6, hDA, (by rw [List.length_map, List.length_map, hl6]; exact hsz (by omega)), fun l9 n9 => ?_⟩
  have s9 := s8.trans (same_upd' (o := .lst (K2.map V.int ++ A_.map V.int)) n9)
  have r9 := same_upd' (o := .lst (K2.map V.int ++ A_.map V.int)) n9
  have h9 : upd G8 l9 (.lst (K2.map V.int ++ A_.map V.int)) l9 = some (.lst (K2.map V.int ++ A_.map V.int)) := upd_same
  generalize upd G8 l9 (.lst (K2.map V.int ++ A_.map V.int)) = G9 at *
  have h7 := r9 _ _ h7
  refine ⟨_, _, rfl, rfl, .inl ⟨by decide, by decide⟩, _, _, rfl, rfl, (by show 1 ≤ sizeLine; decide), fun l10 n10 => ?_⟩
  have s10 := s9.trans (same_upd' (o := .lst [V.int (1024 * 20 + 1)]) n10)
  have r10 := same_upd' (o := .lst [V.int (1024 * 20 + 1)]) n10
  have h10 : upd G9 l10 (.lst [V.int (1024 * 20 + 1)]) l10 = some (.lst [V.int (1024 * 20 + 1)]) := upd_same
  generalize upd G9 l10 (.lst [V.int (1024 * 20 + 1)]) = G10 at *
  have h9 := r10 _ _ h9
  have h7 := r10 _ _ h7
  refine ⟨l9, l10, _, _, rfl, rfl, h9, h10, (by rw [List.length_append, List.length_map, List.length_map, hl6]; exact hsz (by show 14 + A_.length + 1 ≤ 100000; omega)), fun l11 n11 => ?_⟩
  have s11 := s10.trans (same_upd' (o := .lst (K2.map V.int ++ A_.map V.int ++ [V.int (1024 * 20 + 1)])) n11)
  have r11 := same_upd' (o := .lst (K2.map V.int ++ A_.map V.int ++ [V.int (1024 * 20 + 1)])) n11
  have h11 : upd G10 l11 (.lst (K2.map V.int ++ A_.map V.int ++ [V.int (1024 * 20 + 1)])) l11 = some (.lst (K2.map V.int ++ A_.map V.int ++ [V.int (1024 * 20 + 1)])) := upd_same
  generalize upd G10 l11 (.lst (K2.map V.int ++ A_.map V.int ++ [V.int (1024 * 20 + 1)])) = G11 at *
  have h7 := r11 _ _ h7
  have h11 : G11 l11 = some (.lst ((K2 ++ A_ ++ [1024 * 20 + 1]).map V.int)) := by
    rw [h11]
    simp only [List.map_append]
    rfl
  have hl11 : ((K2 ++ A_ ++ [1024 * 20 + 1] : List Int)).length = 15 + A_.length := by
    rw [List.length_append, List.length_append, hl6]
    show 14 + A_.length + 1 = _
    omega
  generalize hK3 : (K2 ++ A_ ++ [1024 * 20 + 1] : List Int) = K3 at *
  refine ⟨_, rfl, _, rfl, l11, _, rfl, .inl (SqL.of h11), _, _, rfl, rfl, 99 - (15 + (A_.length : Int)), (by rw [List.length_map, hl11]; rfl), by omega, by omega, fun DB nDB => ?_⟩
  refine lc_range (lo := 0) (n := (99 - (15 + (A_.length : Int))).toNat) (fun i H' => ∃ B : List Int, Same G11 H' ∧ H' DB = some (.lst (B.map V.int)) ∧ B.length = i ∧ ∀ w ∈ B, Deed16 w) ⟨[], same_upd' nDB, upd_same, rfl, fun _ h => nomatch h⟩ ?_ ?_
  · rintro i H' hi ⟨B, sm, hD, hlA, hdA⟩
    have hi9 : (i : Int) < 99 - (15 + (A_.length : Int)) := by omega
    obtain ⟨u1, f1, g1, g2⟩ := atN hd (j := 20 + (0 + (i : Int)) % 39) (by omega) (by rw [hlen]; omega)
    obtain ⟨wd, ew, hwd⟩ := deedAt (j := u1 % 6) (by omega) (by omega)
    refine ⟨rfl, ?_⟩
    refine ⟨_, rfl, _, rfl, _, rfl, _, _, rfl, rfl, (by show (0 : Int) < 39; decide), _, _, rfl, rfl, r, _, _, _, rfl, rfl, SqL.of (sm _ _ (s11 _ _ hR)), f1, _, _, rfl, rfl, (by show (0 : Int) < 6; decide), l7, _, _, _, rfl, rfl, SqL.of (sm _ _ h7), ew, ?_⟩
    refine ⟨_, hD, (by rw [List.length_map]; exact hsz (by omega)), B ++ [wd], same_of sm nDB, ?_, by rw [List.length_append, hlA]; rfl, fun w hw => ?_⟩
    · rw [upd_same, List.map_append]
      rfl
    · rcases List.mem_append.mp hw with h | h
      · exact hdA w h
      · rw [List.mem_singleton.mp h]
        exact hwd
  rintro G12 ⟨B_, s12, hDB, hlB, hdB⟩
  have h11 := s12 _ _ h11
  have s12 := s11.trans s12
  refine ⟨l11, DB, _, _, rfl, rfl, h11, hDB, (by rw [List.length_map, List.length_map, hl11]; exact hsz (by omega)), fun l13 n13 => ?_⟩
  have s13 := s12.trans (same_upd' (o := .lst (K3.map V.int ++ B_.map V.int)) n13)
  have r13 := same_upd' (o := .lst (K3.map V.int ++ B_.map V.int)) n13
  have h13 : upd G12 l13 (.lst (K3.map V.int ++ B_.map V.int)) l13 = some (.lst (K3.map V.int ++ B_.map V.int)) := upd_same
  generalize upd G12 l13 (.lst (K3.map V.int ++ B_.map V.int)) = G13 at *
  refine ⟨_, _, rfl, rfl, .inl ⟨by decide, by decide⟩, _, _, rfl, rfl, (by show 1 ≤ sizeLine; decide), fun l14 n14 => ?_⟩
  have s14 := s13.trans (same_upd' (o := .lst [V.int (1024 * 12 + 23)]) n14)
  have r14 := same_upd' (o := .lst [V.int (1024 * 12 + 23)]) n14
  have h14 : upd G13 l14 (.lst [V.int (1024 * 12 + 23)]) l14 = some (.lst [V.int (1024 * 12 + 23)]) := upd_same
  generalize upd G13 l14 (.lst [V.int (1024 * 12 + 23)]) = G14 at *
  have h13 := r14 _ _ h13
  refine ⟨l13, l14, _, _, rfl, rfl, h13, h14, (by rw [List.length_append, List.length_map, List.length_map, hl11]; exact hsz (by show 15 + A_.length + B_.length + 1 ≤ 100000; omega)), fun l15 n15 => ?_⟩
  have s15 := s14.trans (same_upd' (o := .lst (K3.map V.int ++ B_.map V.int ++ [V.int (1024 * 12 + 23)])) n15)
  have r15 := same_upd' (o := .lst (K3.map V.int ++ B_.map V.int ++ [V.int (1024 * 12 + 23)])) n15
  have h15 : upd G14 l15 (.lst (K3.map V.int ++ B_.map V.int ++ [V.int (1024 * 12 + 23)])) l15 = some (.lst (K3.map V.int ++ B_.map V.int ++ [V.int (1024 * 12 + 23)])) := upd_same
  generalize upd G14 l15 (.lst (K3.map V.int ++ B_.map V.int ++ [V.int (1024 * 12 + 23)])) = G15 at *
  have h15 : G15 l15 = some (.lst ((K3 ++ B_ ++ [1024 * 12 + 23]).map V.int)) := by
    rw [h15]
    simp only [List.map_append]
    rfl
  have hl15 : ((K3 ++ B_ ++ [1024 * 12 + 23] : List Int).map V.int).length = 100 := by
    rw [List.length_map, List.length_append, List.length_append, hl11]
    show 15 + A_.length + B_.length + 1 = _
    omega
  refine ⟨_, rfl, (by show 1 ≤ sizeLine; decide), fun l16 n16 => ?_⟩
  have s16 := s15.trans (same_upd' (o := .lst [V.int 65535]) n16)
  have r16 := same_upd' (o := .lst [V.int 65535]) n16
  have h16 : upd G15 l16 (.lst [V.int 65535]) l16 = some (.lst [V.int 65535]) := upd_same
  generalize upd G15 l16 (.lst [V.int 65535]) = G16 at *
  have h15 := r16 _ _ h15
  refine ⟨_, rfl, l15, _, rfl, .inl (SqL.of h15), 340, _, rfl, rfl, l16, _, _, rfl, rfl, h16, (by rw [hl15]; decide), (by rw [hl15]; decide), (by rw [hl15]; show 1 * 240 ≤ sizeLine; decide), fun l17 n17 => ?_⟩
  have e7 : (List.replicate ((340 : Int) - (((K3 ++ B_ ++ [1024 * 12 + 23] : List Int).map V.int).length : Int)).toNat [V.int 65535]).flatten = (List.replicate 240 (65535 : Int)).map V.int := by
    rw [hl15]
    exact flat_rep 240 65535
  rw [e7]
  clear e7
  have s17 := s16.trans (same_upd' (o := .lst ((List.replicate 240 (65535 : Int)).map V.int)) n17)
  have r17 := same_upd' (o := .lst ((List.replicate 240 (65535 : Int)).map V.int)) n17
  have h17 : upd G16 l17 (.lst ((List.replicate 240 (65535 : Int)).map V.int)) l17 = some (.lst ((List.replicate 240 (65535 : Int)).map V.int)) := upd_same
  generalize upd G16 l17 (.lst ((List.replicate 240 (65535 : Int)).map V.int)) = G17 at *
  have h15 := r17 _ _ h15
  refine ⟨l15, l17, _, _, rfl, rfl, h15, h17, (by rw [hl15]; show 100 + 240 ≤ sizeLine; decide), fun lI nI => ?_⟩
  have fI := s17.free nI
  have P0 : Pre (pre16 (100 + d0 % 100) (220 + d1 % 100) (12 + d2 % 40) (d3 % 4) A_ B_) (100 + d0 % 100) (220 + d1 % 100) (12 + d2 % 40) (d3 % 4) := pre_mk (by omega) (by omega) (by omega) (by omega) hdA hdB (by omega)
  have eJ : (K3 ++ B_ ++ [1024 * 12 + 23] : List Int).map V.int ++ (List.replicate 240 (65535 : Int)).map V.int = (pre16 (100 + d0 % 100) (220 + d1 % 100) (12 + d2 % 40) (d3 % 4) A_ B_).map V.int := by
    rw [← List.map_append, ← hK3, ← hJ2]
    unfold pre16
    rw [show 1024 * 1 + 12 + d2 % 40 = 1024 * 1 + (12 + d2 % 40) by omega]
  rw [eJ]
  clear eJ hK3 hJ2
  generalize pre16 (100 + d0 % 100) (220 + d1 % 100) (12 + d2 % 40) (d3 % 4) A_ B_ = J at *
  have s18 := s17.trans (same_upd' (o := .lst (J.map V.int)) nI)
  have hI : upd G17 lI (.lst (J.map V.int)) lI = some (.lst (J.map V.int)) := upd_same
  generalize upd G17 lI (.lst (J.map V.int)) = G18 at *
  have hF : 100 ≤ 100 + d0 % 100 ∧ 100 + d0 % 100 ≤ 199 := by omega
  have hS : 220 ≤ 220 + d1 % 100 ∧ 220 + d1 % 100 ≤ 319 := by omega
  generalize 100 + d0 % 100 = F_ at *
  generalize 220 + d1 % 100 = S_ at *
  have hT : 0 ≤ 12 + d2 % 40 ∧ 12 + d2 % 40 < 1024 := by omega
  have hM : 0 ≤ d3 % 4 ∧ d3 % 4 < 1024 := by omega
  generalize 12 + d2 % 40 = T_ at *
  generalize d3 % 4 = M_ at *
  have bI : But lI H G18 := But.of s18
  clear s18 h15 h17 h16 s17
  refine ⟨_, rfl, (by show 2 ≤ sizeLine; decide), fun t1 m1 => ?_⟩
  have bI := bI.trans (But.of (same_upd' (o := .tup [V.int F_, V.int 1]) m1))
  have q1 : upd G18 t1 (.tup [V.int F_, V.int 1]) t1 = some (.tup [V.int F_, V.int 1]) := upd_same
  have hI := same_upd' (o := .tup [V.int F_, V.int 1]) m1 _ _ hI
  generalize upd G18 t1 (.tup [V.int F_, V.int 1]) = G19 at *
  refine ⟨_, rfl, (by show 2 ≤ sizeLine; decide), fun t2 m2 => ?_⟩
  have bI := bI.trans (But.of (same_upd' (o := .tup [V.int S_, V.int 2]) m2))
  have q2 : upd G19 t2 (.tup [V.int S_, V.int 2]) t2 = some (.tup [V.int S_, V.int 2]) := upd_same
  have hI := same_upd' (o := .tup [V.int S_, V.int 2]) m2 _ _ hI
  have q1 := same_upd' (o := .tup [V.int S_, V.int 2]) m2 _ _ q1
  generalize upd G19 t2 (.tup [V.int S_, V.int 2]) = G20 at *
  refine ⟨(by show 2 ≤ sizeLine; decide), fun lp np => ?_⟩
  have bI := bI.trans (But.of (same_upd' (o := .lst [V.ref t1, V.ref t2]) np))
  have hlp : upd G20 lp (.lst [V.ref t1, V.ref t2]) lp = some (.lst [V.ref t1, V.ref t2]) := upd_same
  have npI : lp ≠ lI := (ne_of_none hI np).symm
  have hI := same_upd' (o := .lst [V.ref t1, V.ref t2]) np _ _ hI
  have q1 := same_upd' (o := .lst [V.ref t1, V.ref t2]) np _ _ q1
  have q2 := same_upd' (o := .lst [V.ref t1, V.ref t2]) np _ _ q2
  generalize upd G20 lp (.lst [V.ref t1, V.ref t2]) = G21 at *
  have L0 : Lay J J F_ S_ 0 := ⟨P0.l, fun _ _ _ => rfl, fun z => absurd z (by decide), fun z => absurd z (by decide), P0.ok⟩
  refine ⟨lp, rfl, ⟨_, SqL.of hlp⟩, ?_⟩
  refine for_list (K := K) (a := lp) (xs := [V.ref t1, V.ref t2]) (fun i σ H' => ∃ (y5 y6 y7 y8 : Option V) (ws : List Int), σ = [some (.ref r), some (.int F_), some (.int S_), some (.ref lI), some (.ref l7), y5, y6, y7, y8] ∧ But lI H H' ∧ H' lp = some (.lst [V.ref t1, V.ref t2]) ∧ H' t1 = some (.tup [V.int F_, V.int 1]) ∧ H' t2 = some (.tup [V.int S_, V.int 2]) ∧ H' lI = some (.lst (ws.map V.int)) ∧ Lay J ws F_ S_ i) ⟨none, none, none, none, J, rfl, bI, hlp, q1, q2, hI, L0⟩ (fun i σ H' _ h => by obtain ⟨_, _, _, _, _, _, _, h, _⟩ := h; exact SqL.of h) ?_ ?_
  · rintro i v σ H1 hv ⟨y5, y6, y7, y8, ws, rfl, bI, hlp, q1, q2, hI, L⟩
    obtain ⟨t, gg, hi2, rfl, hg, ht⟩ : ∃ t gg, i < 2 ∧ v = .ref t ∧ ((i = 0 ∧ gg = 1) ∨ (i = 1 ∧ gg = (2 : Int))) ∧ H1 t = some (.tup [V.int (bas F_ S_ gg), V.int gg]) := by
      match i, hv with
      | 0, hv => cases hv; exact ⟨t1, 1, by decide, rfl, .inl ⟨rfl, rfl⟩, q1⟩
      | 1, hv => cases hv; exact ⟨t2, 2, by decide, rfl, .inr ⟨rfl, rfl⟩, q2⟩
    refine ⟨t, _, rfl, SqT.of ht, rfl, _, _, rfl, _, _, rfl, rfl, ?_⟩
    refine ⟨_, _, rfl, rfl, .inl ⟨by decide, by decide⟩, _, _, rfl, rfl, .inl ⟨by decide, by decide⟩, _, _, rfl, rfl, _, rfl, _, _, rfl, rfl, _, _, rfl, rfl, .inl ⟨by decide, by decide⟩, _, _, rfl, rfl, _, _, rfl, rfl, .inl ⟨by decide, by decide⟩, _, _, rfl, rfl, _, rfl, _, _, rfl, rfl, (by show 4 ≤ sizeLine; decide), fun l31 n31 => ?_⟩
    have r31 := same_upd' (o := .lst [V.int (1024 * 17), V.int (1024 * 2 + 600 + gg), V.int (1024 * 4 + 500), V.int (1024 * 3 + 600 + gg)]) n31
    have h31 : upd H1 l31 (.lst [V.int (1024 * 17), V.int (1024 * 2 + 600 + gg), V.int (1024 * 4 + 500), V.int (1024 * 3 + 600 + gg)]) l31 = some (.lst [V.int (1024 * 17), V.int (1024 * 2 + 600 + gg), V.int (1024 * 4 + 500), V.int (1024 * 3 + 600 + gg)]) := upd_same
    generalize upd H1 l31 (.lst [V.int (1024 * 17), V.int (1024 * 2 + 600 + gg), V.int (1024 * 4 + 500), V.int (1024 * 3 + 600 + gg)]) = G31 at *
    refine ⟨_, rfl, _, _, rfl, rfl, .inl ⟨by decide, by decide⟩, _, rfl, _, _, rfl, rfl, _, _, rfl, rfl, .inl ⟨by decide, by decide⟩, _, _, rfl, rfl, _, _, rfl, rfl, .inl ⟨by decide, by decide⟩, _, _, rfl, rfl, .inl ⟨by decide, by decide⟩, (by show 4 ≤ sizeLine; decide), fun l32 n32 => ?_⟩
    have r32 := same_upd' (o := .lst [V.int (1024 * 1 + gg), V.int (1024 * 3 + 770), V.int (1024 * 18), V.int (1024 * 21)]) n32
    have h32 : upd G31 l32 (.lst [V.int (1024 * 1 + gg), V.int (1024 * 3 + 770), V.int (1024 * 18), V.int (1024 * 21)]) l32 = some (.lst [V.int (1024 * 1 + gg), V.int (1024 * 3 + 770), V.int (1024 * 18), V.int (1024 * 21)]) := upd_same
    have h31 := r32 _ _ h31
    generalize upd G31 l32 (.lst [V.int (1024 * 1 + gg), V.int (1024 * 3 + 770), V.int (1024 * 18), V.int (1024 * 21)]) = G32 at *
    refine ⟨l31, l32, _, _, rfl, rfl, h31, h32, (by show 4 + 4 ≤ sizeLine; decide), fun l33 n33 => ?_⟩
    have RV : ∃ rv : List Int, rv.length = 8 ∧ (∀ k : Nat, k < 8 → rd rv k = rout gg k) ∧ [V.int (1024 * 17), V.int (1024 * 2 + 600 + gg), V.int (1024 * 4 + 500), V.int (1024 * 3 + 600 + gg)] ++ [V.int (1024 * 1 + gg), V.int (1024 * 3 + 770), V.int (1024 * 18), V.int (1024 * 21)] = rv.map V.int := by
      refine ⟨[1024 * 17, 1024 * 2 + 600 + gg, 1024 * 4 + 500, 1024 * 3 + 600 + gg, 1024 * 1 + gg, 1024 * 3 + 770, 1024 * 18, 1024 * 21], rfl, fun k hk => ?_, rfl⟩
      rcases (show k = 0 ∨ k = 1 ∨ k = 2 ∨ k = 3 ∨ k = 4 ∨ k = 5 ∨ k = 6 ∨ k = 7 by omega) with rfl | rfl | rfl | rfl | rfl | rfl | rfl | rfl
      · rfl
      · show 1024 * 2 + 600 + gg = 1024 * 2 + (600 + gg); omega
      · rfl
      · show 1024 * 3 + 600 + gg = 1024 * 3 + (600 + gg); omega
      · rfl
      · rfl
      · rfl
      · rfl
    obtain ⟨rv, lrv, hrv, erv⟩ := RV
    rw [erv]
    have r33 := same_upd' (o := .lst (rv.map V.int)) n33
    have h33 : upd G32 l33 (.lst (rv.map V.int)) l33 = some (.lst (rv.map V.int)) := upd_same
    have sA := (r31.trans r32).trans r33
    have hI := sA _ _ hI
    have nI3 : l33 ≠ lI := fun z => by rw [z] at n33; rw [r32 _ _ (r31 _ _ ‹H1 lI = some _›)] at n33; cases n33
    have bI := bI.trans (But.of sA)
    have hlp := sA _ _ hlp
    have q1 := sA _ _ q1
    have q2 := sA _ _ q2
    generalize upd G32 l33 (.lst (rv.map V.int)) = G33 at *
    clear sA r31 r32 r33 h31 h32
    refine ⟨8, rfl, by decide, by decide, ?_⟩
    refine for_range (lo := 0) (n := 8) (fun k σ H' => ∃ (y8 : Option V) (ws : List Int), σ = [some (.ref r), some (.int F_), some (.int S_), some (.ref lI), some (.ref l7), some (.int (bas F_ S_ gg)), some (.int gg), some (.ref l33), y8] ∧ But lI H H' ∧ H' lp = some (.lst [V.ref t1, V.ref t2]) ∧ H' t1 = some (.tup [V.int F_, V.int 1]) ∧ H' t2 = some (.tup [V.int S_, V.int 2]) ∧ H' l33 = some (.lst (rv.map V.int)) ∧ H' lI = some (.lst (ws.map V.int)) ∧ Lay J ws F_ S_ i ∧ ∀ r : Nat, r < k → rd ws (bas F_ S_ gg + r) = rout gg r) ⟨y8, ws, rfl, bI, hlp, q1, q2, h33, hI, L, fun r hr => absurd hr (Nat.not_lt_zero _)⟩ ?_ ?_
    · rintro k σ H2 hk ⟨y8, ws, rfl, bI, hlp, q1, q2, h33, hI, L, hr⟩
      have hb : 100 ≤ bas F_ S_ gg ∧ bas F_ S_ gg ≤ 319 := by unfold bas; split <;> omega
      have e1 : atI (rv.map V.int) (0 + (k : Int)) = some (.int (rout gg k)) := by
        rw [← hrv k hk, Int.zero_add]
        exact atI_rd (by omega) (by omega)
      refine ⟨_, rfl, _, rfl, l33, _, _, _, rfl, rfl, SqL.of h33, e1, _, rfl, _, rfl, _, rfl, _, _, rfl, rfl, lI, _, _, _, rfl, rfl, hI, (by rw [List.length_map, L.l]; exact ixN_in (by omega) (by omega)), ?_⟩
      rw [Int.zero_add, set_map]
      obtain ⟨L1, hr1⟩ := L.one hF hS hg hk hr
      have kb : But lI H2 (upd H2 lI (.lst ((stM ws (bas F_ S_ gg + (k : Int)) (rout gg k)).map V.int))) := fun b o n e => by rw [upd_ne n]; exact e
      exact ⟨_, _, rfl, bI.trans kb, kb _ _ npI hlp, kb _ _ (ne_of q1 hI (by intro z; cases z)) q1, kb _ _ (ne_of q2 hI (by intro z; cases z)) q2, kb _ _ nI3 h33, upd_same, L1, hr1⟩
    · rintro σ H2 ⟨y8, ws, rfl, bI, hlp, q1, q2, h33, hI, L, hr⟩
      exact ⟨_, _, _, _, ws, rfl, bI, hlp, q1, q2, hI, L.up hg hr⟩
  rintro σ H1 ⟨y5, y6, y7, y8, ws, rfl, bI, hlp, q1, q2, hI, L⟩
  have L : Lay J ws F_ S_ 2 := L
  have hlw : (ws.map V.int).length = 340 := by rw [List.length_map, L.l]
  have sH : Same H H1 := fun b o e => bI b o (ne_of_none e fI) e
  refine ⟨_, rfl, (by show 1 ≤ sizeLine; decide), fun l41 n41 => ?_⟩
  have r41 := same_upd' (o := .lst [V.int 65535]) n41
  have h41 : upd H1 l41 (.lst [V.int 65535]) l41 = some (.lst [V.int 65535]) := upd_same
  have hI := r41 _ _ hI
  have sH := sH.trans r41
  generalize upd H1 l41 (.lst [V.int 65535]) = G41 at *
  refine ⟨_, rfl, lI, _, rfl, .inl (SqL.of hI), 500, _, rfl, rfl, l41, _, _, rfl, rfl, h41, (by rw [hlw]; decide), (by rw [hlw]; decide), (by rw [hlw]; show 1 * 160 ≤ sizeLine; decide), fun l42 n42 => ?_⟩
  have e7 : (List.replicate ((500 : Int) - ((ws.map V.int).length : Int)).toNat [V.int 65535]).flatten = (List.replicate 160 (65535 : Int)).map V.int := by
    rw [hlw]
    exact flat_rep 160 65535
  rw [e7]
  have r42 := same_upd' (o := .lst ((List.replicate 160 (65535 : Int)).map V.int)) n42
  have h42 : upd G41 l42 (.lst ((List.replicate 160 (65535 : Int)).map V.int)) l42 = some (.lst ((List.replicate 160 (65535 : Int)).map V.int)) := upd_same
  have hI := r42 _ _ hI
  have sH := sH.trans r42
  generalize upd G41 l42 (.lst ((List.replicate 160 (65535 : Int)).map V.int)) = G42 at *
  refine ⟨lI, l42, _, _, rfl, rfl, hI, h42, (by rw [hlw]; show 340 + 160 ≤ sizeLine; decide), fun l43 n43 => ?_⟩
  have r43 := same_upd' (o := .lst (ws.map V.int ++ (List.replicate 160 (65535 : Int)).map V.int)) n43
  have h43 : upd G42 l43 (.lst (ws.map V.int ++ (List.replicate 160 (65535 : Int)).map V.int)) l43 = some (.lst (ws.map V.int ++ (List.replicate 160 (65535 : Int)).map V.int)) := upd_same
  have sH := sH.trans r43
  generalize upd G42 l43 (.lst (ws.map V.int ++ (List.replicate 160 (65535 : Int)).map V.int)) = G43 at *
  refine ⟨(by show 1 ≤ sizeLine; decide), fun l44 n44 => ?_⟩
  have r44 := same_upd' (o := .lst [V.int 1]) n44
  have h44 : upd G43 l44 (.lst [V.int 1]) l44 = some (.lst [V.int 1]) := upd_same
  have h43 := r44 _ _ h43
  have sH := sH.trans r44
  generalize upd G43 l44 (.lst [V.int 1]) = G44 at *
  refine ⟨l43, l44, _, _, rfl, rfl, h43, h44, (by rw [List.length_append, hlw]; show 340 + 160 + 1 ≤ sizeLine; decide), fun l45 n45 => ?_⟩
  have eI : ws.map V.int ++ (List.replicate 160 (65535 : Int)).map V.int ++ [V.int 1] = (ws ++ List.replicate 160 65535 ++ [1]).map V.int := by
    rw [List.map_append, List.map_append]
    rfl
  rw [eI]
  have r45 := same_upd' (o := .lst ((ws ++ List.replicate 160 65535 ++ [1]).map V.int)) n45
  have h45 : upd G44 l45 (.lst ((ws ++ List.replicate 160 65535 ++ [1]).map V.int)) l45 = some (.lst ((ws ++ List.replicate 160 65535 ++ [1]).map V.int)) := upd_same
  have sH := sH.trans r45
  generalize upd G44 l45 (.lst ((ws ++ List.replicate 160 65535 ++ [1]).map V.int)) = G45 at *
  refine ⟨_, rfl, _, rfl, _, rfl, (by show 3 ≤ sizeLine; decide), fun t nt => ?_⟩
  exact q _ t l45 F_ S_ T_ M_ _ (sH.trans (same_upd' nt)) (img_mk hF hS hT hM P0 L) (same_upd' nt _ _ h45) upd_same
abbrev sLlin : Stmt := topS 69
def scLlinN : List Str := ["_law_row", "_law_found", "_law_k"]
theorem scLlin : FnScope scLlinN ["_law_row"] (defScope sLlin) := ⟨rfl, rfl, rfl, by decide +kernel, rfl, by decide +kernel, by decide +kernel⟩
theorem ok_Llin {f : Addr} {fd : FuncData} (F : Fun K "_law_line_of" "_law_line_of" sLlin f fd) (T : Tx K mg CB CM) : FnOk P w K mg base CX0 1 f fd ["_law_row"] (spLin16) := by
  refine F.ok scLlin (fun vs H Q E h => by obtain ⟨_, _, rfl, _⟩ := h; rfl) (fun cdv A outer s H vs Q E hr h => ?_)
  have hu := hu_of hr
  have z_range := T.z_range
  obtain ⟨r, ds, rfl, hR, hlen, hd, q⟩ := h
  refine ⟨_, (pss_cons (ps_set (i := 1) scLlin.nd rfl (.inl rfl) (pe_lst pa_nil))
    (pss_cons (ps_for PassesOwn.never rfl (pi_range1 (by rfl) z_range (pa_cons (pe_op op_mod (pe_ix ix_list (pv 0) pe_int (fun _ _ => rfl)) pe_int) pa_nil)) (pg_name (i := 2) scLlin.nd rfl (.inl rfl))
      (pss_one (ps_expr (pe_bm PySem.F.plainAttrs_list PySem.F.slot_list_append PySem.F.type_list_append mt_append (pv 1) (pa_cons (pe_tup (pa_cons (pe_op op_add (pe_op op_add pe_int (pe_op op_mul pe_int (pv 2))) (pe_op op_mod (pe_ix ix_list (pv 0) (pe_op op_add pe_int (pv 2)) (fun _ _ => rfl)) pe_int)) (pa_cons (pe_op op_add (pe_op op_mod (pv 2) pe_int) (pe_op op_mul pe_int (pe_op op_mod (pe_ix ix_list (pv 0) (pe_op op_add pe_int (pv 2)) (fun _ _ => rfl)) pe_int))) pa_nil))) pa_nil)))))
    (pss_one (ps_ret (pv 1))))), ?_⟩
  refine ⟨Nat.zero_le _, fun l nl => ?_⟩
  obtain ⟨d6, e6, b6, c6⟩ := atN hd (j := 6) (by decide) (by rw [hlen]; decide)
  have hR1 := same_upd' (o := .lst []) nl _ _ hR
  refine ⟨_, rfl, r, _, 6, _, rfl, rfl, SqL.of hR1, e6, _, _, rfl, rfl, (by show (0 : Int) < 10; decide), d6 % 10, rfl, by omega, by omega, ?_⟩
  refine for_range (lo := 0) (n := (d6 % 10).toNat) (fun i σ H' => ∃ (y2 : Option V) (us : List V) (ls : List (Int × Int)), σ = [some (.ref r), some (.ref l), y2] ∧ Same H H' ∧ H' l = some (.lst us) ∧ TupsAt H' us ls ∧ riseM 0 ls ∧ ls.length = i ∧ lastB 0 ls ≤ 39 + 9 * (i : Int))
    ⟨none, [], [], rfl, same_upd' nl, upd_same, .nil, trivial, rfl, by show (0 : Int) ≤ 39 + 9 * ((0 : Nat) : Int); decide⟩ ?_ ?_
  · rintro i σ H' hi ⟨y2, us, ls, rfl, sm, hl, ht, hrs, hln, hla⟩
    have hi12 : i < 10 := by omega
    have hp := SqL.of (K := K) (sm _ _ hR)
    obtain ⟨u1, f1, g1, g2⟩ := atN hd (j := 7 + (0 + (i : Int))) (by omega) (by rw [hlen]; omega)
    obtain ⟨u2, f2, g3, g4⟩ := atN hd (j := 8 + (0 + (i : Int))) (by omega) (by rw [hlen]; omega)
    refine ⟨_, rfl, .inl ⟨rfl, _, SqL.of hl⟩, _, rfl, _, _, rfl, rfl, .inl ⟨by decide, by decide⟩, _, _, rfl, rfl, _, rfl, _, rfl, _, _, rfl, rfl, r, _, _, _, rfl, rfl, hp, f1, _, _, rfl, rfl, (by show (0 : Int) < 9; decide), _, _, rfl, rfl, _, rfl, _, _, rfl, rfl, (by show (0 : Int) < 2; decide), _, rfl, _, rfl, _, _, rfl, rfl, r, _, _, _, rfl, rfl, hp, f2, _, _, rfl, rfl, (by show (0 : Int) < 2; decide), _, _, rfl, rfl, .inl ⟨by decide, by decide⟩, _, _, rfl, rfl, (by show 2 ≤ sizeLine; decide), fun t nt => ?_⟩
    refine ⟨l, us, _, rfl, rfl, same_upd' nt _ _ hl, Nat.lt_of_le_of_lt (show us.length ≤ 12 by rw [TupsAt.len ht]; omega) (by decide), ?_⟩
    refine ⟨some (.int (0 + (i : Int))), us ++ [.ref t], ls ++ [(40 + 9 * (0 + (i : Int)) + u1 % 9, (0 + (i : Int)) % 2 + 2 * (u2 % 2))], rfl, same_of (sm.trans (same_upd' nt)) nl, upd_same, ?_, rise_snoc hrs (by show lastB 0 ls < 40 + 9 * (0 + (i : Int)) + u1 % 9; omega) (by show 0 ≤ (0 + (i : Int)) % 2 + 2 * (u2 % 2); omega) (by show (0 + (i : Int)) % 2 + 2 * (u2 % 2) ≤ 3; omega), by rw [List.length_append, hln]; rfl, by rw [lastB_snoc]; show 40 + 9 * (0 + (i : Int)) + u1 % 9 ≤ _; omega⟩
    refine TupsAt.snoc (t := t) (u := (40 + 9 * (0 + (i : Int)) + u1 % 9, (0 + (i : Int)) % 2 + 2 * (u2 % 2))) ?_ (TupsAt.mono (fun t' xs e => ?_) ht)
    · rw [upd_ne (fun e => by rw [e, hl] at nt; cases nt)]
      exact upd_same
    · have e2 := same_upd' (o := .tup [V.int (40 + 9 * (0 + (i : Int)) + u1 % 9), V.int ((0 + (i : Int)) % 2 + 2 * (u2 % 2))]) nt _ _ e
      rw [upd_ne (ne_of e2 (same_upd' nt _ _ hl) (by intro q; cases q))]
      exact e2
  · rintro σ H' ⟨y2, us, ls, rfl, sm, hl, ht, hrs, hln, hla⟩
    exact ⟨_, rfl, q _ l us ls sm hl ht hrs⟩
end
end Bh

/-! What the law takes of a board. -/
namespace Bh
open PySem PySem.Spec PyProof.Rows L2
/-- a thing of the law's own is laid: it stands in the base too -/
theorem BoardAt.grow {CB CM p l : Addr} {Hb H H' : Hp} {x : Bd} {o : HO} (R : BoardAt CB CM Hb H p x) (s : Same H H') (n : H l = none) (e : H' l = some o) : BoardAt CB CM (upd Hb l o) H' p x := by
  obtain ⟨A, ts, ls, B⟩ := R
  obtain ⟨sv, tv, dv, hp, hz⟩ := B.hp
  have B2 := B.same s
  have sm : Same (upd Hb l o) H' := fun b y q => by
    by_cases z : b = l
    · rw [z, upd_same] at q
      rw [z, e]
      exact q
    · rw [upd_ne z] at q
      exact B2.sm _ _ q
  have ne : ∀ {b : Addr} {y : HO}, H b = some y → b ≠ l := fun q => ne_of_none q n
  exact ⟨A, ts, ls, { B2 with
    sm := sm
    fp := by rw [upd_ne (ne hp)]; exact B.fp
    fr := by rw [upd_ne (ne B.hr)]; exact B.fr
    fw := by rw [upd_ne (ne B.hw)]; exact B.fw
    ft := by rw [upd_ne (ne B.ht)]; exact B.ft
    fm := by rw [upd_ne (ne B.hm)]; exact B.fm
    fs := by rw [upd_ne (ne B.hs)]; exact B.fs
    fl := by rw [upd_ne (ne B.hl)]; exact B.fl }⟩
theorem BoardAt.new {CB CM p l : Addr} {Hb H : Hp} {x : Bd} {o : HO} (R : BoardAt CB CM Hb H p x) (n : H l = none) : BoardAt CB CM (upd Hb l o) (upd H l o) p x := R.grow (same_upd' n) n upd_same
theorem BoardAt.same {CB CM p : Addr} {Hb H H' : Hp} {x : Bd} (R : BoardAt CB CM Hb H p x) (s : Same H H') : BoardAt CB CM Hb H' p x := by
  obtain ⟨A, ts, ls, B⟩ := R
  exact ⟨A, ts, ls, B.same s⟩
theorem BoardAt.sm {CB CM p : Addr} {Hb H : Hp} {x : Bd} (R : BoardAt CB CM Hb H p x) : Same Hb H := by
  obtain ⟨A, ts, ls, B⟩ := R
  exact B.sm
theorem BoardAt.chg {CB CM p q : Addr} {Hb H : Hp} {x : Bd} {o o0 : HO} (R : BoardAt CB CM Hb H p x) (hq : Hb q = some o0) (nt : ∀ xs, o0 ≠ .tup xs) : BoardAt CB CM (upd Hb q o) (upd H q o) p x := by
  obtain ⟨A, ts, ls, B⟩ := R
  exact ⟨A, ts, ls, B.mut hq nt⟩
/-- and the base's cells stand as they stood, but for one that was not there -/
theorem up_new {Hb H : Hp} {l : Addr} {o : HO} (s : Same Hb H) (n : H l = none) : Same Hb (upd Hb l o) := same_upd' (s.free n)
def ahV (h : Ah) : List V := [.int h.a, .int h.b, .int h.pc, .int 767, .bl h.zero, .bl h.lets, .int h.beat]
def stdV (x : Bd) : List V := [.int x.a, .int x.b, .int x.pc, .int x.sp, .bl x.zero, .bl x.lets, .int x.beat]
def stdD (x : Bd) : List PyData := [.int x.a, .int x.b, .int x.pc, .int x.sp, .bool x.zero, .bool x.lets, .int x.beat]
theorem dp_std {K : PySem.W.Frag} {H : Hp} (x : Bd) : DpAll K H (stdV x) (stdD x) := .cons (.int _) (.cons (.int _) (.cons (.int _) (.cons (.int _) (.cons (.bl _) (.cons (.bl _) (.cons (.int _) .nil))))))
theorem can7 (a b c d e : Int) (z l : Bool) : PyData.canLayAll0 [.int a, .int b, .int c, .int d, .bool z, .bool l, .int e] = true := by
  show (PyData.canLay0 (.int a) && (PyData.canLay0 (.int b) && (PyData.canLay0 (.int c) && (PyData.canLay0 (.int d) && (PyData.canLay0 (.bool z) && (PyData.canLay0 (.bool l) && (PyData.canLay0 (.int e) && true))))))) = true
  rfl
theorem shp7 (a b c d e : Int) (z l : Bool) : SeqAt.shaped (.list [.int a, .int b, .int c, .int d, .bool z, .bool l, .int e]) = true := by
  show (PyData.canLayAll0 [.int a, .int b, .int c, .int d, .bool z, .bool l, .int e] && decide (PyData.depthAll [.int a, .int b, .int c, .int d, .bool z, .bool l, .int e] + 1 ≤ 64)) = true
  rw [can7]
  rfl
theorem can6 (a b c d : Int) (z l : Bool) : PyData.canLayAll0 [.int a, .int b, .int c, .int d, .bool z, .bool l] = true := by
  show (PyData.canLay0 (.int a) && (PyData.canLay0 (.int b) && (PyData.canLay0 (.int c) && (PyData.canLay0 (.int d) && (PyData.canLay0 (.bool z) && (PyData.canLay0 (.bool l) && true)))))) = true
  rfl
theorem shp6 (a b c d : Int) (z l : Bool) : SeqAt.shaped (.list [.int a, .int b, .int c, .int d, .bool z, .bool l]) = true := by
  show (PyData.canLayAll0 [.int a, .int b, .int c, .int d, .bool z, .bool l] && decide (PyData.depthAll [.int a, .int b, .int c, .int d, .bool z, .bool l] + 1 ≤ 64)) = true
  rw [can6]
  rfl
def spStd (CB CM : Addr) : Sp := fun vs H Q _ => ∃ (Hb : Hp) (p : Addr) (x : Bd), vs = [.ref p] ∧ BoardAt CB CM Hb H p x ∧ ∀ H' l, Same H H' → H l = none → H' l = some (.lst (stdV x)) → Q (.ref l) H'
def spBeg (CB CM : Addr) : Sp := fun vs H Q _ => ∃ (Hb : Hp) (p la : Addr) (x y : Bd) (due F S : Int), vs = [.ref p, .ref la, .int due, .int F, .int S] ∧ BoardAt CB CM Hb H p y ∧ H la = some (.lst (stdV x)) ∧
  y.a = x.a ∧ y.b = x.b ∧ y.pc = 2 - due % 2 ∧ y.sp = x.sp - 2 ∧ y.zero = x.zero ∧ y.lets = false ∧ y.beat = x.beat + 3 ∧ rd y.mem x.sp = x.pc ∧ rd y.mem (x.sp - 1) = b2n x.zero ∧ 1 ≤ x.sp ∧ x.sp < 774 ∧ ∀ H', Same H H' → Q (.bl true) H'
theorem tk_snoc {α : Type} {l : List α} {v : α} {j : Nat} (h : l[j]? = some v) : l.take j ++ [v] = l.take (j + 1) := by
  rw [List.take_succ, h]
  rfl
section
variable {P : Program} {w : World} {K : PySem.W.Frag} {mg : Str → Option Value} {base : Heap} {CB CM : Addr}
abbrev sLstd : Stmt := topS 70
def scLstdN : List Str := ["_law_board", "_law_names", "_law_name"]
theorem scLstd : FnScope scLstdN ["_law_board"] (defScope sLstd) := ⟨rfl, rfl, rfl, by decide +kernel, rfl, by decide +kernel, by decide +kernel⟩
theorem ok_Lstd {f : Addr} {fd : FuncData} (F : Fun K "_law_stand" "_law_stand" sLstd f fd) (T : Tx K mg CB CM) : FnOk P w K mg base CX0 1 f fd ["_law_board"] (spStd CB CM) := by
  refine F.ok scLstd (fun vs H Q E h => by obtain ⟨_, _, _, rfl, _⟩ := h; rfl) (fun cdv A outer s H vs Q E hr h => ?_)
  have hu := hu_of hr
  obtain ⟨Hb, p, x, rfl, R, q⟩ := h
  refine ⟨_, (pss_cons (ps_set (i := 1) scLstd.nd rfl (.inl rfl) (pe_lst (pa_cons pe_str (pa_cons pe_str (pa_cons pe_str (pa_cons pe_str pa_nil))))))
    (pss_one (ps_ret (pe_op op_cat (pe_lc (own := [("_law_name", 2)]) (g := gName 2) (tt := tYes) (by rfl) scLstd.nd (pi_list (pv 1)) (blkOk_by (own := [("_law_name", 2)]) (N := scLstdN) (sc := defScope sLstd) (by decide +kernel)) (fun _ _ _ _ _ => (pg_name (i := 2) scLstd.nd rfl (.inl rfl))) (fun _ _ _ _ _ => pts_nil) (fun _ _ _ _ _ => (pe_dget hu (pe_fldK (K := K) (by rfl) (pv 0) (by rfl)) (pv 2) (fun _ _ => rfl)))) (pe_lst (pa_cons (pe_fld (pv 0) rfl) (pa_cons (pe_fld (pv 0) rfl) (pa_cons (pe_fld (pv 0) rfl) pa_nil)))))))), ?_⟩
  refine ⟨(by show 4 ≤ sizeLine; decide), fun l1 n1 => ?_⟩
  have r1 := same_upd' (o := .lst [V.str "a", V.str "b", V.str "pc", V.str "sp"]) n1
  have R := R.same r1
  have h1 : upd H l1 (.lst [V.str "a", V.str "b", V.str "pc", V.str "sp"]) l1 = some (.lst [V.str "a", V.str "b", V.str "pc", V.str "sp"]) := upd_same
  generalize upd H l1 (.lst [V.str "a", V.str "b", V.str "pc", V.str "sp"]) = G1 at *
  refine ⟨_, rfl, l1, rfl, ⟨_, SqL.of h1⟩, fun D nD => ?_⟩
  refine lc_list (K := K) (a := l1) (xs := [V.str "a", V.str "b", V.str "pc", V.str "sp"]) (fun i H' => Same G1 H' ∧ H' D = some (.lst ([V.int x.a, V.int x.b, V.int x.pc, V.int x.sp].take i))) ⟨same_upd' nD, upd_same⟩ (fun i H' _ h => SqL.of (h.1 _ _ h1)) ?_ ?_
  · rintro j v H' hv ⟨sm, hD⟩
    obtain ⟨A, ts, ls, B⟩ := R.same sm
    obtain ⟨sv, tv, dv, hp, hz⟩ := B.hp
    have hj : j < 4 := (List.getElem?_eq_some_iff.mp hv).1
    obtain ⟨nm, rv, rfl, hrv, hin⟩ : ∃ nm rv, v = .str nm ∧ [V.int x.a, V.int x.b, V.int x.pc, V.int x.sp][j]? = some rv ∧ valV (regD x.a x.b x.pc x.sp) (Sum.inr nm) = some rv := by
      have : j = 0 ∨ j = 1 ∨ j = 2 ∨ j = 3 := by omega
      rcases this with rfl | rfl | rfl | rfl
      · cases hv; exact ⟨_, _, rfl, rfl, rG_a⟩
      · cases hv; exact ⟨_, _, rfl, rfl, rG_b⟩
      · cases hv; exact ⟨_, _, rfl, rfl, rG_pc⟩
      · cases hv; exact ⟨_, _, rfl, rfl, rG_sp⟩
    refine ⟨rfl, ?_⟩
    refine ⟨_, rfl, p, CB, A.dx, _, _, rfl, hp, T.cB, T.n_registers, bF_reg, _, rfl, A.r, _, rfl, dg (k := Sum.inr nm) B.hr hin, ?_⟩
    refine ⟨_, hD, ?_, same_of sm nD, ?_⟩
    · rw [List.length_take]
      exact small1000 (by show min j 4 ≤ 1000; omega)
    · rw [upd_same, tk_snoc hrv]
  rintro G2 ⟨s2, hD⟩
  have hD : G2 D = some (.lst [V.int x.a, V.int x.b, V.int x.pc, V.int x.sp]) := hD
  have R := R.same s2
  obtain ⟨A, ts, ls, B⟩ := R
  obtain ⟨sv, tv, dv, hp, hz⟩ := B.hp
  refine ⟨_, rfl, p, CB, A.dx, _, _, rfl, hp, T.cB, T.n_zero, bF_zero, _, rfl, p, CB, A.dx, _, _, rfl, hp, T.cB, T.n_lets, bF_lets, _, rfl, p, CB, A.dx, _, _, rfl, hp, T.cB, T.n_beat, bF_beat, (by show 3 ≤ sizeLine; decide), fun l3 n3 => ?_⟩
  have r3 := same_upd' (o := .lst [V.bl x.zero, V.bl x.lets, V.int x.beat]) n3
  have h3 : upd G2 l3 (.lst [V.bl x.zero, V.bl x.lets, V.int x.beat]) l3 = some (.lst [V.bl x.zero, V.bl x.lets, V.int x.beat]) := upd_same
  have hD := r3 _ _ hD
  generalize upd G2 l3 (.lst [V.bl x.zero, V.bl x.lets, V.int x.beat]) = G3 at *
  refine ⟨D, l3, _, _, rfl, rfl, hD, h3, (by show 4 + 3 ≤ sizeLine; decide), fun l4 n4 => ?_⟩
  exact q _ l4 (((r1.trans s2).trans r3).trans (same_upd' n4)) (((r1.trans s2).trans r3).free n4) upd_same
abbrev sLbeg : Stmt := topS 71
def scLbegN : List Str := ["_law_board", "_law_ahead", "_law_due", "_law_first", "_law_second", "_law_a", "_law_b", "_law_pc", "_law_sp", "_law_zero", "_law_lets", "_law_beat"]
theorem scLbeg : FnScope scLbegN ["_law_board", "_law_ahead", "_law_due", "_law_first", "_law_second"] (defScope sLbeg) := ⟨rfl, rfl, rfl, by decide +kernel, rfl, by decide +kernel, by decide +kernel⟩
theorem ok_Lbeg {f : Addr} {fd : FuncData} {fL_std : Addr} {dL_std : FuncData} {fM_at : Addr} {dM_at : FuncData} (F : Fun K "_law_began" "_law_began" sLbeg f fd) (T : Tx K mg CB CM)
    (L_std : CalF P w K mg base 1 "_law_stand" ["_law_board"] (spStd CB CM) fL_std dL_std)
    (M_at : CalM P w K mg base CM 1 "word_at" ["self", "address"] (spMAt CM) fM_at dM_at) : FnOk P w K mg base CX0 2 f fd ["_law_board", "_law_ahead", "_law_due", "_law_first", "_law_second"] (spBeg CB CM) := by
  refine F.ok scLbeg (fun vs H Q E h => by obtain ⟨_, _, _, _, _, _, _, _, rfl, _⟩ := h; rfl) (fun cdv A outer s H vs Q E hr h => ?_)
  have hu := hu_of hr
  have z_int := T.z_int
  obtain ⟨Hb, p, la, x, y, due, F_, S_, rfl, R, hla, ya, yb, yp, ys, yz, yl, yt, m7, m6, s0, s1, q⟩ := h
  have hu64 := hr.units
  refine ⟨_, (pss_cons (ps_asg (pv 1) (pg_unl rfl (pgs_cons (pg_name (i := 5) scLbeg.nd rfl (.inl rfl)) (pgs_cons (pg_name (i := 6) scLbeg.nd rfl (.inl rfl)) (pgs_cons (pg_name (i := 7) scLbeg.nd rfl (.inl rfl)) (pgs_cons (pg_name (i := 8) scLbeg.nd rfl (.inl rfl)) (pgs_cons (pg_name (i := 9) scLbeg.nd rfl (.inl rfl)) (pgs_cons (pg_name (i := 10) scLbeg.nd rfl (.inl rfl)) (pgs_cons (pg_name (i := 11) scLbeg.nd rfl (.inl rfl)) pgs_nil)))))))))
    (pss_cons (ps_if (pt_cmpR (op_neD hu64) (pe_call L_std.G (hr.mono (by decide)) (by rfl) L_std.g L_std.kp L_std.b .nil pass0 (pa_cons (pv 0) pa_nil)) (pe_lst (pa_cons (pv 5) (pa_cons (pv 6) (pa_cons (pe_op op_sub pe_int (pe_op op_mod (pv 2) pe_int)) (pa_cons (pe_op op_sub (pv 8) pe_int) (pa_cons (pv 9) (pa_cons pe_bl (pa_cons (pe_op op_add (pv 11) pe_int) pa_nil)))))))) (nomark _)) (pss_one (ps_ret pe_bl)) pss_nil)
    (pss_one (ps_ret (pe_cmpR (op_eqD hu64) (pe_lst (pa_cons (pe_meth (pe_fld (pv 0) rfl) M_at.c M_at.m M_at.G (hr.mono (by decide)) M_at.b .nil pass0 (pa_cons (pv 8) pa_nil)) (pa_cons (pe_meth (pe_fld (pv 0) rfl) M_at.c M_at.m M_at.G (hr.mono (by decide)) M_at.b .nil pass0 (pa_cons (pe_op op_sub (pv 8) pe_int) pa_nil)) pa_nil))) (pe_lst (pa_cons (pv 7) (pa_cons (pe_callTy call_int1 (by rfl) z_int (by decide +kernel) (pa_cons (pv 9) pa_nil)) pa_nil))) (nomark _)))))), ?_⟩
  refine ⟨_, rfl, la, _, rfl, SqL.of hla, rfl, _, _, rfl, _, _, rfl, _, _, rfl, _, _, rfl, _, _, rfl, _, _, rfl, _, _, rfl, rfl, ?_⟩
  refine ⟨_, rfl, Hb, p, y, rfl, R, fun G1 l1 t1 f1 h1 => ?_⟩
  have R := R.same t1
  refine ⟨_, rfl, _, rfl, _, rfl, _, _, rfl, rfl, (by show (0 : Int) < 2; decide), _, _, rfl, rfl, _, rfl, _, _, rfl, rfl, _, rfl, _, rfl, _, _, rfl, rfl, (by show 7 ≤ sizeLine; decide), fun l2 n2 => ?_⟩
  have h2 : upd G1 l2 (.lst [V.int x.a, V.int x.b, V.int (2 - due % 2), V.int (x.sp - 2), V.bl x.zero, V.bl false, V.int (x.beat + 3)]) l2 = some (.lst [V.int x.a, V.int x.b, V.int (2 - due % 2), V.int (x.sp - 2), V.bl x.zero, V.bl false, V.int (x.beat + 3)]) := upd_same
  have r2 := same_upd' (o := .lst [V.int x.a, V.int x.b, V.int (2 - due % 2), V.int (x.sp - 2), V.bl x.zero, V.bl false, V.int (x.beat + 3)]) n2
  have h1 := r2 _ _ h1
  have R := R.same r2
  have e1 : PyData.eqv (.list (stdD y)) (.list [.int x.a, .int x.b, .int (2 - due % 2), .int (x.sp - 2), .bool x.zero, .bool false, .int (x.beat + 3)]) = true := by
    unfold stdD
    rw [ya, yb, yp, ys, yz, yl, yt]
    exact SeqAt.eqv_refl _ (can7 _ _ _ _ _ _ _)
  refine ⟨_, _, .lst (SqL.of h1) (dp_std y), .lst (SqL.of h2) (.cons (.int _) (.cons (.int _) (.cons (.int _) (.cons (.int _) (.cons (.bl _) (.cons (.bl _) (.cons (.int _) .nil))))))), shp7 _ _ _ _ _ _ _, shp7 _ _ _ _ _ _ _, _, rfl, ?_⟩
  rw [e1]
  refine ifN (fun h => by cases h) (fun _ => ?_)
  clear e1 h1 h2
  generalize upd G1 l2 (.lst [V.int x.a, V.int x.b, V.int (2 - due % 2), V.int (x.sp - 2), V.bl x.zero, V.bl false, V.int (x.beat + 3)]) = G2 at *
  obtain ⟨A, ts, ls, B⟩ := R
  obtain ⟨sv, tv, dv, hp, hz⟩ := B.hp
  refine ⟨_, rfl, p, CB, A.dx, _, _, rfl, hp, T.cB, T.n_memory, bF_mem, A.m, A.dm, _, rfl, B.hm, mN_at, _, rfl, A.m, A.dm, A.w, A.s, y.mem, _, rfl, B.mem, (by omega), (by omega), _, rfl, p, CB, A.dx, _, _, rfl, hp, T.cB, T.n_memory, bF_mem, A.m, A.dm, _, rfl, B.hm, mN_at, _, rfl, _, _, rfl, rfl, A.m, A.dm, A.w, A.s, y.mem, _, rfl, B.mem, (by omega), (by omega), (by show 2 ≤ sizeLine; decide), fun l3 n3 => ?_⟩
  have h3 : upd G2 l3 (.lst ([rd y.mem x.sp, rd y.mem (x.sp - 1)].map V.int)) l3 = some (.lst ([rd y.mem x.sp, rd y.mem (x.sp - 1)].map V.int)) := upd_same
  have r3 := same_upd' (o := .lst ([rd y.mem x.sp, rd y.mem (x.sp - 1)].map V.int)) n3
  have h3 : upd G2 l3 (.lst [V.int (rd y.mem x.sp), V.int (rd y.mem (x.sp - 1))]) l3 = some (.lst ([rd y.mem x.sp, rd y.mem (x.sp - 1)].map V.int)) := h3
  have r3 : Same G2 (upd G2 l3 (.lst [V.int (rd y.mem x.sp), V.int (rd y.mem (x.sp - 1))])) := r3
  refine ⟨_, rfl, _, rfl, .inr ⟨_, rfl, ?_⟩⟩
  generalize upd G2 l3 (.lst [V.int (rd y.mem x.sp), V.int (rd y.mem (x.sp - 1))]) = G3 at *
  refine ⟨(by show 2 ≤ sizeLine; decide), fun l4 n4 => ?_⟩
  have r4 := same_upd' (o := .lst [V.int x.pc, V.int (if x.zero = true then 1 else 0)]) n4
  have h4 : upd G3 l4 (.lst [V.int x.pc, V.int (if x.zero = true then 1 else 0)]) l4 = some (.lst ([x.pc, b2n x.zero].map V.int)) := upd_same
  refine ⟨_, _, .lst (SqL.of (r4 _ _ h3)) (dp_ints _), .lst (SqL.of h4) (dp_ints _), shaped_ints _, shaped_ints _, ?_⟩
  have e2 : PyData.eqv (.list ([x.pc, b2n x.zero].map PyData.int)) (.list ([x.pc, b2n x.zero].map PyData.int)) = true := SeqAt.eqv_refl (.list ([x.pc, b2n x.zero].map PyData.int)) (show PyData.canLay0 (.list ([x.pc, b2n x.zero].map PyData.int)) = true from can_ints _)
  rw [m7, m6, e2]
  exact q _ (((t1.trans r2).trans r3).trans r4)
end
end Bh

/-! The law. -/
namespace Bh
open PySem PySem.Spec PyProof.Rows L2
def dcD (m n : Int) : List (Key × V) := [(Sum.inl 1, .int m), (Sum.inl 2, .int n)]
theorem n_di : ¬ V.str "deed" = V.str "interrupt" := fun h => absurd (V.str.inj h) (by decide +kernel)
theorem n_dis : ¬ ("deed" : Str) = "interrupt" := by decide +kernel
theorem dgI {H : Hp} {r : Addr} {kvs : List (Key × V)} {n m : Int} {v : V} (e : n = m) (h : H r = some (.dK kvs)) (g : valV kvs (Sum.inl m) = some v) : DGet H r (.int n) (some v) := by
  rw [e]
  exact dg (k := Sum.inl m) h g
theorem dpI {H : Hp} {r : Addr} {a b : Int} {kvs : List (Key × V)} {n m : Int} {v : V} (e : n = m) (h : H r = some (.dK (dcD a b))) (g : putK (dcD a b) (Sum.inl m) v = kvs) : DPut H r (.int n) v (upd H r (.dK kvs)) := by
  rw [e, ← g]
  exact DPut.k (k := Sum.inl m) h (by show 2 < sizeLine; decide)
theorem dcG {g m n : Int} (h : g = 1 ∨ g = 2) : valV (dcD m n) (Sum.inl g) = some (.int (if g = 1 then m else n)) := by
  rcases h with rfl | rfl <;> rfl
theorem dcP {g m n : Int} (h : g = 1 ∨ g = 2) : putK (dcD m n) (Sum.inl g) (.int ((if g = 1 then m else n) + 1)) = dcD (if g = 1 then m + 1 else m) (if g = 2 then n + 1 else n) := by
  rcases h with rfl | rfl <;> rfl
theorem dcG1 {m n : Int} : valV (dcD m n) (Sum.inl 1) = some (.int m) := rfl
theorem dcG2 {m n : Int} : valV (dcD m n) (Sum.inl 2) = some (.int n) := rfl
theorem dcP1 {m n v : Int} : putK (dcD m n) (Sum.inl 1) (.int v) = dcD v n := rfl
theorem dcP2 {m n v : Int} : putK (dcD m n) (Sum.inl 2) (.int v) = dcD m v := rfl
theorem new16 {I : List Int} {F S T M : Int} (G : Img I F S T M) (ls : List (Int × Int)) : Sit16 I F S (newBd I ls) 0 0 0 0 .main where
  C := {
    st := rfl
    se := rfl
    lm := by
      have hl := G.l
      show (memOf I).length = 774
      unfold memOf
      rw [List.length_append, List.length_append, List.length_replicate, List.length_replicate]
      omega
    fl := fun j h0 h1 => by
      have := memOf_rd (ns := I) (by rw [G.l]; decide) (j := j.toNat) (by rw [G.l]; omega)
      rw [Int.toNat_of_nonneg h0] at this
      exact this
    fn := by rw [show rd (newBd I ls).mem 770 = 0 from memOf_ram (ns := I) (by rw [G.l]; decide) (j := 770) (by decide) (by decide)]; decide
    mk1 := by rw [show rd (newBd I ls).mem 771 = 0 from memOf_ram (ns := I) (by rw [G.l]; decide) (j := 771) (by decide) (by decide)]; decide
    ar := ⟨show (0 : Int) ≤ 0 by decide, show (0 : Int) ≤ 65535 by decide⟩
    br := ⟨show (0 : Int) ≤ 0 by decide, show (0 : Int) ≤ 65535 by decide⟩
    as := rfl
    z5 := memOf_ram (ns := I) (by rw [G.l]; decide) (j := 512) (by decide) (by decide)
    c1 := memOf_ram (ns := I) (by rw [G.l]; decide) (j := 601) (by decide) (by decide)
    c2 := memOf_ram (ns := I) (by rw [G.l]; decide) (j := 602) (by decide) (by decide) }
  p1 := by decide
  p2 := by decide
  ok := ⟨rfl, .inl rfl, rfl, rfl⟩
theorem sit_pc {I : List Int} {F S T M : Int} (G : Img I F S T M) {x : Bd} {n1 n2 c1 c2 : Int} {ph : Ph} (Q : Sit16 I F S x n1 n2 c1 c2 ph) : 0 ≤ x.pc ∧ x.pc < 501 := by
  have hf := G.f
  have hs := G.s
  have ok := Q.ok
  cases ph with
  | main =>
    obtain ⟨_, h, _⟩ := ok
    unfold PcM at h
    omega
  | rou g r h =>
    obtain ⟨R, _⟩ := ok
    have h8 := R.r8
    have hp := R.pc
    have g12 := R.g12
    unfold bas at hp
    by_cases z : r = 0
    · rw [if_pos z] at hp
      omega
    · rw [if_neg z] at hp
      by_cases z2 : g = 1
      · rw [if_pos z2] at hp
        omega
      · rw [if_neg z2] at hp
        omega
theorem sit_ok {I : List Int} {F S T M : Int} (G : Img I F S T M) {x : Bd} {n1 n2 c1 c2 : Int} {ph : Ph} (Q : Sit16 I F S x n1 n2 c1 c2 ph) : PcOk x := fun h0 _ => by
  have h := sit_pc G Q
  rw [Q.C.fl x.pc h0 h.2]
  exact (G.ok _ (rd_mem h0 (by rw [G.l]; exact h.2))).1
theorem sit_le {I : List Int} {F S : Int} {x : Bd} {n1 n2 c1 c2 : Int} {ph : Ph} (Q : Sit16 I F S x n1 n2 c1 c2 ph) : n1 ≤ c1 ∧ n2 ≤ c2 ∧ (c1 - n1) + (c2 - n2) ≤ 1 ∧ (ph = .main → c1 = n1 ∧ c2 = n2) := by
  have ok := Q.ok
  cases ph with
  | main =>
    obtain ⟨_, _, e1, e2⟩ := ok
    exact ⟨by omega, by omega, by omega, fun _ => ⟨e1, e2⟩⟩
  | rou g r h =>
    obtain ⟨_, _, _, _, e1, e2⟩ := ok
    refine ⟨?_, ?_, ?_, fun z => (by cases z)⟩
    · rw [e1]; split <;> omega
    · rw [e2]; split <;> omega
    · rw [e1, e2]
      by_cases z : g = 1 ∧ r ≤ 4
      · rw [if_pos z, if_neg (fun q => by omega)]; omega
      · rw [if_neg z]; split <;> omega
def Wait (Hb : Hp) (wl : List V) : Ph → Prop
  | .main => wl = []
  | .rou _ _ h => ∃ la, wl = [.ref la] ∧ Hb la = some (.lst (ahV h))
theorem Wait.mono {Hb H' : Hp} {wl : List V} {ph : Ph} (s : ∀ l xs, Hb l = some (.lst xs) → xs.length = 7 → H' l = some (.lst xs)) (w : Wait Hb wl ph) : Wait H' wl ph := by
  cases ph with
  | main => exact w
  | rou g r h =>
    obtain ⟨la, e, q⟩ := w
    exact ⟨la, e, s _ _ q rfl⟩
section
variable {P : Program} {w : World} {K : PySem.W.Frag} {mg : Str → Option Value} {base : Heap} {CB CM : Addr}
abbrev sLaw : Stmt := topS 72
def scLlawN : List Str := ["_law_script", "_law_cells", "_law_cell_here", "_law_row", "_law_image", "_law_first", "_law_second", "_law_board", "_law_counts", "_law_waiting", "_law_turn", "_law_due", "_law_ahead", "_law_returns", "_law_found", "_law_a", "_law_b", "_law_pc", "_law_sp", "_law_zero", "_law_lets", "_law_beat", "_law_left", "_law_return_due"]
theorem scLlaw : FnScope scLlawN ["_law_script"] (defScope sLaw) := ⟨rfl, rfl, rfl, by decide +kernel, rfl, by decide +kernel, by decide +kernel⟩
theorem ok_Llaw {f : Addr} {fd : FuncData} {fC_board : Addr} {dC_board : FuncData} {fL_beg : Addr} {dL_beg : FuncData} {fL_dig : Addr} {dL_dig : FuncData} {fL_img : Addr} {dL_img : FuncData} {fL_lin : Addr} {dL_lin : FuncData} {fL_std : Addr} {dL_std : FuncData} {fM_at : Addr} {dM_at : FuncData} {fM_turn : Addr} {dM_turn : FuncData} (F : Fun K "law" "law" sLaw f fd) (T : Tx K mg CB CM)
    (C_board : CalC P w K mg base CB 6 "Board" ["self", "image", "line"] (spBI CB CM) fC_board dC_board)
    (L_beg : CalF P w K mg base 2 "_law_began" ["_law_board", "_law_ahead", "_law_due", "_law_first", "_law_second"] (spBeg CB CM) fL_beg dL_beg)
    (L_dig : CalF P w K mg base 1 "_law_digits" ["_law_cell_here", "_law_many"] (spDig) fL_dig dL_dig)
    (L_img : CalF P w K mg base 1 "_law_image_of" ["_law_row"] (spImg16) fL_img dL_img)
    (L_lin : CalF P w K mg base 1 "_law_line_of" ["_law_row"] (spLin16) fL_lin dL_lin)
    (L_std : CalF P w K mg base 1 "_law_stand" ["_law_board"] (spStd CB CM) fL_std dL_std)
    (M_at : CalM P w K mg base CM 1 "word_at" ["self", "address"] (spMAt CM) fM_at dM_at)
    (M_turn : CalM P w K mg base CB 6 "turn" ["self"] (spTurn CB CM) fM_turn dM_turn)
    (Zmin : mg "min" = none) (Zsum : mg "sum" = none) : FnOk P w K mg base CX0 8 f fd ["_law_script"] (spLaw K) := by
  refine F.ok scLlaw (fun vs H Q E h => by obtain ⟨_, _, rfl, _⟩ := h; rfl) (fun cdv A outer s H vs Q E hr h => ?_)
  have hu := hu_of hr
  have z_len := T.z_len
  have z_min := Zmin
  have z_range := T.z_range
  have z_sum := Zsum
  obtain ⟨a, ns, rfl, hS, hn, q⟩ := h
  have hu64 := hr.units
  refine ⟨_, (pss_cons (ps_set (i := 1) scLlaw.nd rfl (.inl rfl) (pe_slice sl_list (pv 0) po_none (po_some pe_int)))
    (pss_cons (ps_if (pt_cmpR (op_eqD hu64) (pv 1) (pe_lst pa_nil) (nomark _)) (pss_one (ps_set (i := 1) scLlaw.nd rfl (.inl rfl) (pe_lst (pa_cons pe_int (pa_cons pe_int pa_nil))))) pss_nil)
    (pss_cons (ps_for PassesOwn.never rfl (pi_list (pv 1)) (pg_name (i := 2) scLlaw.nd rfl (.inl rfl))
      (pss_cons (ps_set (i := 3) scLlaw.nd rfl (.inl rfl) (pe_call L_dig.G (hr.mono (by decide)) (by rfl) L_dig.g L_dig.kp L_dig.b .nil pass0 (pa_cons (pv 2) (pa_cons pe_int pa_nil))))
    (pss_cons (ps_asg (pe_call L_img.G (hr.mono (by decide)) (by rfl) L_img.g L_img.kp L_img.b .nil pass0 (pa_cons (pv 3) pa_nil)) (pg_tup rfl (pgs_cons (pg_name (i := 4) scLlaw.nd rfl (.inl rfl)) (pgs_cons (pg_name (i := 5) scLlaw.nd rfl (.inl rfl)) (pgs_cons (pg_name (i := 6) scLlaw.nd rfl (.inl rfl)) pgs_nil)))))
    (pss_cons (ps_set (i := 7) scLlaw.nd rfl (.inl rfl) (pe_make C_board.M C_board.I (hr.mono (by decide)) rfl C_board.g C_board.b .nil pass0 (pa_cons (pv 4) (pa_cons (pe_call L_lin.G (hr.mono (by decide)) (by rfl) L_lin.g L_lin.kp L_lin.b .nil pass0 (pa_cons (pv 3) pa_nil)) pa_nil))))
    (pss_cons (ps_set (i := 8) scLlaw.nd rfl (.inl rfl) (pe_disp (pps_cons pe_int pe_int (pps_cons pe_int pe_int pps_nil)) rfl rfl (by intro h; cases h) (by decide)))
    (pss_cons (ps_set (i := 9) scLlaw.nd rfl (.inl rfl) (pe_lst pa_nil))
    (pss_cons (ps_for PassesOwn.never rfl (pi_range1 (by rfl) z_range (pa_cons pe_int pa_nil)) (pg_name (i := 10) scLlaw.nd rfl (.inl rfl))
      (pss_cons (ps_set (i := 11) scLlaw.nd rfl (.inl rfl) (pe_op op_and (pe_meth (pe_fld (pv 7) rfl) M_at.c M_at.m M_at.G (hr.mono (by decide)) M_at.b .nil pass0 (pa_cons pe_int pa_nil)) (pe_meth (pe_fld (pv 7) rfl) M_at.c M_at.m M_at.G (hr.mono (by decide)) M_at.b .nil pass0 (pa_cons pe_int pa_nil))))
    (pss_cons (ps_set (i := 12) scLlaw.nd rfl (.inl rfl) (pe_call L_std.G (hr.mono (by decide)) (by rfl) L_std.g L_std.kp L_std.b .nil pass0 (pa_cons (pv 7) pa_nil)))
    (pss_cons (ps_set (i := 13) scLlaw.nd rfl (.inl rfl) (pe_cmpR op_eq (pe_ix ix_list (pv 4) (pe_ix ix_list (pv 12) pe_int (fun _ _ => rfl)) (fun _ _ => rfl)) (pe_op op_mul pe_int pe_int) (nomark _)))
    (pss_cons (ps_set (i := 14) scLlaw.nd rfl (.inl rfl) (pe_meth0 (pv 7) M_turn.c M_turn.m M_turn.G (hr.mono (by decide)) M_turn.b .nil pass0))
    (pss_cons (ps_if (pt_cmpR op_ne (pe_cmpR op_eq (pv 14) pe_str (nomark _)) (pe_and (pe_ix ix_list (pv 12) pe_int (fun _ _ => rfl)) (pe_one (pe_cmpR op_gt (pv 11) pe_int (nomark _)))) (nomark _)) (pss_one (ps_ret pe_bl)) pss_nil)
    (pss_one (ps_if (pt_cmpR op_eq (pv 14) pe_str (nomark _)) (pss_cons (ps_if (PW.pt (pw_or (pt_cmpR (op_neD hu64) (pv 9) (pe_lst pa_nil) (nomark _)) (pw_or1 (pt_not (pt_val (pe_call L_beg.G (hr.mono (by decide)) (by rfl) L_beg.g L_beg.kp L_beg.b .nil pass0 (pa_cons (pv 7) (pa_cons (pv 12) (pa_cons (pv 11) (pa_cons (pv 5) (pa_cons (pv 6) pa_nil))))))))))) (pss_one (ps_ret pe_bl)) pss_nil)
    (pss_cons (ps_dput hu (pv 8) (pe_op op_sub pe_int (pe_op op_mod (pv 11) pe_int)) (pe_op op_add (pe_dget hu (pv 8) (pe_op op_sub pe_int (pe_op op_mod (pv 11) pe_int)) (fun _ _ => rfl)) pe_int) rfl)
    (pss_one (ps_expr (pe_bm PySem.F.plainAttrs_list PySem.F.slot_list_append PySem.F.type_list_append mt_append (pv 9) (pa_cons (pv 12) pa_nil)))))) (pss_one (ps_if (pt_val (pv 13)) (pss_cons (ps_asg (pe_bm0 PySem.F.plainAttrs_list PySem.F.slot_list_pop PySem.F.type_list_pop mt_pop (pv 9)) (pg_unl rfl (pgs_cons (pg_name (i := 15) scLlaw.nd rfl (.inl rfl)) (pgs_cons (pg_name (i := 16) scLlaw.nd rfl (.inl rfl)) (pgs_cons (pg_name (i := 17) scLlaw.nd rfl (.inl rfl)) (pgs_cons (pg_name (i := 18) scLlaw.nd rfl (.inl rfl)) (pgs_cons (pg_name (i := 19) scLlaw.nd rfl (.inl rfl)) (pgs_cons (pg_name (i := 20) scLlaw.nd rfl (.inl rfl)) (pgs_cons (pg_name (i := 21) scLlaw.nd rfl (.inl rfl)) pgs_nil)))))))))
    (pss_one (ps_if (pt_cmpR (op_neD hu64) (pe_slice sl_list (pe_call L_std.G (hr.mono (by decide)) (by rfl) L_std.g L_std.kp L_std.b .nil pass0 (pa_cons (pv 7) pa_nil)) po_none (po_some pe_int)) (pe_lst (pa_cons (pv 15) (pa_cons (pv 16) (pa_cons (pv 17) (pa_cons (pv 18) (pa_cons (pv 19) (pa_cons pe_bl pa_nil))))))) (nomark _)) (pss_one (ps_ret pe_bl)) pss_nil))) pss_nil))))))))))
    (pss_cons (ps_set (i := 14) scLlaw.nd rfl (.inl rfl) (pe_lst (pa_cons (pe_meth (pe_fld (pv 7) rfl) M_at.c M_at.m M_at.G (hr.mono (by decide)) M_at.b .nil pass0 (pa_cons pe_int pa_nil)) (pa_cons (pe_meth (pe_fld (pv 7) rfl) M_at.c M_at.m M_at.G (hr.mono (by decide)) M_at.b .nil pass0 (pa_cons pe_int pa_nil)) pa_nil))))
    (pss_cons (ps_set (i := 22) scLlaw.nd rfl (.inl rfl) (pe_callB call_len_seq (by rfl) z_len PySem.boot_len (pa_cons (pv 9) pa_nil)))
    (pss_cons (ps_set (i := 23) scLlaw.nd rfl (.inl rfl) (pe_lst (pa_cons (pe_op op_sub (pe_dget hu (pv 8) pe_int (fun _ _ => rfl)) (pe_ix ix_list (pv 14) pe_int (fun _ _ => rfl))) (pa_cons (pe_op op_sub (pe_dget hu (pv 8) pe_int (fun _ _ => rfl)) (pe_ix ix_list (pv 14) pe_int (fun _ _ => rfl))) pa_nil))))
    (pss_one (ps_if (PW.pt (pw_or (pt_cmpR op_lt (pe_callB (cr_min rfl) (by rfl) z_min (by decide +kernel) (pa_cons (pv 23) pa_nil)) pe_int (nomark _)) (pw_or1 (pt_cmpR op_gt (pe_callB (cr_sum rfl) (by rfl) z_sum (by decide +kernel) (pa_cons (pv 23) pa_nil)) (pv 22) (nomark _))))) (pss_one (ps_ret pe_bl)) pss_nil))))))))))))
    (pss_one (ps_ret pe_bl))))), ?_⟩
  obtain ⟨ms, ems, hms⟩ := cut_ints ns none (some 8)
  refine ⟨_, rfl, _, rfl, a, _, rfl, hS, fun c nc => ?_⟩
  rw [ems]
  have hc0 : SqL K (upd H c (.lst (ms.map V.int))) c (ms.map V.int) := .inl (.inl upd_same)
  refine ⟨_, rfl, Nat.zero_le _, fun e0 ne0 => ?_⟩
  have hc1 : SqL K (upd (upd H c (.lst (ms.map V.int))) e0 (.lst [])) c (ms.map V.int) := (same_upd' ne0).seq hc0
  refine ⟨_, _, .lst hc1 (dp_ints ms), .lst (.inl (.inl upd_same)) .nil, shaped_ints ms, shaped_ints [], _, rfl, ifB (fun _ => ⟨(by show 2 ≤ sizeLine; decide), fun ca nca => ?_⟩) (fun _ => ?_)⟩
  · obtain ⟨ms', hca⟩ : ∃ ms' : List Int, SqL K (upd (upd (upd H c (.lst (ms.map V.int))) e0 (.lst [])) ca (.lst [.int 4, .int 19])) ca (ms'.map V.int) := ⟨[4, 19], .inl (.inl upd_same)⟩
    refine ⟨_, rfl, ca, rfl, ⟨_, hca⟩, ?_⟩
    refine for_list (K := K) (a := ca) (xs := ms'.map V.int) (fun i σ H' => SqL K H' ca (ms'.map V.int) ∧ ∃ y2 y3 y4 y5 y6 y7 y8 y9 y10 y11 y12 y13 y14 y15 y16 y17 y18 y19 y20 y21 y22 y23 : Option V, σ = [some (.ref a), some (.ref ca), y2, y3, y4, y5, y6, y7, y8, y9, y10, y11, y12, y13, y14, y15, y16, y17, y18, y19, y20, y21, y22, y23]) ⟨hca, none, none, none, none, none, none, none, none, none, none, none, none, none, none, none, none, none, none, none, none, none, none, rfl⟩ (fun _ _ _ _ h => h.1) ?_ ?_
    · rintro i v σ H1 hi ⟨hca, y2, y3, y4, y5, y6, y7, y8, y9, y10, y11, y12, y13, y14, y15, y16, y17, y18, y19, y20, y21, y22, y23, rfl⟩
      obtain ⟨cell, _, rfl⟩ := getI hi
      refine ⟨_, rfl, cell, 60, rfl, by decide, fun G0 pd ds hl hd sm2 npd hpd => ?_⟩
      refine ⟨_, rfl, pd, ds, rfl, hpd, hl, hd, fun G1 t im F_ S_ T_ M_ I s1 hI him ht => ?_⟩
      refine ⟨t, _, rfl, SqT.of ht, rfl, _, _, rfl, _, _, rfl, _, _, rfl, rfl, ?_⟩
      refine ⟨_, rfl, _, rfl, pd, ds, rfl, s1 _ _ hpd, hl, hd, fun G2 ln us ls s2 hln hus hri => ?_⟩
      have him := s2 _ _ him
      have hca2 := s2.seq (s1.seq (sm2.seq hca))
      clear sm2 hpd hl hd s1 ht s2 npd
      intro p dx nb ndx hdx
      have sb : Same G2 (upd (upd G2 dx (.own p)) p (.ins CB dx [])) := fun z o ez => by
        rw [upd_ne (ne_of_none ez nb), upd_ne (ne_of_none ez ndx)]
        exact ez
      refine ⟨G2, p, dx, im, ln, us, I, ls, rfl, sb, nb, upd_same, sb _ _ him, (by rw [hI.l]; decide), hI.ok, sb _ _ hln, hus.mono fun t xs e => sb _ _ e, hri, fun G4 R => ⟨rfl, ?_⟩⟩
      clear sb nb ndx hdx hln hus hri
      refine fun dc ndc => ⟨upd_same, [(Sum.inl 1, .int 0), (Sum.inl 2, .int 0)], rfl, by decide, ?_⟩
      have sd : Same G4 (upd (upd G4 dc (.dK [])) dc (.dK (dcD 0 0))) := fun z o ez => by
        rw [upd_ne (ne_of_none ez ndc), upd_ne (ne_of_none ez ndc)]
        exact ez
      have R1 := R.grow sd ndc (show upd (upd G4 dc (.dK [])) dc (.dK (dcD 0 0)) dc = some (.dK (dcD 0 0)) from upd_same)
      have sb1 := up_new (o := .dK (dcD 0 0)) R.sm ndc
      have hdc : upd G2 dc (.dK (dcD 0 0)) dc = some (.dK (dcD 0 0)) := upd_same
      refine ⟨Nat.zero_le _, fun lw nlw => ?_⟩
      have R2 := R1.new (o := .lst []) nlw
      have sb2 := up_new (o := .lst []) R1.sm nlw
      have nd := R.sm.free ndc
      have nw := R.sm.free (sd.free nlw)
      have sG := sb1.trans sb2
      have hdc := sb2 _ _ hdc
      have hlw : upd (upd G2 dc (.dK (dcD 0 0))) lw (.lst []) lw = some (.lst []) := upd_same
      clear R R1 sb1 sb2 sd
      generalize upd (upd G2 dc (.dK (dcD 0 0))) lw (.lst []) = Hb0 at *
      refine ⟨150, rfl, by decide, by decide, ?_⟩
      refine for_range (lo := 0) (n := ((150 : Int)).toNat) (fun i σ H' => ∃ (y10 y11 y12 y13 y14 y15 y16 y17 y18 y19 y20 y21 y22 y23 : Option V) (Hb : Hp) (x : Bd) (n1 n2 c1 c2 : Int) (ph : Ph) (wl : List V), σ = [some (.ref a), some (.ref ca), some (.int cell), some (.ref pd), some (.ref im), some (.int F_), some (.int S_), some (.ref p), some (.ref dc), some (.ref lw), y10, y11, y12, y13, y14, y15, y16, y17, y18, y19, y20, y21, y22, y23] ∧ BoardAt CB CM Hb H' p x ∧ Sit16 I F_ S_ x n1 n2 c1 c2 ph ∧ Same G2 Hb ∧ Hb dc = some (.dK (dcD c1 c2)) ∧ Hb lw = some (.lst wl) ∧ Wait Hb wl ph ∧ c1 ≤ i ∧ c2 ≤ i) ⟨y10, y11, y12, y13, y14, y15, y16, y17, y18, y19, y20, y21, y22, y23, Hb0, _, 0, 0, 0, 0, .main, [], rfl, R2, new16 hI ls, sG, hdc, hlw, rfl, by decide, by decide⟩ ?_ ?_
      · rintro i σ H7 hi ⟨y10, y11, y12, y13, y14, y15, y16, y17, y18, y19, y20, y21, y22, y23, Hb, x, n1, n2, c1, c2, ph, wl, rfl, R, Q, sG, hdc, hlw, W, l1, l2⟩
        have hi : i < 150 := hi
        obtain ⟨q1, q2, q3, q4⟩ := sit_le Q
        obtain ⟨y, k, tx, D⟩ := turn16 hI Q (by omega) (by omega)
        obtain ⟨p0, p1⟩ := sit_pc hI Q
        obtain ⟨A, ts, lsv, B⟩ := R
        obtain ⟨sv, tv, dv, hp, hz⟩ := B.hp
        refine ⟨_, rfl, p, CB, A.dx, _, _, rfl, hp, T.cB, T.n_memory, bF_mem, A.m, A.dm, _, rfl, B.hm, mN_at, A.m, A.dm, A.w, A.s, x.mem, 770, rfl, B.mem, by decide, by decide, ?_⟩
        refine ⟨_, rfl, p, CB, A.dx, _, _, rfl, hp, T.cB, T.n_memory, bF_mem, A.m, A.dm, _, rfl, B.hm, mN_at, A.m, A.dm, A.w, A.s, x.mem, 771, rfl, B.mem, by decide, by decide, _, _, rfl, rfl, ?_⟩
        refine ⟨_, rfl, Hb, p, x, rfl, ⟨A, ts, lsv, B⟩, fun H8 la s8 n8 h8 => ?_⟩
        have R8 := BoardAt.grow (CB := CB) (CM := CM) ⟨A, ts, lsv, B⟩ s8 n8 h8
        have sG8 : Same Hb (upd Hb la (.lst (stdV x))) := up_new B.sm n8
        have sG := sG.trans sG8
        have hdc := sG8 _ _ hdc
        have hlw := sG8 _ _ hlw
        have W := W.mono (fun l xs e _ => sG8 _ _ e)
        have hla : upd Hb la (.lst (stdV x)) la = some (.lst (stdV x)) := upd_same
        generalize upd Hb la (.lst (stdV x)) = Hc at *
        clear sG8 B hp hz s8 n8
        obtain ⟨A8, ts8, ls8, B8⟩ := R8
        obtain ⟨sv8, tv8, dv8, hp8, hz8⟩ := B8.hp
        refine ⟨_, rfl, _, rfl, la, _, _, _, rfl, rfl, SqL.of h8, rfl, im, _, _, _, rfl, rfl, SqL.of (B8.sm _ _ (sG _ _ him)), atI_rd p0 (by rw [hI.l]; exact p1), _, _, rfl, rfl, .inl ⟨by decide, by decide⟩, rfl, ?_⟩
        refine ⟨_, rfl, p, A8.dx, _, rfl, hp8, bN_turn, Hc, p, x, rfl, ⟨A8, ts8, ls8, B8⟩, (by rw [Q.C.se]; decide), sit_ok hI Q, fun H9 R9 => ?_⟩
        rw [tx] at R9 ⊢
        obtain ⟨A9, ts9, ls9, B9⟩ := R9
        obtain ⟨sv9, tv9, dv9, hp9, hz9⟩ := B9.hp
        have hdc9 := B9.sm _ _ hdc
        have hlw9 := B9.sm _ _ hlw
        have hla9 := B9.sm _ _ hla
        cases D with
        | began g s le due hg bt z sp nb =>
          refine ⟨_, rfl, rfl, _, rfl, la, _, _, _, rfl, rfl, SqL.of hla9, rfl, _, rfl, ifB (fun _ => ⟨_, rfl, _, _, rfl, rfl, ?_⟩) (fun h => by rw [le] at h; cases h)⟩
          refine ⟨rfl, _, rfl, ifN (fun h => absurd (congrArg V.bl ((decide_eq_true (p := V.str "interrupt" = V.str "interrupt") rfl).trans (decide_eq_true (p := 0 < calledM x) due).symm)) (of_decide_eq_false h)) (fun _ => ?_)⟩
          refine ⟨_, rfl, rfl, _, rfl, ifB (fun _ => ?_) (fun h => absurd rfl (of_decide_eq_false h))⟩
          have W0 : wl = [] := W
          subst W0
          obtain ⟨R0, hl0, _, _, e1, e2⟩ := s.ok
          have g12 := R0.g12
          refine ⟨_, rfl, Nat.zero_le _, fun l5 n5 => ?_⟩
          have r5 := same_upd' (o := .lst []) n5
          refine ⟨_, _, .lst (SqL.of (r5 _ _ hlw9)) .nil, .lst (SqL.of upd_same) .nil, shaped_ints [], shaped_ints [], _, rfl, ?_⟩
          have e0 : PyData.eqv (.list []) (.list []) = true := SeqAt.eqv_refl (.list []) rfl
          rw [e0]
          refine ifN (fun h => by cases h) (fun _ => ?_)
          have B10 := B9.same r5
          have hla10 := r5 _ _ hla9
          clear r5
          generalize upd H9 l5 (.lst []) = H10 at *
          refine ⟨_, rfl, _, rfl, _, rfl, _, rfl, _, rfl, Hc, p, la, x, y, calledM x, F_, S_, rfl, ⟨A9, ts9, ls9, B10⟩, hla10, R0.a1 (.inl (by decide)), R0.b, R0.pc.trans hg, (show y.sp = x.sp - 2 by rw [sp]; exact R0.sp), z, R0.le, bt, (by rw [sp]; exact R0.m7), (by rw [sp]; exact R0.m6), (by omega), (by omega), fun H11 s11 => ?_⟩
          refine ⟨_, rfl, ?_⟩
          refine ifN (fun h => by cases h) (fun _ => ?_)
          have B11 := B10.same s11
          have hdc11 := B11.sm _ _ hdc
          refine ⟨_, rfl, _, rfl, _, _, rfl, rfl, (by show (0 : Int) < 2; decide), _, _, rfl, rfl, dc, _, rfl, dgI hg.symm hdc11 (dcG g12), _, _, rfl, rfl, _, rfl, _, rfl, _, _, rfl, rfl, (by show (0 : Int) < 2; decide), _, _, rfl, rfl, dc, _, rfl, dpI hg.symm hdc11 (dcP g12), ?_⟩
          have R12 := BoardAt.chg (CB := CB) (CM := CM) (o := .dK (dcD (if g = 1 then c1 + 1 else c1) (if g = 2 then c2 + 1 else c2))) ⟨A9, ts9, ls9, B11⟩ hdc (fun xs e => by cases e)
          have hdc12 : upd Hc dc (.dK (dcD (if g = 1 then c1 + 1 else c1) (if g = 2 then c2 + 1 else c2))) dc = some (.dK (dcD (if g = 1 then c1 + 1 else c1) (if g = 2 then c2 + 1 else c2))) := upd_same
          have hlw12 : upd Hc dc (.dK (dcD (if g = 1 then c1 + 1 else c1) (if g = 2 then c2 + 1 else c2))) lw = some (.lst []) := by
            rw [upd_ne (fun z => by rw [z, hdc] at hlw; cases hlw)]
            exact hlw
          have hla12 : upd Hc dc (.dK (dcD (if g = 1 then c1 + 1 else c1) (if g = 2 then c2 + 1 else c2))) la = some (.lst (stdV x)) := by
            rw [upd_ne (fun z => by rw [z, hdc] at hla; cases hla)]
            exact hla
          have sG12 : Same G2 (upd Hc dc (.dK (dcD (if g = 1 then c1 + 1 else c1) (if g = 2 then c2 + 1 else c2)))) := fun b o ez => by
            rw [upd_ne (ne_of_none ez nd)]
            exact sG _ _ ez
          generalize upd Hc dc (.dK (dcD (if g = 1 then c1 + 1 else c1) (if g = 2 then c2 + 1 else c2))) = Hd at *
          generalize upd H11 dc (.dK (dcD (if g = 1 then c1 + 1 else c1) (if g = 2 then c2 + 1 else c2))) = H12 at *
          refine ⟨_, rfl, .inl ⟨rfl, _, SqL.of (R12.sm _ _ hlw12)⟩, _, rfl, lw, [], _, rfl, rfl, R12.sm _ _ hlw12, by decide, ?_⟩
          have R13 := R12.chg (o := .lst [.ref la]) hlw12 (fun xs e => by cases e)
          have hlw13 : upd Hd lw (.lst [.ref la]) lw = some (.lst [.ref la]) := upd_same
          have hdc13 : upd Hd lw (.lst [.ref la]) dc = some (.dK (dcD (if g = 1 then c1 + 1 else c1) (if g = 2 then c2 + 1 else c2))) := by
            rw [upd_ne (fun z => by rw [z, hlw12] at hdc12; cases hdc12)]
            exact hdc12
          have hla13 : upd Hd lw (.lst [.ref la]) la = some (.lst (ahV ⟨x.a, x.b, x.pc, x.zero, x.lets, x.beat⟩)) := by
            rw [upd_ne (fun z => by rw [z, hlw12] at hla12; cases hla12), hla12]
            unfold stdV ahV
            rw [sp]
          have sG13 : Same G2 (upd Hd lw (.lst [.ref la])) := fun b o ez => by
            rw [upd_ne (ne_of_none ez nw)]
            exact sG12 _ _ ez
          exact ⟨_, _, _, _, _, _, _, _, _, _, _, _, _, _, _, y, n1, n2, _, _, _, [.ref la], rfl, R13, s, sG13, hdc13, hlw13, ⟨la, rfl, hla13⟩, by split <;> omega, by split <;> omega⟩
        | main s no nb =>
          by_cases hl : x.lets = true
          · have due : ¬ 0 < calledM x := fun z => no ⟨hl, z⟩
            refine ⟨_, rfl, rfl, _, rfl, la, _, _, _, rfl, rfl, SqL.of hla9, rfl, _, rfl, ifB (fun _ => ⟨_, rfl, _, _, rfl, rfl, ?_⟩) (fun h => by rw [hl] at h; cases h)⟩
            refine ⟨rfl, _, rfl, ifN (fun h => absurd (congrArg V.bl ((decide_eq_false n_di).trans (decide_eq_false (p := 0 < calledM x) due).symm)) (of_decide_eq_false h)) (fun _ => ?_)⟩
            refine ⟨_, rfl, rfl, _, rfl, ifB (fun h => absurd (V.str.inj (of_decide_eq_true h)) n_dis) (fun _ => ?_)⟩
            refine ⟨_, rfl, _, rfl, ifB (fun h => absurd (V.int.inj (of_decide_eq_true h)) nb) (fun _ => ?_)⟩
            exact ⟨_, _, _, _, _, _, _, _, _, _, _, _, _, _, _, y, _, _, _, _, _, wl, rfl, ⟨A9, ts9, ls9, B9⟩, s, sG, hdc, hlw, W, by omega, by omega⟩
          · have hl : x.lets = false := by
              cases h : x.lets with
              | true => exact absurd h hl
              | false => rfl
            refine ⟨_, rfl, rfl, _, rfl, la, _, _, _, rfl, rfl, SqL.of hla9, rfl, _, rfl, ifB (fun h => by rw [hl] at h; cases h) (fun _ => ?_)⟩
            refine ⟨rfl, _, rfl, ifN (fun h => absurd (congrArg V.bl (decide_eq_false n_di)) (of_decide_eq_false h)) (fun _ => ?_)⟩
            refine ⟨_, rfl, rfl, _, rfl, ifB (fun h => absurd (V.str.inj (of_decide_eq_true h)) n_dis) (fun _ => ?_)⟩
            refine ⟨_, rfl, _, rfl, ifB (fun h => absurd (V.int.inj (of_decide_eq_true h)) nb) (fun _ => ?_)⟩
            exact ⟨_, _, _, _, _, _, _, _, _, _, _, _, _, _, _, y, _, _, _, _, _, wl, rfl, ⟨A9, ts9, ls9, B9⟩, s, sG, hdc, hlw, W, by omega, by omega⟩
        | rou g r h m1 m2 s le nb =>
          have hl := le
          refine ⟨_, rfl, rfl, _, rfl, la, _, _, _, rfl, rfl, SqL.of hla9, rfl, _, rfl, ifB (fun h => by rw [hl] at h; cases h) (fun _ => ?_)⟩
          refine ⟨rfl, _, rfl, ifN (fun h => absurd (congrArg V.bl (decide_eq_false n_di)) (of_decide_eq_false h)) (fun _ => ?_)⟩
          refine ⟨_, rfl, rfl, _, rfl, ifB (fun h => absurd (V.str.inj (of_decide_eq_true h)) n_dis) (fun _ => ?_)⟩
          refine ⟨_, rfl, _, rfl, ifB (fun h => absurd (V.int.inj (of_decide_eq_true h)) nb) (fun _ => ?_)⟩
          exact ⟨_, _, _, _, _, _, _, _, _, _, _, _, _, _, _, y, _, _, _, _, _, wl, rfl, ⟨A9, ts9, ls9, B9⟩, s, sG, hdc, hlw, W, by omega, by omega⟩
        | back g h s le isb ya yb yp ys yz yl =>
          have hl := le
          refine ⟨_, rfl, rfl, _, rfl, la, _, _, _, rfl, rfl, SqL.of hla9, rfl, _, rfl, ifB (fun h => by rw [hl] at h; cases h) (fun _ => ?_)⟩
          refine ⟨rfl, _, rfl, ifN (fun h => absurd (congrArg V.bl (decide_eq_false n_di)) (of_decide_eq_false h)) (fun _ => ?_)⟩
          refine ⟨_, rfl, rfl, _, rfl, ifB (fun h => absurd (V.str.inj (of_decide_eq_true h)) n_dis) (fun _ => ?_)⟩
          refine ⟨_, rfl, _, rfl, ifB (fun _ => ?_) (fun h => absurd (congrArg V.int isb) (of_decide_eq_false h))⟩
          obtain ⟨lx, ewl, hlx⟩ := W
          subst ewl
          have hlx : Hc lx = some (.lst (ahV h)) := hlx
          refine ⟨_, rfl, .inl ⟨rfl, _, SqL.of hlw9⟩, lw, _, _, rfl, rfl, hlw9, rfl, ?_⟩
          have R10 := BoardAt.chg (CB := CB) (CM := CM) (o := .lst []) ⟨A9, ts9, ls9, B9⟩ hlw (fun xs e => by cases e)
          have hlw10 : upd Hc lw (.lst []) lw = some (.lst []) := upd_same
          have hdc10 : upd Hc lw (.lst []) dc = some (.dK (dcD c1 c2)) := by
            rw [upd_ne (fun z => by rw [z, hlw] at hdc; cases hdc)]
            exact hdc
          have hlx10 : upd Hc lw (.lst []) lx = some (.lst (ahV h)) := by
            rw [upd_ne (fun z => by rw [z, hlw] at hlx; cases hlx)]
            exact hlx
          have sG10 : Same G2 (upd Hc lw (.lst [])) := fun b o ez => by
            rw [upd_ne (ne_of_none ez nw)]
            exact sG _ _ ez
          generalize upd Hc lw (.lst []) = Hd at *
          refine ⟨lx, _, rfl, SqL.of (R10.sm _ _ hlx10), rfl, _, _, rfl, _, _, rfl, _, _, rfl, _, _, rfl, _, _, rfl, _, _, rfl, _, _, rfl, rfl, ?_⟩
          refine ⟨_, rfl, Hd, p, y, rfl, R10, fun G5 k1 t1 nk1 hk1 => ?_⟩
          refine ⟨_, rfl, k1, _, rfl, SqL.of hk1, fun k2 nk2 => ?_⟩
          have R11 := R10.same t1
          have r2 := same_upd' (o := .lst [V.int y.a, V.int y.b, V.int y.pc, V.int y.sp, V.bl y.zero, V.bl y.lets]) nk2
          have hk2 : upd G5 k2 (.lst [V.int y.a, V.int y.b, V.int y.pc, V.int y.sp, V.bl y.zero, V.bl y.lets]) k2 = some (.lst [V.int y.a, V.int y.b, V.int y.pc, V.int y.sp, V.bl y.zero, V.bl y.lets]) := upd_same
          refine ⟨_, rfl, _, rfl, _, rfl, _, rfl, _, rfl, (by show 6 ≤ sizeLine; decide), fun k3 nk3 => ?_⟩
          have r3 := same_upd' (o := .lst [V.int h.a, V.int h.b, V.int h.pc, V.int 767, V.bl h.zero, V.bl true]) nk3
          have e6 : PyData.eqv (.list [.int y.a, .int y.b, .int y.pc, .int y.sp, .bool y.zero, .bool y.lets]) (.list [.int h.a, .int h.b, .int h.pc, .int 767, .bool h.zero, .bool true]) = true := by
            rw [ya, yb, yp, ys, yz, yl]
            exact SeqAt.eqv_refl _ (can6 _ _ _ _ _ _)
          refine ⟨_, _, .lst (SqL.of (r3 _ _ hk2)) (.cons (.int _) (.cons (.int _) (.cons (.int _) (.cons (.int _) (.cons (.bl _) (.cons (.bl _) .nil)))))), .lst (SqL.of upd_same) (.cons (.int _) (.cons (.int _) (.cons (.int _) (.cons (.int _) (.cons (.bl _) (.cons (.bl _) .nil)))))), shp6 _ _ _ _ _ _, shp6 _ _ _ _ _ _, _, rfl, ?_⟩
          rw [e6]
          refine ifN (fun h => by cases h) (fun _ => ?_)
          exact ⟨_, _, _, _, _, _, _, _, _, _, _, _, _, _, _, y, _, _, _, _, .main, [], rfl, (R11.same r2).same r3, s, sG10, hdc10, hlw10, rfl, by omega, by omega⟩
      rintro σ H7 ⟨y10, y11, y12, y13, y14, y15, y16, y17, y18, y19, y20, y21, y22, y23, Hb, x, n1, n2, c1, c2, ph, wl, rfl, R, Q, sG, hdc, hlw, W, l1, l2⟩
      obtain ⟨q1, q2, q3, q4⟩ := sit_le Q
      have qw : (c1 - n1) + (c2 - n2) ≤ wl.length := by
        cases ph with
        | main => have := q4 rfl; omega
        | rou g r h =>
          obtain ⟨la, e, _⟩ := W
          rw [e]
          exact q3
      obtain ⟨A, ts, lsv, B⟩ := R
      obtain ⟨sv, tv, dv, hp, hz⟩ := B.hp
      refine ⟨_, rfl, p, CB, A.dx, _, _, rfl, hp, T.cB, T.n_memory, bF_mem, A.m, A.dm, _, rfl, B.hm, mN_at, A.m, A.dm, A.w, A.s, x.mem, 601, rfl, B.mem, by decide, by decide, _, rfl, p, CB, A.dx, _, _, rfl, hp, T.cB, T.n_memory, bF_mem, A.m, A.dm, _, rfl, B.hm, mN_at, A.m, A.dm, A.w, A.s, x.mem, 602, rfl, B.mem, by decide, by decide, (by show 2 ≤ sizeLine; decide), fun k3 nk3 => ?_⟩
      rw [Q.C.c1, Q.C.c2] at *
      have r3 := same_upd' (o := .lst [V.int n1, V.int n2]) nk3
      have h3 : upd H7 k3 (.lst [V.int n1, V.int n2]) k3 = some (.lst [V.int n1, V.int n2]) := upd_same
      have B3 := B.same r3
      clear B r3
      generalize upd H7 k3 (.lst [V.int n1, V.int n2]) = H8 at *
      have hlw3 := B3.sm _ _ hlw
      have hdc3 := B3.sm _ _ hdc
      refine ⟨_, rfl, lw, wl, rfl, .inl (SqL.of hlw3), ?_⟩
      refine ⟨_, rfl, dc, _, rfl, dg (k := Sum.inl 1) hdc3 dcG1, _, rfl, k3, _, _, _, rfl, rfl, SqL.of h3, rfl, _, _, rfl, rfl, _, rfl, dc, _, rfl, dg (k := Sum.inl 2) hdc3 dcG2, _, rfl, k3, _, _, _, rfl, rfl, SqL.of h3, rfl, _, _, rfl, rfl, (by show 2 ≤ sizeLine; decide), fun k4 nk4 => ?_⟩
      have r4 := same_upd' (o := .lst ([c1 - n1, c2 - n2].map V.int)) nk4
      have h4 : upd H8 k4 (.lst ([c1 - n1, c2 - n2].map V.int)) k4 = some (.lst ([c1 - n1, c2 - n2].map V.int)) := upd_same
      have B4 := B3.same r4
      refine ⟨_, rfl, k4, [c1 - n1, c2 - n2], rfl, SqL.of h4, (by show 0 < 2; decide), fun m hm _ => ?_⟩
      have m0 : 0 ≤ m := by
        simp only [List.mem_cons, List.not_mem_nil, or_false] at hm
        omega
      refine ⟨_, _, rfl, rfl, _, rfl, ifB (fun h => absurd (of_decide_eq_true h) (by omega)) (fun _ => ?_)⟩
      have es : [c1 - n1, c2 - n2].sum = (c1 - n1) + (c2 - n2) := by
        show (c1 - n1) + ((c2 - n2) + 0) = _
        omega
      refine ⟨_, rfl, k4, [c1 - n1, c2 - n2], rfl, SqL.of h4, _, rfl, _, _, rfl, rfl, _, rfl, ifB (fun h => absurd (of_decide_eq_true h) (by omega)) (fun _ => ?_)⟩
      exact ⟨B4.sm.seq (sG.seq hca2), _, _, _, _, _, _, _, _, _, _, _, _, _, _, _, _, _, _, _, _, _, _, rfl⟩
    · rintro σ H1 ⟨_, y2, y3, y4, y5, y6, y7, y8, y9, y10, y11, y12, y13, y14, y15, y16, y17, y18, y19, y20, y21, y22, y23, rfl⟩
      exact q _
  · obtain ⟨ms', hca⟩ : ∃ ms' : List Int, SqL K (upd (upd H c (.lst (ms.map V.int))) e0 (.lst [])) c (ms'.map V.int) := ⟨ms, hc1⟩
    refine ⟨_, rfl, c, rfl, ⟨_, hca⟩, ?_⟩
    refine for_list (K := K) (a := c) (xs := ms'.map V.int) (fun i σ H' => SqL K H' c (ms'.map V.int) ∧ ∃ y2 y3 y4 y5 y6 y7 y8 y9 y10 y11 y12 y13 y14 y15 y16 y17 y18 y19 y20 y21 y22 y23 : Option V, σ = [some (.ref a), some (.ref c), y2, y3, y4, y5, y6, y7, y8, y9, y10, y11, y12, y13, y14, y15, y16, y17, y18, y19, y20, y21, y22, y23]) ⟨hca, none, none, none, none, none, none, none, none, none, none, none, none, none, none, none, none, none, none, none, none, none, none, rfl⟩ (fun _ _ _ _ h => h.1) ?_ ?_
    · rintro i v σ H1 hi ⟨hca, y2, y3, y4, y5, y6, y7, y8, y9, y10, y11, y12, y13, y14, y15, y16, y17, y18, y19, y20, y21, y22, y23, rfl⟩
      obtain ⟨cell, _, rfl⟩ := getI hi
      refine ⟨_, rfl, cell, 60, rfl, by decide, fun G0 pd ds hl hd sm2 npd hpd => ?_⟩
      refine ⟨_, rfl, pd, ds, rfl, hpd, hl, hd, fun G1 t im F_ S_ T_ M_ I s1 hI him ht => ?_⟩
      refine ⟨t, _, rfl, SqT.of ht, rfl, _, _, rfl, _, _, rfl, _, _, rfl, rfl, ?_⟩
      refine ⟨_, rfl, _, rfl, pd, ds, rfl, s1 _ _ hpd, hl, hd, fun G2 ln us ls s2 hln hus hri => ?_⟩
      have him := s2 _ _ him
      have hca2 := s2.seq (s1.seq (sm2.seq hca))
      clear sm2 hpd hl hd s1 ht s2 npd
      intro p dx nb ndx hdx
      have sb : Same G2 (upd (upd G2 dx (.own p)) p (.ins CB dx [])) := fun z o ez => by
        rw [upd_ne (ne_of_none ez nb), upd_ne (ne_of_none ez ndx)]
        exact ez
      refine ⟨G2, p, dx, im, ln, us, I, ls, rfl, sb, nb, upd_same, sb _ _ him, (by rw [hI.l]; decide), hI.ok, sb _ _ hln, hus.mono fun t xs e => sb _ _ e, hri, fun G4 R => ⟨rfl, ?_⟩⟩
      clear sb nb ndx hdx hln hus hri
      refine fun dc ndc => ⟨upd_same, [(Sum.inl 1, .int 0), (Sum.inl 2, .int 0)], rfl, by decide, ?_⟩
      have sd : Same G4 (upd (upd G4 dc (.dK [])) dc (.dK (dcD 0 0))) := fun z o ez => by
        rw [upd_ne (ne_of_none ez ndc), upd_ne (ne_of_none ez ndc)]
        exact ez
      have R1 := R.grow sd ndc (show upd (upd G4 dc (.dK [])) dc (.dK (dcD 0 0)) dc = some (.dK (dcD 0 0)) from upd_same)
      have sb1 := up_new (o := .dK (dcD 0 0)) R.sm ndc
      have hdc : upd G2 dc (.dK (dcD 0 0)) dc = some (.dK (dcD 0 0)) := upd_same
      refine ⟨Nat.zero_le _, fun lw nlw => ?_⟩
      have R2 := R1.new (o := .lst []) nlw
      have sb2 := up_new (o := .lst []) R1.sm nlw
      have nd := R.sm.free ndc
      have nw := R.sm.free (sd.free nlw)
      have sG := sb1.trans sb2
      have hdc := sb2 _ _ hdc
      have hlw : upd (upd G2 dc (.dK (dcD 0 0))) lw (.lst []) lw = some (.lst []) := upd_same
      clear R R1 sb1 sb2 sd
      generalize upd (upd G2 dc (.dK (dcD 0 0))) lw (.lst []) = Hb0 at *
      refine ⟨150, rfl, by decide, by decide, ?_⟩
      refine for_range (lo := 0) (n := ((150 : Int)).toNat) (fun i σ H' => ∃ (y10 y11 y12 y13 y14 y15 y16 y17 y18 y19 y20 y21 y22 y23 : Option V) (Hb : Hp) (x : Bd) (n1 n2 c1 c2 : Int) (ph : Ph) (wl : List V), σ = [some (.ref a), some (.ref c), some (.int cell), some (.ref pd), some (.ref im), some (.int F_), some (.int S_), some (.ref p), some (.ref dc), some (.ref lw), y10, y11, y12, y13, y14, y15, y16, y17, y18, y19, y20, y21, y22, y23] ∧ BoardAt CB CM Hb H' p x ∧ Sit16 I F_ S_ x n1 n2 c1 c2 ph ∧ Same G2 Hb ∧ Hb dc = some (.dK (dcD c1 c2)) ∧ Hb lw = some (.lst wl) ∧ Wait Hb wl ph ∧ c1 ≤ i ∧ c2 ≤ i) ⟨y10, y11, y12, y13, y14, y15, y16, y17, y18, y19, y20, y21, y22, y23, Hb0, _, 0, 0, 0, 0, .main, [], rfl, R2, new16 hI ls, sG, hdc, hlw, rfl, by decide, by decide⟩ ?_ ?_
      · rintro i σ H7 hi ⟨y10, y11, y12, y13, y14, y15, y16, y17, y18, y19, y20, y21, y22, y23, Hb, x, n1, n2, c1, c2, ph, wl, rfl, R, Q, sG, hdc, hlw, W, l1, l2⟩
        have hi : i < 150 := hi
        obtain ⟨q1, q2, q3, q4⟩ := sit_le Q
        obtain ⟨y, k, tx, D⟩ := turn16 hI Q (by omega) (by omega)
        obtain ⟨p0, p1⟩ := sit_pc hI Q
        obtain ⟨A, ts, lsv, B⟩ := R
        obtain ⟨sv, tv, dv, hp, hz⟩ := B.hp
        refine ⟨_, rfl, p, CB, A.dx, _, _, rfl, hp, T.cB, T.n_memory, bF_mem, A.m, A.dm, _, rfl, B.hm, mN_at, A.m, A.dm, A.w, A.s, x.mem, 770, rfl, B.mem, by decide, by decide, ?_⟩
        refine ⟨_, rfl, p, CB, A.dx, _, _, rfl, hp, T.cB, T.n_memory, bF_mem, A.m, A.dm, _, rfl, B.hm, mN_at, A.m, A.dm, A.w, A.s, x.mem, 771, rfl, B.mem, by decide, by decide, _, _, rfl, rfl, ?_⟩
        refine ⟨_, rfl, Hb, p, x, rfl, ⟨A, ts, lsv, B⟩, fun H8 la s8 n8 h8 => ?_⟩
        have R8 := BoardAt.grow (CB := CB) (CM := CM) ⟨A, ts, lsv, B⟩ s8 n8 h8
        have sG8 : Same Hb (upd Hb la (.lst (stdV x))) := up_new B.sm n8
        have sG := sG.trans sG8
        have hdc := sG8 _ _ hdc
        have hlw := sG8 _ _ hlw
        have W := W.mono (fun l xs e _ => sG8 _ _ e)
        have hla : upd Hb la (.lst (stdV x)) la = some (.lst (stdV x)) := upd_same
        generalize upd Hb la (.lst (stdV x)) = Hc at *
        clear sG8 B hp hz s8 n8
        obtain ⟨A8, ts8, ls8, B8⟩ := R8
        obtain ⟨sv8, tv8, dv8, hp8, hz8⟩ := B8.hp
        refine ⟨_, rfl, _, rfl, la, _, _, _, rfl, rfl, SqL.of h8, rfl, im, _, _, _, rfl, rfl, SqL.of (B8.sm _ _ (sG _ _ him)), atI_rd p0 (by rw [hI.l]; exact p1), _, _, rfl, rfl, .inl ⟨by decide, by decide⟩, rfl, ?_⟩
        refine ⟨_, rfl, p, A8.dx, _, rfl, hp8, bN_turn, Hc, p, x, rfl, ⟨A8, ts8, ls8, B8⟩, (by rw [Q.C.se]; decide), sit_ok hI Q, fun H9 R9 => ?_⟩
        rw [tx] at R9 ⊢
        obtain ⟨A9, ts9, ls9, B9⟩ := R9
        obtain ⟨sv9, tv9, dv9, hp9, hz9⟩ := B9.hp
        have hdc9 := B9.sm _ _ hdc
        have hlw9 := B9.sm _ _ hlw
        have hla9 := B9.sm _ _ hla
        cases D with
        | began g s le due hg bt z sp nb =>
          refine ⟨_, rfl, rfl, _, rfl, la, _, _, _, rfl, rfl, SqL.of hla9, rfl, _, rfl, ifB (fun _ => ⟨_, rfl, _, _, rfl, rfl, ?_⟩) (fun h => by rw [le] at h; cases h)⟩
          refine ⟨rfl, _, rfl, ifN (fun h => absurd (congrArg V.bl ((decide_eq_true (p := V.str "interrupt" = V.str "interrupt") rfl).trans (decide_eq_true (p := 0 < calledM x) due).symm)) (of_decide_eq_false h)) (fun _ => ?_)⟩
          refine ⟨_, rfl, rfl, _, rfl, ifB (fun _ => ?_) (fun h => absurd rfl (of_decide_eq_false h))⟩
          have W0 : wl = [] := W
          subst W0
          obtain ⟨R0, hl0, _, _, e1, e2⟩ := s.ok
          have g12 := R0.g12
          refine ⟨_, rfl, Nat.zero_le _, fun l5 n5 => ?_⟩
          have r5 := same_upd' (o := .lst []) n5
          refine ⟨_, _, .lst (SqL.of (r5 _ _ hlw9)) .nil, .lst (SqL.of upd_same) .nil, shaped_ints [], shaped_ints [], _, rfl, ?_⟩
          have e0 : PyData.eqv (.list []) (.list []) = true := SeqAt.eqv_refl (.list []) rfl
          rw [e0]
          refine ifN (fun h => by cases h) (fun _ => ?_)
          have B10 := B9.same r5
          have hla10 := r5 _ _ hla9
          clear r5
          generalize upd H9 l5 (.lst []) = H10 at *
          refine ⟨_, rfl, _, rfl, _, rfl, _, rfl, _, rfl, Hc, p, la, x, y, calledM x, F_, S_, rfl, ⟨A9, ts9, ls9, B10⟩, hla10, R0.a1 (.inl (by decide)), R0.b, R0.pc.trans hg, (show y.sp = x.sp - 2 by rw [sp]; exact R0.sp), z, R0.le, bt, (by rw [sp]; exact R0.m7), (by rw [sp]; exact R0.m6), (by omega), (by omega), fun H11 s11 => ?_⟩
          refine ⟨_, rfl, ?_⟩
          refine ifN (fun h => by cases h) (fun _ => ?_)
          have B11 := B10.same s11
          have hdc11 := B11.sm _ _ hdc
          refine ⟨_, rfl, _, rfl, _, _, rfl, rfl, (by show (0 : Int) < 2; decide), _, _, rfl, rfl, dc, _, rfl, dgI hg.symm hdc11 (dcG g12), _, _, rfl, rfl, _, rfl, _, rfl, _, _, rfl, rfl, (by show (0 : Int) < 2; decide), _, _, rfl, rfl, dc, _, rfl, dpI hg.symm hdc11 (dcP g12), ?_⟩
          have R12 := BoardAt.chg (CB := CB) (CM := CM) (o := .dK (dcD (if g = 1 then c1 + 1 else c1) (if g = 2 then c2 + 1 else c2))) ⟨A9, ts9, ls9, B11⟩ hdc (fun xs e => by cases e)
          have hdc12 : upd Hc dc (.dK (dcD (if g = 1 then c1 + 1 else c1) (if g = 2 then c2 + 1 else c2))) dc = some (.dK (dcD (if g = 1 then c1 + 1 else c1) (if g = 2 then c2 + 1 else c2))) := upd_same
          have hlw12 : upd Hc dc (.dK (dcD (if g = 1 then c1 + 1 else c1) (if g = 2 then c2 + 1 else c2))) lw = some (.lst []) := by
            rw [upd_ne (fun z => by rw [z, hdc] at hlw; cases hlw)]
            exact hlw
          have hla12 : upd Hc dc (.dK (dcD (if g = 1 then c1 + 1 else c1) (if g = 2 then c2 + 1 else c2))) la = some (.lst (stdV x)) := by
            rw [upd_ne (fun z => by rw [z, hdc] at hla; cases hla)]
            exact hla
          have sG12 : Same G2 (upd Hc dc (.dK (dcD (if g = 1 then c1 + 1 else c1) (if g = 2 then c2 + 1 else c2)))) := fun b o ez => by
            rw [upd_ne (ne_of_none ez nd)]
            exact sG _ _ ez
          generalize upd Hc dc (.dK (dcD (if g = 1 then c1 + 1 else c1) (if g = 2 then c2 + 1 else c2))) = Hd at *
          generalize upd H11 dc (.dK (dcD (if g = 1 then c1 + 1 else c1) (if g = 2 then c2 + 1 else c2))) = H12 at *
          refine ⟨_, rfl, .inl ⟨rfl, _, SqL.of (R12.sm _ _ hlw12)⟩, _, rfl, lw, [], _, rfl, rfl, R12.sm _ _ hlw12, by decide, ?_⟩
          have R13 := R12.chg (o := .lst [.ref la]) hlw12 (fun xs e => by cases e)
          have hlw13 : upd Hd lw (.lst [.ref la]) lw = some (.lst [.ref la]) := upd_same
          have hdc13 : upd Hd lw (.lst [.ref la]) dc = some (.dK (dcD (if g = 1 then c1 + 1 else c1) (if g = 2 then c2 + 1 else c2))) := by
            rw [upd_ne (fun z => by rw [z, hlw12] at hdc12; cases hdc12)]
            exact hdc12
          have hla13 : upd Hd lw (.lst [.ref la]) la = some (.lst (ahV ⟨x.a, x.b, x.pc, x.zero, x.lets, x.beat⟩)) := by
            rw [upd_ne (fun z => by rw [z, hlw12] at hla12; cases hla12), hla12]
            unfold stdV ahV
            rw [sp]
          have sG13 : Same G2 (upd Hd lw (.lst [.ref la])) := fun b o ez => by
            rw [upd_ne (ne_of_none ez nw)]
            exact sG12 _ _ ez
          exact ⟨_, _, _, _, _, _, _, _, _, _, _, _, _, _, _, y, n1, n2, _, _, _, [.ref la], rfl, R13, s, sG13, hdc13, hlw13, ⟨la, rfl, hla13⟩, by split <;> omega, by split <;> omega⟩
        | main s no nb =>
          by_cases hl : x.lets = true
          · have due : ¬ 0 < calledM x := fun z => no ⟨hl, z⟩
            refine ⟨_, rfl, rfl, _, rfl, la, _, _, _, rfl, rfl, SqL.of hla9, rfl, _, rfl, ifB (fun _ => ⟨_, rfl, _, _, rfl, rfl, ?_⟩) (fun h => by rw [hl] at h; cases h)⟩
            refine ⟨rfl, _, rfl, ifN (fun h => absurd (congrArg V.bl ((decide_eq_false n_di).trans (decide_eq_false (p := 0 < calledM x) due).symm)) (of_decide_eq_false h)) (fun _ => ?_)⟩
            refine ⟨_, rfl, rfl, _, rfl, ifB (fun h => absurd (V.str.inj (of_decide_eq_true h)) n_dis) (fun _ => ?_)⟩
            refine ⟨_, rfl, _, rfl, ifB (fun h => absurd (V.int.inj (of_decide_eq_true h)) nb) (fun _ => ?_)⟩
            exact ⟨_, _, _, _, _, _, _, _, _, _, _, _, _, _, _, y, _, _, _, _, _, wl, rfl, ⟨A9, ts9, ls9, B9⟩, s, sG, hdc, hlw, W, by omega, by omega⟩
          · have hl : x.lets = false := by
              cases h : x.lets with
              | true => exact absurd h hl
              | false => rfl
            refine ⟨_, rfl, rfl, _, rfl, la, _, _, _, rfl, rfl, SqL.of hla9, rfl, _, rfl, ifB (fun h => by rw [hl] at h; cases h) (fun _ => ?_)⟩
            refine ⟨rfl, _, rfl, ifN (fun h => absurd (congrArg V.bl (decide_eq_false n_di)) (of_decide_eq_false h)) (fun _ => ?_)⟩
            refine ⟨_, rfl, rfl, _, rfl, ifB (fun h => absurd (V.str.inj (of_decide_eq_true h)) n_dis) (fun _ => ?_)⟩
            refine ⟨_, rfl, _, rfl, ifB (fun h => absurd (V.int.inj (of_decide_eq_true h)) nb) (fun _ => ?_)⟩
            exact ⟨_, _, _, _, _, _, _, _, _, _, _, _, _, _, _, y, _, _, _, _, _, wl, rfl, ⟨A9, ts9, ls9, B9⟩, s, sG, hdc, hlw, W, by omega, by omega⟩
        | rou g r h m1 m2 s le nb =>
          have hl := le
          refine ⟨_, rfl, rfl, _, rfl, la, _, _, _, rfl, rfl, SqL.of hla9, rfl, _, rfl, ifB (fun h => by rw [hl] at h; cases h) (fun _ => ?_)⟩
          refine ⟨rfl, _, rfl, ifN (fun h => absurd (congrArg V.bl (decide_eq_false n_di)) (of_decide_eq_false h)) (fun _ => ?_)⟩
          refine ⟨_, rfl, rfl, _, rfl, ifB (fun h => absurd (V.str.inj (of_decide_eq_true h)) n_dis) (fun _ => ?_)⟩
          refine ⟨_, rfl, _, rfl, ifB (fun h => absurd (V.int.inj (of_decide_eq_true h)) nb) (fun _ => ?_)⟩
          exact ⟨_, _, _, _, _, _, _, _, _, _, _, _, _, _, _, y, _, _, _, _, _, wl, rfl, ⟨A9, ts9, ls9, B9⟩, s, sG, hdc, hlw, W, by omega, by omega⟩
        | back g h s le isb ya yb yp ys yz yl =>
          have hl := le
          refine ⟨_, rfl, rfl, _, rfl, la, _, _, _, rfl, rfl, SqL.of hla9, rfl, _, rfl, ifB (fun h => by rw [hl] at h; cases h) (fun _ => ?_)⟩
          refine ⟨rfl, _, rfl, ifN (fun h => absurd (congrArg V.bl (decide_eq_false n_di)) (of_decide_eq_false h)) (fun _ => ?_)⟩
          refine ⟨_, rfl, rfl, _, rfl, ifB (fun h => absurd (V.str.inj (of_decide_eq_true h)) n_dis) (fun _ => ?_)⟩
          refine ⟨_, rfl, _, rfl, ifB (fun _ => ?_) (fun h => absurd (congrArg V.int isb) (of_decide_eq_false h))⟩
          obtain ⟨lx, ewl, hlx⟩ := W
          subst ewl
          have hlx : Hc lx = some (.lst (ahV h)) := hlx
          refine ⟨_, rfl, .inl ⟨rfl, _, SqL.of hlw9⟩, lw, _, _, rfl, rfl, hlw9, rfl, ?_⟩
          have R10 := BoardAt.chg (CB := CB) (CM := CM) (o := .lst []) ⟨A9, ts9, ls9, B9⟩ hlw (fun xs e => by cases e)
          have hlw10 : upd Hc lw (.lst []) lw = some (.lst []) := upd_same
          have hdc10 : upd Hc lw (.lst []) dc = some (.dK (dcD c1 c2)) := by
            rw [upd_ne (fun z => by rw [z, hlw] at hdc; cases hdc)]
            exact hdc
          have hlx10 : upd Hc lw (.lst []) lx = some (.lst (ahV h)) := by
            rw [upd_ne (fun z => by rw [z, hlw] at hlx; cases hlx)]
            exact hlx
          have sG10 : Same G2 (upd Hc lw (.lst [])) := fun b o ez => by
            rw [upd_ne (ne_of_none ez nw)]
            exact sG _ _ ez
          generalize upd Hc lw (.lst []) = Hd at *
          refine ⟨lx, _, rfl, SqL.of (R10.sm _ _ hlx10), rfl, _, _, rfl, _, _, rfl, _, _, rfl, _, _, rfl, _, _, rfl, _, _, rfl, _, _, rfl, rfl, ?_⟩
          refine ⟨_, rfl, Hd, p, y, rfl, R10, fun G5 k1 t1 nk1 hk1 => ?_⟩
          refine ⟨_, rfl, k1, _, rfl, SqL.of hk1, fun k2 nk2 => ?_⟩
          have R11 := R10.same t1
          have r2 := same_upd' (o := .lst [V.int y.a, V.int y.b, V.int y.pc, V.int y.sp, V.bl y.zero, V.bl y.lets]) nk2
          have hk2 : upd G5 k2 (.lst [V.int y.a, V.int y.b, V.int y.pc, V.int y.sp, V.bl y.zero, V.bl y.lets]) k2 = some (.lst [V.int y.a, V.int y.b, V.int y.pc, V.int y.sp, V.bl y.zero, V.bl y.lets]) := upd_same
          refine ⟨_, rfl, _, rfl, _, rfl, _, rfl, _, rfl, (by show 6 ≤ sizeLine; decide), fun k3 nk3 => ?_⟩
          have r3 := same_upd' (o := .lst [V.int h.a, V.int h.b, V.int h.pc, V.int 767, V.bl h.zero, V.bl true]) nk3
          have e6 : PyData.eqv (.list [.int y.a, .int y.b, .int y.pc, .int y.sp, .bool y.zero, .bool y.lets]) (.list [.int h.a, .int h.b, .int h.pc, .int 767, .bool h.zero, .bool true]) = true := by
            rw [ya, yb, yp, ys, yz, yl]
            exact SeqAt.eqv_refl _ (can6 _ _ _ _ _ _)
          refine ⟨_, _, .lst (SqL.of (r3 _ _ hk2)) (.cons (.int _) (.cons (.int _) (.cons (.int _) (.cons (.int _) (.cons (.bl _) (.cons (.bl _) .nil)))))), .lst (SqL.of upd_same) (.cons (.int _) (.cons (.int _) (.cons (.int _) (.cons (.int _) (.cons (.bl _) (.cons (.bl _) .nil)))))), shp6 _ _ _ _ _ _, shp6 _ _ _ _ _ _, _, rfl, ?_⟩
          rw [e6]
          refine ifN (fun h => by cases h) (fun _ => ?_)
          exact ⟨_, _, _, _, _, _, _, _, _, _, _, _, _, _, _, y, _, _, _, _, .main, [], rfl, (R11.same r2).same r3, s, sG10, hdc10, hlw10, rfl, by omega, by omega⟩
      rintro σ H7 ⟨y10, y11, y12, y13, y14, y15, y16, y17, y18, y19, y20, y21, y22, y23, Hb, x, n1, n2, c1, c2, ph, wl, rfl, R, Q, sG, hdc, hlw, W, l1, l2⟩
      obtain ⟨q1, q2, q3, q4⟩ := sit_le Q
      have qw : (c1 - n1) + (c2 - n2) ≤ wl.length := by
        cases ph with
        | main => have := q4 rfl; omega
        | rou g r h =>
          obtain ⟨la, e, _⟩ := W
          rw [e]
          exact q3
      obtain ⟨A, ts, lsv, B⟩ := R
      obtain ⟨sv, tv, dv, hp, hz⟩ := B.hp
      refine ⟨_, rfl, p, CB, A.dx, _, _, rfl, hp, T.cB, T.n_memory, bF_mem, A.m, A.dm, _, rfl, B.hm, mN_at, A.m, A.dm, A.w, A.s, x.mem, 601, rfl, B.mem, by decide, by decide, _, rfl, p, CB, A.dx, _, _, rfl, hp, T.cB, T.n_memory, bF_mem, A.m, A.dm, _, rfl, B.hm, mN_at, A.m, A.dm, A.w, A.s, x.mem, 602, rfl, B.mem, by decide, by decide, (by show 2 ≤ sizeLine; decide), fun k3 nk3 => ?_⟩
      rw [Q.C.c1, Q.C.c2] at *
      have r3 := same_upd' (o := .lst [V.int n1, V.int n2]) nk3
      have h3 : upd H7 k3 (.lst [V.int n1, V.int n2]) k3 = some (.lst [V.int n1, V.int n2]) := upd_same
      have B3 := B.same r3
      clear B r3
      generalize upd H7 k3 (.lst [V.int n1, V.int n2]) = H8 at *
      have hlw3 := B3.sm _ _ hlw
      have hdc3 := B3.sm _ _ hdc
      refine ⟨_, rfl, lw, wl, rfl, .inl (SqL.of hlw3), ?_⟩
      refine ⟨_, rfl, dc, _, rfl, dg (k := Sum.inl 1) hdc3 dcG1, _, rfl, k3, _, _, _, rfl, rfl, SqL.of h3, rfl, _, _, rfl, rfl, _, rfl, dc, _, rfl, dg (k := Sum.inl 2) hdc3 dcG2, _, rfl, k3, _, _, _, rfl, rfl, SqL.of h3, rfl, _, _, rfl, rfl, (by show 2 ≤ sizeLine; decide), fun k4 nk4 => ?_⟩
      have r4 := same_upd' (o := .lst ([c1 - n1, c2 - n2].map V.int)) nk4
      have h4 : upd H8 k4 (.lst ([c1 - n1, c2 - n2].map V.int)) k4 = some (.lst ([c1 - n1, c2 - n2].map V.int)) := upd_same
      have B4 := B3.same r4
      refine ⟨_, rfl, k4, [c1 - n1, c2 - n2], rfl, SqL.of h4, (by show 0 < 2; decide), fun m hm _ => ?_⟩
      have m0 : 0 ≤ m := by
        simp only [List.mem_cons, List.not_mem_nil, or_false] at hm
        omega
      refine ⟨_, _, rfl, rfl, _, rfl, ifB (fun h => absurd (of_decide_eq_true h) (by omega)) (fun _ => ?_)⟩
      have es : [c1 - n1, c2 - n2].sum = (c1 - n1) + (c2 - n2) := by
        show (c1 - n1) + ((c2 - n2) + 0) = _
        omega
      refine ⟨_, rfl, k4, [c1 - n1, c2 - n2], rfl, SqL.of h4, _, rfl, _, _, rfl, rfl, _, rfl, ifB (fun h => absurd (of_decide_eq_true h) (by omega)) (fun _ => ?_)⟩
      exact ⟨B4.sm.seq (sG.seq hca2), _, _, _, _, _, _, _, _, _, _, _, _, _, _, _, _, _, _, _, _, _, _, rfl⟩
    · rintro σ H1 ⟨_, y2, y3, y4, y5, y6, y7, y8, y9, y10, y11, y12, y13, y14, y15, y16, y17, y18, y19, y20, y21, y22, y23, rfl⟩
      exact q _
end
end Bh

/-! What the top has written; the head. -/
namespace Bh
open PySem PySem.Spec PyProof.Rows L2
def relB : List Str → List Value → Bool
  | [], [] => true
  | x :: xs, u :: us => Value.isStrOf x u && relB xs us
  | _, _ => false
theorem relB_vals : ∀ {xs : List Str} {us : List Value}, relB xs us = true → Vals (xs.map V.str) us
  | [], [], _ => .nil
  | x :: xs, u :: us, h => by
    unfold relB at h
    rw [Bool.and_eq_true] at h
    obtain ⟨t, e⟩ := Value.isStrOf_shape h.1
    exact .cons ⟨t, e⟩ (relB_vals h.2)
  | [], _ :: _, h => by cases h
  | _ :: _, [], h => by cases h
theorem tup_of {K : PySem.W.Frag} {a : Addr} {xs : List Str} {its : Array Value} {n : Nat} {sl : Array (Option Value)} (l : K.lookup a = some ⟨.type "tuple", none, .seq its n, sl⟩) (v : relB xs its.toList = true) (hx : xs.length ≤ 1000) : ∀ H, SqT K H a (xs.map V.str) := fun H => by
  have r := relB_vals v
  have hl := r.length
  rw [List.length_map] at hl
  refine .inr ⟨_, its, n, l, rfl, rfl, ?_, r⟩
  rw [← Array.length_toList, ← hl]
  exact Nat.le_of_lt (small1000 hx)
theorem fun_mk {K : PySem.W.Frag} {x qual : Str} {st : Stmt} {f : Addr} {oc : Value} {od : Option Addr} {kV doc pm : Value} {an : Option Addr} {cdv ct : Value} {osl : Array (Option Value)} (l : K.lookup f = some ⟨oc, od, .func (PySem.W.fnOf x qual (defArgs st) (defBody st) (defScope st) .none kV doc pm an cdv ct), osl⟩)
    (c : PySem.W.codeIn K cdv qual = true) (kp : PySem.W.keepIn K (.ref f) = true) : Fun K x qual st f (PySem.W.fnOf x qual (defArgs st) (defBody st) (defScope st) .none kV doc pm an cdv ct) := ⟨⟨_, _, _, _, _, _, _, _, _, rfl, l, c⟩, kp⟩
set_option linter.unusedVariables false in
theorem all_mk {l : PySem.W.OpenLaw} {w : World} {K : PySem.W.Frag} {h : Heap} {mg : Str → Option Value} {fa CB CM : Addr} (X : K.In h) (G : h.Ns mainGlobals mg) (hfa : mg "law" = some (.ref fa))
    {f_barof f_iswhole f_isbetween f_isword f_isimage f_isline f_islinerow f_touchesof f_give f_firstregisters f_dolit f_doget f_doput f_doadd f_dosub f_doand f_doxor f_doputb f_dotob f_doswap f_dogo f_doifz f_doifn f_docall f_doret f_dopush f_dopop f_dosleep f_dolet f_doback f_dohalf f_lawdigits f_lawimageof f_lawlineof f_lawstand f_lawbegan f_law f_CMinit f_CMwordat f_CMread f_CMput f_CMcalledflags f_CMtakeline f_CMgotimer f_CBinit f_CBcoming f_CBturn f_CBbegininterrupt f_CBdodeed f_CBmaytouch f_CBstop f_CBputbyturn f_CBputword f_CBpassbeats f_CBcomeline aR aO aD : Addr} {od_barof an_barof od_iswhole an_iswhole od_isbetween an_isbetween od_isword an_isword od_isimage an_isimage od_isline an_isline od_islinerow an_islinerow od_touchesof an_touchesof od_give an_give od_firstregisters an_firstregisters od_dolit an_dolit od_doget an_doget od_doput an_doput od_doadd an_doadd od_dosub an_dosub od_doand an_doand od_doxor an_doxor od_doputb an_doputb od_dotob an_dotob od_doswap an_doswap od_dogo an_dogo od_doifz an_doifz od_doifn an_doifn od_docall an_docall od_doret an_doret od_dopush an_dopush od_dopop an_dopop od_dosleep an_dosleep od_dolet an_dolet od_doback an_doback od_dohalf an_dohalf od_lawdigits an_lawdigits od_lawimageof an_lawimageof od_lawlineof an_lawlineof od_lawstand an_lawstand od_lawbegan an_lawbegan od_law an_law od_CMinit an_CMinit od_CMwordat an_CMwordat od_CMread an_CMread od_CMput an_CMput od_CMcalledflags an_CMcalledflags od_CMtakeline an_CMtakeline od_CMgotimer an_CMgotimer od_CBinit an_CBinit od_CBcoming an_CBcoming od_CBturn an_CBturn od_CBbegininterrupt an_CBbegininterrupt od_CBdodeed an_CBdodeed od_CBmaytouch an_CBmaytouch od_CBstop an_CBstop od_CBputbyturn an_CBputbyturn od_CBputword an_CBputword od_CBpassbeats an_CBpassbeats od_CBcomeline an_CBcomeline : Option Addr} {sl_barof sl_iswhole sl_isbetween sl_isword sl_isimage sl_isline sl_islinerow sl_touchesof sl_give sl_firstregisters sl_dolit sl_doget sl_doput sl_doadd sl_dosub sl_doand sl_doxor sl_doputb sl_dotob sl_doswap sl_dogo sl_doifz sl_doifn sl_docall sl_doret sl_dopush sl_dopop sl_dosleep sl_dolet sl_doback sl_dohalf sl_lawdigits sl_lawimageof sl_lawlineof sl_lawstand sl_lawbegan sl_law sl_CMinit sl_CMwordat sl_CMread sl_CMput sl_CMcalledflags sl_CMtakeline sl_CMgotimer sl_CBinit sl_CBcoming sl_CBturn sl_CBbegininterrupt sl_CBdodeed sl_CBmaytouch sl_CBstop sl_CBputbyturn sl_CBputword sl_CBpassbeats sl_CBcomeline sl_aR sl_aO : Array (Option Value)} {oc_barof kV_barof dc_barof pm_barof cd_barof ct_barof oc_iswhole kV_iswhole dc_iswhole pm_iswhole cd_iswhole ct_iswhole oc_isbetween kV_isbetween dc_isbetween pm_isbetween cd_isbetween ct_isbetween oc_isword kV_isword dc_isword pm_isword cd_isword ct_isword oc_isimage kV_isimage dc_isimage pm_isimage cd_isimage ct_isimage oc_isline kV_isline dc_isline pm_isline cd_isline ct_isline oc_islinerow kV_islinerow dc_islinerow pm_islinerow cd_islinerow ct_islinerow oc_touchesof kV_touchesof dc_touchesof pm_touchesof cd_touchesof ct_touchesof oc_give kV_give dc_give pm_give cd_give ct_give oc_firstregisters kV_firstregisters dc_firstregisters pm_firstregisters cd_firstregisters ct_firstregisters oc_dolit kV_dolit dc_dolit pm_dolit cd_dolit ct_dolit oc_doget kV_doget dc_doget pm_doget cd_doget ct_doget oc_doput kV_doput dc_doput pm_doput cd_doput ct_doput oc_doadd kV_doadd dc_doadd pm_doadd cd_doadd ct_doadd oc_dosub kV_dosub dc_dosub pm_dosub cd_dosub ct_dosub oc_doand kV_doand dc_doand pm_doand cd_doand ct_doand oc_doxor kV_doxor dc_doxor pm_doxor cd_doxor ct_doxor oc_doputb kV_doputb dc_doputb pm_doputb cd_doputb ct_doputb oc_dotob kV_dotob dc_dotob pm_dotob cd_dotob ct_dotob oc_doswap kV_doswap dc_doswap pm_doswap cd_doswap ct_doswap oc_dogo kV_dogo dc_dogo pm_dogo cd_dogo ct_dogo oc_doifz kV_doifz dc_doifz pm_doifz cd_doifz ct_doifz oc_doifn kV_doifn dc_doifn pm_doifn cd_doifn ct_doifn oc_docall kV_docall dc_docall pm_docall cd_docall ct_docall oc_doret kV_doret dc_doret pm_doret cd_doret ct_doret oc_dopush kV_dopush dc_dopush pm_dopush cd_dopush ct_dopush oc_dopop kV_dopop dc_dopop pm_dopop cd_dopop ct_dopop oc_dosleep kV_dosleep dc_dosleep pm_dosleep cd_dosleep ct_dosleep oc_dolet kV_dolet dc_dolet pm_dolet cd_dolet ct_dolet oc_doback kV_doback dc_doback pm_doback cd_doback ct_doback oc_dohalf kV_dohalf dc_dohalf pm_dohalf cd_dohalf ct_dohalf oc_lawdigits kV_lawdigits dc_lawdigits pm_lawdigits cd_lawdigits ct_lawdigits oc_lawimageof kV_lawimageof dc_lawimageof pm_lawimageof cd_lawimageof ct_lawimageof oc_lawlineof kV_lawlineof dc_lawlineof pm_lawlineof cd_lawlineof ct_lawlineof oc_lawstand kV_lawstand dc_lawstand pm_lawstand cd_lawstand ct_lawstand oc_lawbegan kV_lawbegan dc_lawbegan pm_lawbegan cd_lawbegan ct_lawbegan oc_law kV_law dc_law pm_law cd_law ct_law oc_CMinit kV_CMinit dc_CMinit pm_CMinit cd_CMinit ct_CMinit oc_CMwordat kV_CMwordat dc_CMwordat pm_CMwordat cd_CMwordat ct_CMwordat oc_CMread kV_CMread dc_CMread pm_CMread cd_CMread ct_CMread oc_CMput kV_CMput dc_CMput pm_CMput cd_CMput ct_CMput oc_CMcalledflags kV_CMcalledflags dc_CMcalledflags pm_CMcalledflags cd_CMcalledflags ct_CMcalledflags oc_CMtakeline kV_CMtakeline dc_CMtakeline pm_CMtakeline cd_CMtakeline ct_CMtakeline oc_CMgotimer kV_CMgotimer dc_CMgotimer pm_CMgotimer cd_CMgotimer ct_CMgotimer oc_CBinit kV_CBinit dc_CBinit pm_CBinit cd_CBinit ct_CBinit oc_CBcoming kV_CBcoming dc_CBcoming pm_CBcoming cd_CBcoming ct_CBcoming oc_CBturn kV_CBturn dc_CBturn pm_CBturn cd_CBturn ct_CBturn oc_CBbegininterrupt kV_CBbegininterrupt dc_CBbegininterrupt pm_CBbegininterrupt cd_CBbegininterrupt ct_CBbegininterrupt oc_CBdodeed kV_CBdodeed dc_CBdodeed pm_CBdodeed cd_CBdodeed ct_CBdodeed oc_CBmaytouch kV_CBmaytouch dc_CBmaytouch pm_CBmaytouch cd_CBmaytouch ct_CBmaytouch oc_CBstop kV_CBstop dc_CBstop pm_CBstop cd_CBstop ct_CBstop oc_CBputbyturn kV_CBputbyturn dc_CBputbyturn pm_CBputbyturn cd_CBputbyturn ct_CBputbyturn oc_CBputword kV_CBputword dc_CBputword pm_CBputword cd_CBputword ct_CBputword oc_CBpassbeats kV_CBpassbeats dc_CBpassbeats pm_CBpassbeats cd_CBpassbeats ct_CBpassbeats oc_CBcomeline kV_CBcomeline dc_CBcomeline pm_CBcomeline cd_CBcomeline ct_CBcomeline : Value} {t_FLASH_END t_RAM_END t_PLACES_END t_COUNT t_TOP t_FLAGS t_MASK t_LINE_IN t_LINE_OUT t_TIMER_FLAG t_LINE_FLAG t_WORD_MOST t_ERASED t_X_SPAN t_LINE_MOST t_STACK_TOP t_INTERRUPT_BEATS t_TIMER_PC t_LINE_PC t_WORDS t_HIGH : Tok} {its_aR its_aO : Array Value} {n_aR n_aO n_aD : Nat} {es_aD : Array DictEntry}
    (a_barof : PySem.W.nsIn K mainGlobals "bar_of" = some (some (.ref f_barof)))
    (l_barof : K.lookup f_barof = some ⟨oc_barof, od_barof, .func (PySem.W.fnOf "bar_of" "bar_of" (defArgs sFbar) (defBody sFbar) (defScope sFbar) .none kV_barof dc_barof pm_barof an_barof cd_barof ct_barof), sl_barof⟩)
    (c_barof : PySem.W.codeIn K cd_barof "bar_of" = true)
    (k_barof : PySem.W.keepIn K (.ref f_barof) = true)
    (a_iswhole : PySem.W.nsIn K mainGlobals "is_whole" = some (some (.ref f_iswhole)))
    (l_iswhole : K.lookup f_iswhole = some ⟨oc_iswhole, od_iswhole, .func (PySem.W.fnOf "is_whole" "is_whole" (defArgs sFwhole) (defBody sFwhole) (defScope sFwhole) .none kV_iswhole dc_iswhole pm_iswhole an_iswhole cd_iswhole ct_iswhole), sl_iswhole⟩)
    (c_iswhole : PySem.W.codeIn K cd_iswhole "is_whole" = true)
    (k_iswhole : PySem.W.keepIn K (.ref f_iswhole) = true)
    (a_isbetween : PySem.W.nsIn K mainGlobals "is_between" = some (some (.ref f_isbetween)))
    (l_isbetween : K.lookup f_isbetween = some ⟨oc_isbetween, od_isbetween, .func (PySem.W.fnOf "is_between" "is_between" (defArgs sFbetw) (defBody sFbetw) (defScope sFbetw) .none kV_isbetween dc_isbetween pm_isbetween an_isbetween cd_isbetween ct_isbetween), sl_isbetween⟩)
    (c_isbetween : PySem.W.codeIn K cd_isbetween "is_between" = true)
    (k_isbetween : PySem.W.keepIn K (.ref f_isbetween) = true)
    (a_isword : PySem.W.nsIn K mainGlobals "is_word" = some (some (.ref f_isword)))
    (l_isword : K.lookup f_isword = some ⟨oc_isword, od_isword, .func (PySem.W.fnOf "is_word" "is_word" (defArgs sFword) (defBody sFword) (defScope sFword) .none kV_isword dc_isword pm_isword an_isword cd_isword ct_isword), sl_isword⟩)
    (c_isword : PySem.W.codeIn K cd_isword "is_word" = true)
    (k_isword : PySem.W.keepIn K (.ref f_isword) = true)
    (a_isimage : PySem.W.nsIn K mainGlobals "is_image" = some (some (.ref f_isimage)))
    (l_isimage : K.lookup f_isimage = some ⟨oc_isimage, od_isimage, .func (PySem.W.fnOf "is_image" "is_image" (defArgs sFimage) (defBody sFimage) (defScope sFimage) .none kV_isimage dc_isimage pm_isimage an_isimage cd_isimage ct_isimage), sl_isimage⟩)
    (c_isimage : PySem.W.codeIn K cd_isimage "is_image" = true)
    (k_isimage : PySem.W.keepIn K (.ref f_isimage) = true)
    (a_isline : PySem.W.nsIn K mainGlobals "is_line" = some (some (.ref f_isline)))
    (l_isline : K.lookup f_isline = some ⟨oc_isline, od_isline, .func (PySem.W.fnOf "is_line" "is_line" (defArgs sFline) (defBody sFline) (defScope sFline) .none kV_isline dc_isline pm_isline an_isline cd_isline ct_isline), sl_isline⟩)
    (c_isline : PySem.W.codeIn K cd_isline "is_line" = true)
    (k_isline : PySem.W.keepIn K (.ref f_isline) = true)
    (a_islinerow : PySem.W.nsIn K mainGlobals "is_line_row" = some (some (.ref f_islinerow)))
    (l_islinerow : K.lookup f_islinerow = some ⟨oc_islinerow, od_islinerow, .func (PySem.W.fnOf "is_line_row" "is_line_row" (defArgs sFlrow) (defBody sFlrow) (defScope sFlrow) .none kV_islinerow dc_islinerow pm_islinerow an_islinerow cd_islinerow ct_islinerow), sl_islinerow⟩)
    (c_islinerow : PySem.W.codeIn K cd_islinerow "is_line_row" = true)
    (k_islinerow : PySem.W.keepIn K (.ref f_islinerow) = true)
    (a_touchesof : PySem.W.nsIn K mainGlobals "touches_of" = some (some (.ref f_touchesof)))
    (l_touchesof : K.lookup f_touchesof = some ⟨oc_touchesof, od_touchesof, .func (PySem.W.fnOf "touches_of" "touches_of" (defArgs sFtou) (defBody sFtou) (defScope sFtou) .none kV_touchesof dc_touchesof pm_touchesof an_touchesof cd_touchesof ct_touchesof), sl_touchesof⟩)
    (c_touchesof : PySem.W.codeIn K cd_touchesof "touches_of" = true)
    (k_touchesof : PySem.W.keepIn K (.ref f_touchesof) = true)
    (a_give : PySem.W.nsIn K mainGlobals "give" = some (some (.ref f_give)))
    (l_give : K.lookup f_give = some ⟨oc_give, od_give, .func (PySem.W.fnOf "give" "give" (defArgs sFgive) (defBody sFgive) (defScope sFgive) .none kV_give dc_give pm_give an_give cd_give ct_give), sl_give⟩)
    (c_give : PySem.W.codeIn K cd_give "give" = true)
    (k_give : PySem.W.keepIn K (.ref f_give) = true)
    (a_firstregisters : PySem.W.nsIn K mainGlobals "first_registers" = some (some (.ref f_firstregisters)))
    (l_firstregisters : K.lookup f_firstregisters = some ⟨oc_firstregisters, od_firstregisters, .func (PySem.W.fnOf "first_registers" "first_registers" (defArgs sFfirst) (defBody sFfirst) (defScope sFfirst) .none kV_firstregisters dc_firstregisters pm_firstregisters an_firstregisters cd_firstregisters ct_firstregisters), sl_firstregisters⟩)
    (c_firstregisters : PySem.W.codeIn K cd_firstregisters "first_registers" = true)
    (k_firstregisters : PySem.W.keepIn K (.ref f_firstregisters) = true)
    (a_dolit : PySem.W.nsIn K mainGlobals "do_lit" = some (some (.ref f_dolit)))
    (l_dolit : K.lookup f_dolit = some ⟨oc_dolit, od_dolit, .func (PySem.W.fnOf "do_lit" "do_lit" (defArgs sD1) (defBody sD1) (defScope sD1) .none kV_dolit dc_dolit pm_dolit an_dolit cd_dolit ct_dolit), sl_dolit⟩)
    (c_dolit : PySem.W.codeIn K cd_dolit "do_lit" = true)
    (k_dolit : PySem.W.keepIn K (.ref f_dolit) = true)
    (a_doget : PySem.W.nsIn K mainGlobals "do_get" = some (some (.ref f_doget)))
    (l_doget : K.lookup f_doget = some ⟨oc_doget, od_doget, .func (PySem.W.fnOf "do_get" "do_get" (defArgs sD2) (defBody sD2) (defScope sD2) .none kV_doget dc_doget pm_doget an_doget cd_doget ct_doget), sl_doget⟩)
    (c_doget : PySem.W.codeIn K cd_doget "do_get" = true)
    (k_doget : PySem.W.keepIn K (.ref f_doget) = true)
    (a_doput : PySem.W.nsIn K mainGlobals "do_put" = some (some (.ref f_doput)))
    (l_doput : K.lookup f_doput = some ⟨oc_doput, od_doput, .func (PySem.W.fnOf "do_put" "do_put" (defArgs sD3) (defBody sD3) (defScope sD3) .none kV_doput dc_doput pm_doput an_doput cd_doput ct_doput), sl_doput⟩)
    (c_doput : PySem.W.codeIn K cd_doput "do_put" = true)
    (k_doput : PySem.W.keepIn K (.ref f_doput) = true)
    (a_doadd : PySem.W.nsIn K mainGlobals "do_add" = some (some (.ref f_doadd)))
    (l_doadd : K.lookup f_doadd = some ⟨oc_doadd, od_doadd, .func (PySem.W.fnOf "do_add" "do_add" (defArgs sD4) (defBody sD4) (defScope sD4) .none kV_doadd dc_doadd pm_doadd an_doadd cd_doadd ct_doadd), sl_doadd⟩)
    (c_doadd : PySem.W.codeIn K cd_doadd "do_add" = true)
    (k_doadd : PySem.W.keepIn K (.ref f_doadd) = true)
    (a_dosub : PySem.W.nsIn K mainGlobals "do_sub" = some (some (.ref f_dosub)))
    (l_dosub : K.lookup f_dosub = some ⟨oc_dosub, od_dosub, .func (PySem.W.fnOf "do_sub" "do_sub" (defArgs sD5) (defBody sD5) (defScope sD5) .none kV_dosub dc_dosub pm_dosub an_dosub cd_dosub ct_dosub), sl_dosub⟩)
    (c_dosub : PySem.W.codeIn K cd_dosub "do_sub" = true)
    (k_dosub : PySem.W.keepIn K (.ref f_dosub) = true)
    (a_doand : PySem.W.nsIn K mainGlobals "do_and" = some (some (.ref f_doand)))
    (l_doand : K.lookup f_doand = some ⟨oc_doand, od_doand, .func (PySem.W.fnOf "do_and" "do_and" (defArgs sD6) (defBody sD6) (defScope sD6) .none kV_doand dc_doand pm_doand an_doand cd_doand ct_doand), sl_doand⟩)
    (c_doand : PySem.W.codeIn K cd_doand "do_and" = true)
    (k_doand : PySem.W.keepIn K (.ref f_doand) = true)
    (a_doxor : PySem.W.nsIn K mainGlobals "do_xor" = some (some (.ref f_doxor)))
    (l_doxor : K.lookup f_doxor = some ⟨oc_doxor, od_doxor, .func (PySem.W.fnOf "do_xor" "do_xor" (defArgs sD7) (defBody sD7) (defScope sD7) .none kV_doxor dc_doxor pm_doxor an_doxor cd_doxor ct_doxor), sl_doxor⟩)
    (c_doxor : PySem.W.codeIn K cd_doxor "do_xor" = true)
    (k_doxor : PySem.W.keepIn K (.ref f_doxor) = true)
    (a_doputb : PySem.W.nsIn K mainGlobals "do_putb" = some (some (.ref f_doputb)))
    (l_doputb : K.lookup f_doputb = some ⟨oc_doputb, od_doputb, .func (PySem.W.fnOf "do_putb" "do_putb" (defArgs sD9) (defBody sD9) (defScope sD9) .none kV_doputb dc_doputb pm_doputb an_doputb cd_doputb ct_doputb), sl_doputb⟩)
    (c_doputb : PySem.W.codeIn K cd_doputb "do_putb" = true)
    (k_doputb : PySem.W.keepIn K (.ref f_doputb) = true)
    (a_dotob : PySem.W.nsIn K mainGlobals "do_tob" = some (some (.ref f_dotob)))
    (l_dotob : K.lookup f_dotob = some ⟨oc_dotob, od_dotob, .func (PySem.W.fnOf "do_tob" "do_tob" (defArgs sD10) (defBody sD10) (defScope sD10) .none kV_dotob dc_dotob pm_dotob an_dotob cd_dotob ct_dotob), sl_dotob⟩)
    (c_dotob : PySem.W.codeIn K cd_dotob "do_tob" = true)
    (k_dotob : PySem.W.keepIn K (.ref f_dotob) = true)
    (a_doswap : PySem.W.nsIn K mainGlobals "do_swap" = some (some (.ref f_doswap)))
    (l_doswap : K.lookup f_doswap = some ⟨oc_doswap, od_doswap, .func (PySem.W.fnOf "do_swap" "do_swap" (defArgs sD11) (defBody sD11) (defScope sD11) .none kV_doswap dc_doswap pm_doswap an_doswap cd_doswap ct_doswap), sl_doswap⟩)
    (c_doswap : PySem.W.codeIn K cd_doswap "do_swap" = true)
    (k_doswap : PySem.W.keepIn K (.ref f_doswap) = true)
    (a_dogo : PySem.W.nsIn K mainGlobals "do_go" = some (some (.ref f_dogo)))
    (l_dogo : K.lookup f_dogo = some ⟨oc_dogo, od_dogo, .func (PySem.W.fnOf "do_go" "do_go" (defArgs sD12) (defBody sD12) (defScope sD12) .none kV_dogo dc_dogo pm_dogo an_dogo cd_dogo ct_dogo), sl_dogo⟩)
    (c_dogo : PySem.W.codeIn K cd_dogo "do_go" = true)
    (k_dogo : PySem.W.keepIn K (.ref f_dogo) = true)
    (a_doifz : PySem.W.nsIn K mainGlobals "do_ifz" = some (some (.ref f_doifz)))
    (l_doifz : K.lookup f_doifz = some ⟨oc_doifz, od_doifz, .func (PySem.W.fnOf "do_ifz" "do_ifz" (defArgs sD13) (defBody sD13) (defScope sD13) .none kV_doifz dc_doifz pm_doifz an_doifz cd_doifz ct_doifz), sl_doifz⟩)
    (c_doifz : PySem.W.codeIn K cd_doifz "do_ifz" = true)
    (k_doifz : PySem.W.keepIn K (.ref f_doifz) = true)
    (a_doifn : PySem.W.nsIn K mainGlobals "do_ifn" = some (some (.ref f_doifn)))
    (l_doifn : K.lookup f_doifn = some ⟨oc_doifn, od_doifn, .func (PySem.W.fnOf "do_ifn" "do_ifn" (defArgs sD14) (defBody sD14) (defScope sD14) .none kV_doifn dc_doifn pm_doifn an_doifn cd_doifn ct_doifn), sl_doifn⟩)
    (c_doifn : PySem.W.codeIn K cd_doifn "do_ifn" = true)
    (k_doifn : PySem.W.keepIn K (.ref f_doifn) = true)
    (a_docall : PySem.W.nsIn K mainGlobals "do_call" = some (some (.ref f_docall)))
    (l_docall : K.lookup f_docall = some ⟨oc_docall, od_docall, .func (PySem.W.fnOf "do_call" "do_call" (defArgs sD15) (defBody sD15) (defScope sD15) .none kV_docall dc_docall pm_docall an_docall cd_docall ct_docall), sl_docall⟩)
    (c_docall : PySem.W.codeIn K cd_docall "do_call" = true)
    (k_docall : PySem.W.keepIn K (.ref f_docall) = true)
    (a_doret : PySem.W.nsIn K mainGlobals "do_ret" = some (some (.ref f_doret)))
    (l_doret : K.lookup f_doret = some ⟨oc_doret, od_doret, .func (PySem.W.fnOf "do_ret" "do_ret" (defArgs sD16) (defBody sD16) (defScope sD16) .none kV_doret dc_doret pm_doret an_doret cd_doret ct_doret), sl_doret⟩)
    (c_doret : PySem.W.codeIn K cd_doret "do_ret" = true)
    (k_doret : PySem.W.keepIn K (.ref f_doret) = true)
    (a_dopush : PySem.W.nsIn K mainGlobals "do_push" = some (some (.ref f_dopush)))
    (l_dopush : K.lookup f_dopush = some ⟨oc_dopush, od_dopush, .func (PySem.W.fnOf "do_push" "do_push" (defArgs sD17) (defBody sD17) (defScope sD17) .none kV_dopush dc_dopush pm_dopush an_dopush cd_dopush ct_dopush), sl_dopush⟩)
    (c_dopush : PySem.W.codeIn K cd_dopush "do_push" = true)
    (k_dopush : PySem.W.keepIn K (.ref f_dopush) = true)
    (a_dopop : PySem.W.nsIn K mainGlobals "do_pop" = some (some (.ref f_dopop)))
    (l_dopop : K.lookup f_dopop = some ⟨oc_dopop, od_dopop, .func (PySem.W.fnOf "do_pop" "do_pop" (defArgs sD18) (defBody sD18) (defScope sD18) .none kV_dopop dc_dopop pm_dopop an_dopop cd_dopop ct_dopop), sl_dopop⟩)
    (c_dopop : PySem.W.codeIn K cd_dopop "do_pop" = true)
    (k_dopop : PySem.W.keepIn K (.ref f_dopop) = true)
    (a_dosleep : PySem.W.nsIn K mainGlobals "do_sleep" = some (some (.ref f_dosleep)))
    (l_dosleep : K.lookup f_dosleep = some ⟨oc_dosleep, od_dosleep, .func (PySem.W.fnOf "do_sleep" "do_sleep" (defArgs sD19) (defBody sD19) (defScope sD19) .none kV_dosleep dc_dosleep pm_dosleep an_dosleep cd_dosleep ct_dosleep), sl_dosleep⟩)
    (c_dosleep : PySem.W.codeIn K cd_dosleep "do_sleep" = true)
    (k_dosleep : PySem.W.keepIn K (.ref f_dosleep) = true)
    (a_dolet : PySem.W.nsIn K mainGlobals "do_let" = some (some (.ref f_dolet)))
    (l_dolet : K.lookup f_dolet = some ⟨oc_dolet, od_dolet, .func (PySem.W.fnOf "do_let" "do_let" (defArgs sD20) (defBody sD20) (defScope sD20) .none kV_dolet dc_dolet pm_dolet an_dolet cd_dolet ct_dolet), sl_dolet⟩)
    (c_dolet : PySem.W.codeIn K cd_dolet "do_let" = true)
    (k_dolet : PySem.W.keepIn K (.ref f_dolet) = true)
    (a_doback : PySem.W.nsIn K mainGlobals "do_back" = some (some (.ref f_doback)))
    (l_doback : K.lookup f_doback = some ⟨oc_doback, od_doback, .func (PySem.W.fnOf "do_back" "do_back" (defArgs sD21) (defBody sD21) (defScope sD21) .none kV_doback dc_doback pm_doback an_doback cd_doback ct_doback), sl_doback⟩)
    (c_doback : PySem.W.codeIn K cd_doback "do_back" = true)
    (k_doback : PySem.W.keepIn K (.ref f_doback) = true)
    (a_dohalf : PySem.W.nsIn K mainGlobals "do_half" = some (some (.ref f_dohalf)))
    (l_dohalf : K.lookup f_dohalf = some ⟨oc_dohalf, od_dohalf, .func (PySem.W.fnOf "do_half" "do_half" (defArgs sD22) (defBody sD22) (defScope sD22) .none kV_dohalf dc_dohalf pm_dohalf an_dohalf cd_dohalf ct_dohalf), sl_dohalf⟩)
    (c_dohalf : PySem.W.codeIn K cd_dohalf "do_half" = true)
    (k_dohalf : PySem.W.keepIn K (.ref f_dohalf) = true)
    (a_lawdigits : PySem.W.nsIn K mainGlobals "_law_digits" = some (some (.ref f_lawdigits)))
    (l_lawdigits : K.lookup f_lawdigits = some ⟨oc_lawdigits, od_lawdigits, .func (PySem.W.fnOf "_law_digits" "_law_digits" (defArgs sLdig) (defBody sLdig) (defScope sLdig) .none kV_lawdigits dc_lawdigits pm_lawdigits an_lawdigits cd_lawdigits ct_lawdigits), sl_lawdigits⟩)
    (c_lawdigits : PySem.W.codeIn K cd_lawdigits "_law_digits" = true)
    (k_lawdigits : PySem.W.keepIn K (.ref f_lawdigits) = true)
    (a_lawimageof : PySem.W.nsIn K mainGlobals "_law_image_of" = some (some (.ref f_lawimageof)))
    (l_lawimageof : K.lookup f_lawimageof = some ⟨oc_lawimageof, od_lawimageof, .func (PySem.W.fnOf "_law_image_of" "_law_image_of" (defArgs sLimg) (defBody sLimg) (defScope sLimg) .none kV_lawimageof dc_lawimageof pm_lawimageof an_lawimageof cd_lawimageof ct_lawimageof), sl_lawimageof⟩)
    (c_lawimageof : PySem.W.codeIn K cd_lawimageof "_law_image_of" = true)
    (k_lawimageof : PySem.W.keepIn K (.ref f_lawimageof) = true)
    (a_lawlineof : PySem.W.nsIn K mainGlobals "_law_line_of" = some (some (.ref f_lawlineof)))
    (l_lawlineof : K.lookup f_lawlineof = some ⟨oc_lawlineof, od_lawlineof, .func (PySem.W.fnOf "_law_line_of" "_law_line_of" (defArgs sLlin) (defBody sLlin) (defScope sLlin) .none kV_lawlineof dc_lawlineof pm_lawlineof an_lawlineof cd_lawlineof ct_lawlineof), sl_lawlineof⟩)
    (c_lawlineof : PySem.W.codeIn K cd_lawlineof "_law_line_of" = true)
    (k_lawlineof : PySem.W.keepIn K (.ref f_lawlineof) = true)
    (a_lawstand : PySem.W.nsIn K mainGlobals "_law_stand" = some (some (.ref f_lawstand)))
    (l_lawstand : K.lookup f_lawstand = some ⟨oc_lawstand, od_lawstand, .func (PySem.W.fnOf "_law_stand" "_law_stand" (defArgs sLstd) (defBody sLstd) (defScope sLstd) .none kV_lawstand dc_lawstand pm_lawstand an_lawstand cd_lawstand ct_lawstand), sl_lawstand⟩)
    (c_lawstand : PySem.W.codeIn K cd_lawstand "_law_stand" = true)
    (k_lawstand : PySem.W.keepIn K (.ref f_lawstand) = true)
    (a_lawbegan : PySem.W.nsIn K mainGlobals "_law_began" = some (some (.ref f_lawbegan)))
    (l_lawbegan : K.lookup f_lawbegan = some ⟨oc_lawbegan, od_lawbegan, .func (PySem.W.fnOf "_law_began" "_law_began" (defArgs sLbeg) (defBody sLbeg) (defScope sLbeg) .none kV_lawbegan dc_lawbegan pm_lawbegan an_lawbegan cd_lawbegan ct_lawbegan), sl_lawbegan⟩)
    (c_lawbegan : PySem.W.codeIn K cd_lawbegan "_law_began" = true)
    (k_lawbegan : PySem.W.keepIn K (.ref f_lawbegan) = true)
    (a_law : PySem.W.nsIn K mainGlobals "law" = some (some (.ref f_law)))
    (l_law : K.lookup f_law = some ⟨oc_law, od_law, .func (PySem.W.fnOf "law" "law" (defArgs sLaw) (defBody sLaw) (defScope sLaw) .none kV_law dc_law pm_law an_law cd_law ct_law), sl_law⟩)
    (c_law : PySem.W.codeIn K cd_law "law" = true)
    (k_law : PySem.W.keepIn K (.ref f_law) = true)
    (aCM : PySem.W.nsIn K mainGlobals "Memory" = some (some (.ref CM)))
    (a_CMinit : PySem.W.findIn K (.ref CM) "__init__" = some (some (.ref f_CMinit)))
    (i_CMinit : PySem.W.isFn K (.ref f_CMinit) = true)
    (l_CMinit : K.lookup f_CMinit = some ⟨oc_CMinit, od_CMinit, .func (PySem.W.fnOf "__init__" "Memory.__init__" (defArgs sCmem) (defBody sCmem) (defScope sCmem) .none kV_CMinit dc_CMinit pm_CMinit an_CMinit cd_CMinit ct_CMinit), sl_CMinit⟩)
    (c_CMinit : PySem.W.codeIn K cd_CMinit "Memory.__init__" = true)
    (k_CMinit : PySem.W.keepIn K (.ref f_CMinit) = true)
    (a_CMwordat : PySem.W.findIn K (.ref CM) "word_at" = some (some (.ref f_CMwordat)))
    (i_CMwordat : PySem.W.isFn K (.ref f_CMwordat) = true)
    (l_CMwordat : K.lookup f_CMwordat = some ⟨oc_CMwordat, od_CMwordat, .func (PySem.W.fnOf "word_at" "Memory.word_at" (defArgs sMat) (defBody sMat) (defScope sMat) .none kV_CMwordat dc_CMwordat pm_CMwordat an_CMwordat cd_CMwordat ct_CMwordat), sl_CMwordat⟩)
    (c_CMwordat : PySem.W.codeIn K cd_CMwordat "Memory.word_at" = true)
    (k_CMwordat : PySem.W.keepIn K (.ref f_CMwordat) = true)
    (a_CMread : PySem.W.findIn K (.ref CM) "read" = some (some (.ref f_CMread)))
    (i_CMread : PySem.W.isFn K (.ref f_CMread) = true)
    (l_CMread : K.lookup f_CMread = some ⟨oc_CMread, od_CMread, .func (PySem.W.fnOf "read" "Memory.read" (defArgs sMread) (defBody sMread) (defScope sMread) .none kV_CMread dc_CMread pm_CMread an_CMread cd_CMread ct_CMread), sl_CMread⟩)
    (c_CMread : PySem.W.codeIn K cd_CMread "Memory.read" = true)
    (k_CMread : PySem.W.keepIn K (.ref f_CMread) = true)
    (a_CMput : PySem.W.findIn K (.ref CM) "put" = some (some (.ref f_CMput)))
    (i_CMput : PySem.W.isFn K (.ref f_CMput) = true)
    (l_CMput : K.lookup f_CMput = some ⟨oc_CMput, od_CMput, .func (PySem.W.fnOf "put" "Memory.put" (defArgs sMput) (defBody sMput) (defScope sMput) .none kV_CMput dc_CMput pm_CMput an_CMput cd_CMput ct_CMput), sl_CMput⟩)
    (c_CMput : PySem.W.codeIn K cd_CMput "Memory.put" = true)
    (k_CMput : PySem.W.keepIn K (.ref f_CMput) = true)
    (a_CMcalledflags : PySem.W.findIn K (.ref CM) "called_flags" = some (some (.ref f_CMcalledflags)))
    (i_CMcalledflags : PySem.W.isFn K (.ref f_CMcalledflags) = true)
    (l_CMcalledflags : K.lookup f_CMcalledflags = some ⟨oc_CMcalledflags, od_CMcalledflags, .func (PySem.W.fnOf "called_flags" "Memory.called_flags" (defArgs sMcalled) (defBody sMcalled) (defScope sMcalled) .none kV_CMcalledflags dc_CMcalledflags pm_CMcalledflags an_CMcalledflags cd_CMcalledflags ct_CMcalledflags), sl_CMcalledflags⟩)
    (c_CMcalledflags : PySem.W.codeIn K cd_CMcalledflags "Memory.called_flags" = true)
    (k_CMcalledflags : PySem.W.keepIn K (.ref f_CMcalledflags) = true)
    (a_CMtakeline : PySem.W.findIn K (.ref CM) "take_line" = some (some (.ref f_CMtakeline)))
    (i_CMtakeline : PySem.W.isFn K (.ref f_CMtakeline) = true)
    (l_CMtakeline : K.lookup f_CMtakeline = some ⟨oc_CMtakeline, od_CMtakeline, .func (PySem.W.fnOf "take_line" "Memory.take_line" (defArgs sMtake) (defBody sMtake) (defScope sMtake) .none kV_CMtakeline dc_CMtakeline pm_CMtakeline an_CMtakeline cd_CMtakeline ct_CMtakeline), sl_CMtakeline⟩)
    (c_CMtakeline : PySem.W.codeIn K cd_CMtakeline "Memory.take_line" = true)
    (k_CMtakeline : PySem.W.keepIn K (.ref f_CMtakeline) = true)
    (a_CMgotimer : PySem.W.findIn K (.ref CM) "go_timer" = some (some (.ref f_CMgotimer)))
    (i_CMgotimer : PySem.W.isFn K (.ref f_CMgotimer) = true)
    (l_CMgotimer : K.lookup f_CMgotimer = some ⟨oc_CMgotimer, od_CMgotimer, .func (PySem.W.fnOf "go_timer" "Memory.go_timer" (defArgs sMtimer) (defBody sMtimer) (defScope sMtimer) .none kV_CMgotimer dc_CMgotimer pm_CMgotimer an_CMgotimer cd_CMgotimer ct_CMgotimer), sl_CMgotimer⟩)
    (c_CMgotimer : PySem.W.codeIn K cd_CMgotimer "Memory.go_timer" = true)
    (k_CMgotimer : PySem.W.keepIn K (.ref f_CMgotimer) = true)
    (pgCM : PySem.W.plainGet K CM Str.empty = true)
    (hdCM : PySem.W.hasDictIn K CM = true)
    (poCM : PySem.W.plainOver K CM = true)
    (saCM : PySem.W.findIn K (.ref CM) "__setattr__" = some (some (.builtin "object.__setattr__")))
    (mkCM : PySem.W.makesIn K CM = true)
    (kcCM : PySem.W.keepIn K (.ref CM) = true)
    (aCB : PySem.W.nsIn K mainGlobals "Board" = some (some (.ref CB)))
    (a_CBinit : PySem.W.findIn K (.ref CB) "__init__" = some (some (.ref f_CBinit)))
    (i_CBinit : PySem.W.isFn K (.ref f_CBinit) = true)
    (l_CBinit : K.lookup f_CBinit = some ⟨oc_CBinit, od_CBinit, .func (PySem.W.fnOf "__init__" "Board.__init__" (defArgs sCboard) (defBody sCboard) (defScope sCboard) .none kV_CBinit dc_CBinit pm_CBinit an_CBinit cd_CBinit ct_CBinit), sl_CBinit⟩)
    (c_CBinit : PySem.W.codeIn K cd_CBinit "Board.__init__" = true)
    (k_CBinit : PySem.W.keepIn K (.ref f_CBinit) = true)
    (a_CBcoming : PySem.W.findIn K (.ref CB) "coming" = some (some (.ref f_CBcoming)))
    (i_CBcoming : PySem.W.isFn K (.ref f_CBcoming) = true)
    (l_CBcoming : K.lookup f_CBcoming = some ⟨oc_CBcoming, od_CBcoming, .func (PySem.W.fnOf "coming" "Board.coming" (defArgs sMcoming) (defBody sMcoming) (defScope sMcoming) .none kV_CBcoming dc_CBcoming pm_CBcoming an_CBcoming cd_CBcoming ct_CBcoming), sl_CBcoming⟩)
    (c_CBcoming : PySem.W.codeIn K cd_CBcoming "Board.coming" = true)
    (k_CBcoming : PySem.W.keepIn K (.ref f_CBcoming) = true)
    (a_CBturn : PySem.W.findIn K (.ref CB) "turn" = some (some (.ref f_CBturn)))
    (i_CBturn : PySem.W.isFn K (.ref f_CBturn) = true)
    (l_CBturn : K.lookup f_CBturn = some ⟨oc_CBturn, od_CBturn, .func (PySem.W.fnOf "turn" "Board.turn" (defArgs sMturn) (defBody sMturn) (defScope sMturn) .none kV_CBturn dc_CBturn pm_CBturn an_CBturn cd_CBturn ct_CBturn), sl_CBturn⟩)
    (c_CBturn : PySem.W.codeIn K cd_CBturn "Board.turn" = true)
    (k_CBturn : PySem.W.keepIn K (.ref f_CBturn) = true)
    (a_CBbegininterrupt : PySem.W.findIn K (.ref CB) "begin_interrupt" = some (some (.ref f_CBbegininterrupt)))
    (i_CBbegininterrupt : PySem.W.isFn K (.ref f_CBbegininterrupt) = true)
    (l_CBbegininterrupt : K.lookup f_CBbegininterrupt = some ⟨oc_CBbegininterrupt, od_CBbegininterrupt, .func (PySem.W.fnOf "begin_interrupt" "Board.begin_interrupt" (defArgs sMbegin) (defBody sMbegin) (defScope sMbegin) .none kV_CBbegininterrupt dc_CBbegininterrupt pm_CBbegininterrupt an_CBbegininterrupt cd_CBbegininterrupt ct_CBbegininterrupt), sl_CBbegininterrupt⟩)
    (c_CBbegininterrupt : PySem.W.codeIn K cd_CBbegininterrupt "Board.begin_interrupt" = true)
    (k_CBbegininterrupt : PySem.W.keepIn K (.ref f_CBbegininterrupt) = true)
    (a_CBdodeed : PySem.W.findIn K (.ref CB) "do_deed" = some (some (.ref f_CBdodeed)))
    (i_CBdodeed : PySem.W.isFn K (.ref f_CBdodeed) = true)
    (l_CBdodeed : K.lookup f_CBdodeed = some ⟨oc_CBdodeed, od_CBdodeed, .func (PySem.W.fnOf "do_deed" "Board.do_deed" (defArgs sMdo) (defBody sMdo) (defScope sMdo) .none kV_CBdodeed dc_CBdodeed pm_CBdodeed an_CBdodeed cd_CBdodeed ct_CBdodeed), sl_CBdodeed⟩)
    (c_CBdodeed : PySem.W.codeIn K cd_CBdodeed "Board.do_deed" = true)
    (k_CBdodeed : PySem.W.keepIn K (.ref f_CBdodeed) = true)
    (a_CBmaytouch : PySem.W.findIn K (.ref CB) "may_touch" = some (some (.ref f_CBmaytouch)))
    (i_CBmaytouch : PySem.W.isFn K (.ref f_CBmaytouch) = true)
    (l_CBmaytouch : K.lookup f_CBmaytouch = some ⟨oc_CBmaytouch, od_CBmaytouch, .func (PySem.W.fnOf "may_touch" "Board.may_touch" (defArgs sMmay) (defBody sMmay) (defScope sMmay) .none kV_CBmaytouch dc_CBmaytouch pm_CBmaytouch an_CBmaytouch cd_CBmaytouch ct_CBmaytouch), sl_CBmaytouch⟩)
    (c_CBmaytouch : PySem.W.codeIn K cd_CBmaytouch "Board.may_touch" = true)
    (k_CBmaytouch : PySem.W.keepIn K (.ref f_CBmaytouch) = true)
    (a_CBstop : PySem.W.findIn K (.ref CB) "stop" = some (some (.ref f_CBstop)))
    (i_CBstop : PySem.W.isFn K (.ref f_CBstop) = true)
    (l_CBstop : K.lookup f_CBstop = some ⟨oc_CBstop, od_CBstop, .func (PySem.W.fnOf "stop" "Board.stop" (defArgs sMstop) (defBody sMstop) (defScope sMstop) .none kV_CBstop dc_CBstop pm_CBstop an_CBstop cd_CBstop ct_CBstop), sl_CBstop⟩)
    (c_CBstop : PySem.W.codeIn K cd_CBstop "Board.stop" = true)
    (k_CBstop : PySem.W.keepIn K (.ref f_CBstop) = true)
    (a_CBputbyturn : PySem.W.findIn K (.ref CB) "put_by_turn" = some (some (.ref f_CBputbyturn)))
    (i_CBputbyturn : PySem.W.isFn K (.ref f_CBputbyturn) = true)
    (l_CBputbyturn : K.lookup f_CBputbyturn = some ⟨oc_CBputbyturn, od_CBputbyturn, .func (PySem.W.fnOf "put_by_turn" "Board.put_by_turn" (defArgs sMpbt) (defBody sMpbt) (defScope sMpbt) .none kV_CBputbyturn dc_CBputbyturn pm_CBputbyturn an_CBputbyturn cd_CBputbyturn ct_CBputbyturn), sl_CBputbyturn⟩)
    (c_CBputbyturn : PySem.W.codeIn K cd_CBputbyturn "Board.put_by_turn" = true)
    (k_CBputbyturn : PySem.W.keepIn K (.ref f_CBputbyturn) = true)
    (a_CBputword : PySem.W.findIn K (.ref CB) "put_word" = some (some (.ref f_CBputword)))
    (i_CBputword : PySem.W.isFn K (.ref f_CBputword) = true)
    (l_CBputword : K.lookup f_CBputword = some ⟨oc_CBputword, od_CBputword, .func (PySem.W.fnOf "put_word" "Board.put_word" (defArgs sMpw) (defBody sMpw) (defScope sMpw) .none kV_CBputword dc_CBputword pm_CBputword an_CBputword cd_CBputword ct_CBputword), sl_CBputword⟩)
    (c_CBputword : PySem.W.codeIn K cd_CBputword "Board.put_word" = true)
    (k_CBputword : PySem.W.keepIn K (.ref f_CBputword) = true)
    (a_CBpassbeats : PySem.W.findIn K (.ref CB) "pass_beats" = some (some (.ref f_CBpassbeats)))
    (i_CBpassbeats : PySem.W.isFn K (.ref f_CBpassbeats) = true)
    (l_CBpassbeats : K.lookup f_CBpassbeats = some ⟨oc_CBpassbeats, od_CBpassbeats, .func (PySem.W.fnOf "pass_beats" "Board.pass_beats" (defArgs sMpass) (defBody sMpass) (defScope sMpass) .none kV_CBpassbeats dc_CBpassbeats pm_CBpassbeats an_CBpassbeats cd_CBpassbeats ct_CBpassbeats), sl_CBpassbeats⟩)
    (c_CBpassbeats : PySem.W.codeIn K cd_CBpassbeats "Board.pass_beats" = true)
    (k_CBpassbeats : PySem.W.keepIn K (.ref f_CBpassbeats) = true)
    (a_CBcomeline : PySem.W.findIn K (.ref CB) "come_line" = some (some (.ref f_CBcomeline)))
    (i_CBcomeline : PySem.W.isFn K (.ref f_CBcomeline) = true)
    (l_CBcomeline : K.lookup f_CBcomeline = some ⟨oc_CBcomeline, od_CBcomeline, .func (PySem.W.fnOf "come_line" "Board.come_line" (defArgs sMcome) (defBody sMcome) (defScope sMcome) .none kV_CBcomeline dc_CBcomeline pm_CBcomeline an_CBcomeline cd_CBcomeline ct_CBcomeline), sl_CBcomeline⟩)
    (c_CBcomeline : PySem.W.codeIn K cd_CBcomeline "Board.come_line" = true)
    (k_CBcomeline : PySem.W.keepIn K (.ref f_CBcomeline) = true)
    (pgCB : PySem.W.plainGet K CB Str.empty = true)
    (hdCB : PySem.W.hasDictIn K CB = true)
    (poCB : PySem.W.plainOver K CB = true)
    (saCB : PySem.W.findIn K (.ref CB) "__setattr__" = some (some (.builtin "object.__setattr__")))
    (mkCB : PySem.W.makesIn K CB = true)
    (kcCB : PySem.W.keepIn K (.ref CB) = true)
    (n_registers : PySem.W.findIn K (.ref CB) "registers" = some none)
    (n_zero : PySem.W.findIn K (.ref CB) "zero" = some none)
    (n_lets : PySem.W.findIn K (.ref CB) "lets" = some none)
    (n_asleep : PySem.W.findIn K (.ref CB) "asleep" = some none)
    (n_beat : PySem.W.findIn K (.ref CB) "beat" = some none)
    (n_stopped : PySem.W.findIn K (.ref CB) "stopped" = some none)
    (n_sent : PySem.W.findIn K (.ref CB) "sent" = some none)
    (n_memory : PySem.W.findIn K (.ref CB) "memory" = some none)
    (n_line : PySem.W.findIn K (.ref CB) "line" = some none)
    (n_line_at : PySem.W.findIn K (.ref CB) "line_at" = some none)
    (n_touched : PySem.W.findIn K (.ref CB) "touched" = some none)
    (n_did : PySem.W.findIn K (.ref CB) "did" = some none)
    (n_bend : PySem.W.findIn K (.ref CB) "bend" = some none)
    (n_words : PySem.W.findIn K (.ref CM) "words" = some none)
    (n_swapped : PySem.W.findIn K (.ref CM) "swapped" = some none)
    (g_FLASH_END : PySem.W.nsIn K mainGlobals "FLASH_END" = some (some (.int 512 t_FLASH_END)))
    (g_RAM_END : PySem.W.nsIn K mainGlobals "RAM_END" = some (some (.int 768 t_RAM_END)))
    (g_PLACES_END : PySem.W.nsIn K mainGlobals "PLACES_END" = some (some (.int 774 t_PLACES_END)))
    (g_COUNT : PySem.W.nsIn K mainGlobals "COUNT" = some (some (.int 768 t_COUNT)))
    (g_TOP : PySem.W.nsIn K mainGlobals "TOP" = some (some (.int 769 t_TOP)))
    (g_FLAGS : PySem.W.nsIn K mainGlobals "FLAGS" = some (some (.int 770 t_FLAGS)))
    (g_MASK : PySem.W.nsIn K mainGlobals "MASK" = some (some (.int 771 t_MASK)))
    (g_LINE_IN : PySem.W.nsIn K mainGlobals "LINE_IN" = some (some (.int 772 t_LINE_IN)))
    (g_LINE_OUT : PySem.W.nsIn K mainGlobals "LINE_OUT" = some (some (.int 773 t_LINE_OUT)))
    (g_TIMER_FLAG : PySem.W.nsIn K mainGlobals "TIMER_FLAG" = some (some (.int 1 t_TIMER_FLAG)))
    (g_LINE_FLAG : PySem.W.nsIn K mainGlobals "LINE_FLAG" = some (some (.int 2 t_LINE_FLAG)))
    (g_WORD_MOST : PySem.W.nsIn K mainGlobals "WORD_MOST" = some (some (.int 65535 t_WORD_MOST)))
    (g_ERASED : PySem.W.nsIn K mainGlobals "ERASED" = some (some (.int 65535 t_ERASED)))
    (g_X_SPAN : PySem.W.nsIn K mainGlobals "X_SPAN" = some (some (.int 1024 t_X_SPAN)))
    (g_LINE_MOST : PySem.W.nsIn K mainGlobals "LINE_MOST" = some (some (.int 3 t_LINE_MOST)))
    (g_STACK_TOP : PySem.W.nsIn K mainGlobals "STACK_TOP" = some (some (.int 767 t_STACK_TOP)))
    (g_INTERRUPT_BEATS : PySem.W.nsIn K mainGlobals "INTERRUPT_BEATS" = some (some (.int 3 t_INTERRUPT_BEATS)))
    (g_TIMER_PC : PySem.W.nsIn K mainGlobals "TIMER_PC" = some (some (.int 1 t_TIMER_PC)))
    (g_LINE_PC : PySem.W.nsIn K mainGlobals "LINE_PC" = some (some (.int 2 t_LINE_PC)))
    (g_WORDS : PySem.W.nsIn K mainGlobals "WORDS" = some (some (.int 65536 t_WORDS)))
    (g_HIGH : PySem.W.nsIn K mainGlobals "HIGH" = some (some (.int 32768 t_HIGH)))
    (g_aR : PySem.W.nsIn K mainGlobals "READS_AT_X" = some (some (.ref aR)))
    (l_aR : K.lookup aR = some ⟨.type "tuple", none, .seq its_aR n_aR, sl_aR⟩)
    (v_aR : relB rdN its_aR.toList = true)
    (g_aO : PySem.W.nsIn K mainGlobals "OP_NAMES" = some (some (.ref aO)))
    (l_aO : K.lookup aO = some ⟨.type "tuple", none, .seq its_aO n_aO, sl_aO⟩)
    (v_aO : relB opN its_aO.toList = true)
    (g_aD : PySem.W.nsIn K mainGlobals "DOINGS" = some (some (.ref aD)))
    (l_aD : K.lookup aD = some ⟨.type "dict", none, .dict es_aD n_aD, #[]⟩)
    (kl_aD : PySem.W.KeysLit w.params es_aD.toList)
    (d_lit : PySem.W.nsIn K aD "lit" = some (some (.ref f_dolit)))
    (d_get : PySem.W.nsIn K aD "get" = some (some (.ref f_doget)))
    (d_put : PySem.W.nsIn K aD "put" = some (some (.ref f_doput)))
    (d_add : PySem.W.nsIn K aD "add" = some (some (.ref f_doadd)))
    (d_sub : PySem.W.nsIn K aD "sub" = some (some (.ref f_dosub)))
    (d_and : PySem.W.nsIn K aD "and" = some (some (.ref f_doand)))
    (d_xor : PySem.W.nsIn K aD "xor" = some (some (.ref f_doxor)))
    (d_getb : PySem.W.nsIn K aD "getb" = some (some (.ref f_doget)))
    (d_putb : PySem.W.nsIn K aD "putb" = some (some (.ref f_doputb)))
    (d_tob : PySem.W.nsIn K aD "tob" = some (some (.ref f_dotob)))
    (d_swap : PySem.W.nsIn K aD "swap" = some (some (.ref f_doswap)))
    (d_go : PySem.W.nsIn K aD "go" = some (some (.ref f_dogo)))
    (d_ifz : PySem.W.nsIn K aD "ifz" = some (some (.ref f_doifz)))
    (d_ifn : PySem.W.nsIn K aD "ifn" = some (some (.ref f_doifn)))
    (d_call : PySem.W.nsIn K aD "call" = some (some (.ref f_docall)))
    (d_ret : PySem.W.nsIn K aD "ret" = some (some (.ref f_doret)))
    (d_push : PySem.W.nsIn K aD "push" = some (some (.ref f_dopush)))
    (d_pop : PySem.W.nsIn K aD "pop" = some (some (.ref f_dopop)))
    (d_sleep : PySem.W.nsIn K aD "sleep" = some (some (.ref f_dosleep)))
    (d_let : PySem.W.nsIn K aD "let" = some (some (.ref f_dolet)))
    (d_back : PySem.W.nsIn K aD "back" = some (some (.ref f_doback)))
    (d_half : PySem.W.nsIn K aD "half" = some (some (.ref f_dohalf)))
    (z_len : PySem.W.nsIn K mainGlobals "len" = some none)
    (z_range : PySem.W.nsIn K mainGlobals "range" = some none)
    (z_isinstance : PySem.W.nsIn K mainGlobals "isinstance" = some none)
    (z_all : PySem.W.nsIn K mainGlobals "all" = some none)
    (z_int : PySem.W.nsIn K mainGlobals "int" = some none)
    (z_bool : PySem.W.nsIn K mainGlobals "bool" = some none)
    (z_list : PySem.W.nsIn K mainGlobals "list" = some none)
    (z_tuple : PySem.W.nsIn K mainGlobals "tuple" = some none)
    (z_divmod : PySem.W.nsIn K mainGlobals "divmod" = some none)
    (z_min : PySem.W.nsIn K mainGlobals "min" = some none)
    (z_sum : PySem.W.nsIn K mainGlobals "sum" = some none)
    : ∃ fd : FuncData, (∀ (s : Shared) (v : Value), BindsTo s fd ⟨[v], []⟩ [("_law_script", v)]) ∧ ∀ base : Heap, K.In base → base.Ns mainGlobals mg → FnOk l.prog w K mg base CX0 8 fa fd ["_law_script"] (spLaw K) := by
  have e := hfa.symm.trans (PySem.W.mg_of X G a_law)
  cases e
  have T : Tx K mg CB CM := {
    g_FLASH_END := ⟨_, PySem.W.mg_of X G g_FLASH_END⟩
    g_RAM_END := ⟨_, PySem.W.mg_of X G g_RAM_END⟩
    g_PLACES_END := ⟨_, PySem.W.mg_of X G g_PLACES_END⟩
    g_COUNT := ⟨_, PySem.W.mg_of X G g_COUNT⟩
    g_TOP := ⟨_, PySem.W.mg_of X G g_TOP⟩
    g_FLAGS := ⟨_, PySem.W.mg_of X G g_FLAGS⟩
    g_MASK := ⟨_, PySem.W.mg_of X G g_MASK⟩
    g_LINE_IN := ⟨_, PySem.W.mg_of X G g_LINE_IN⟩
    g_LINE_OUT := ⟨_, PySem.W.mg_of X G g_LINE_OUT⟩
    g_TIMER_FLAG := ⟨_, PySem.W.mg_of X G g_TIMER_FLAG⟩
    g_LINE_FLAG := ⟨_, PySem.W.mg_of X G g_LINE_FLAG⟩
    g_WORD_MOST := ⟨_, PySem.W.mg_of X G g_WORD_MOST⟩
    g_ERASED := ⟨_, PySem.W.mg_of X G g_ERASED⟩
    g_X_SPAN := ⟨_, PySem.W.mg_of X G g_X_SPAN⟩
    g_LINE_MOST := ⟨_, PySem.W.mg_of X G g_LINE_MOST⟩
    g_STACK_TOP := ⟨_, PySem.W.mg_of X G g_STACK_TOP⟩
    g_INTERRUPT_BEATS := ⟨_, PySem.W.mg_of X G g_INTERRUPT_BEATS⟩
    g_TIMER_PC := ⟨_, PySem.W.mg_of X G g_TIMER_PC⟩
    g_LINE_PC := ⟨_, PySem.W.mg_of X G g_LINE_PC⟩
    g_WORDS := ⟨_, PySem.W.mg_of X G g_WORDS⟩
    g_HIGH := ⟨_, PySem.W.mg_of X G g_HIGH⟩
    z_len := PySem.W.mg_none_of X G z_len
    z_range := PySem.W.mg_none_of X G z_range
    z_isinstance := PySem.W.mg_none_of X G z_isinstance
    z_all := PySem.W.mg_none_of X G z_all
    z_int := PySem.W.mg_none_of X G z_int
    z_bool := PySem.W.mg_none_of X G z_bool
    z_list := PySem.W.mg_none_of X G z_list
    z_tuple := PySem.W.mg_none_of X G z_tuple
    z_divmod := PySem.W.mg_none_of X G z_divmod
    g_READS_AT_X := ⟨aR, PySem.W.mg_of X G g_aR, tup_of l_aR v_aR (by decide)⟩
    g_OP_NAMES := ⟨aO, PySem.W.mg_of X G g_aO, tup_of l_aO v_aO (by decide)⟩
    cB := ⟨pgCB, hdCB, poCB, saCB⟩
    cM := ⟨pgCM, hdCM, poCM, saCM⟩
    n_registers := n_registers
    n_zero := n_zero
    n_lets := n_lets
    n_asleep := n_asleep
    n_beat := n_beat
    n_stopped := n_stopped
    n_sent := n_sent
    n_memory := n_memory
    n_line := n_line
    n_line_at := n_line_at
    n_touched := n_touched
    n_did := n_did
    n_bend := n_bend
    n_words := n_words
    n_swapped := n_swapped }
  have F_barof := fun_mk (st := sFbar) l_barof c_barof k_barof
  have b_barof := F_barof.binds (ps := ["kind", "address"]) fun _ _ _ _ _ _ us hl => match us, hl with | [_, _], _ => rfl
  have F_iswhole := fun_mk (st := sFwhole) l_iswhole c_iswhole k_iswhole
  have b_iswhole := F_iswhole.binds (ps := ["thing"]) fun _ _ _ _ _ _ us hl => match us, hl with | [_], _ => rfl
  have F_isbetween := fun_mk (st := sFbetw) l_isbetween c_isbetween k_isbetween
  have b_isbetween := F_isbetween.binds (ps := ["thing", "least", "greatest"]) fun _ _ _ _ _ _ us hl => match us, hl with | [_, _, _], _ => rfl
  have F_isword := fun_mk (st := sFword) l_isword c_isword k_isword
  have b_isword := F_isword.binds (ps := ["thing"]) fun _ _ _ _ _ _ us hl => match us, hl with | [_], _ => rfl
  have F_isimage := fun_mk (st := sFimage) l_isimage c_isimage k_isimage
  have b_isimage := F_isimage.binds (ps := ["thing"]) fun _ _ _ _ _ _ us hl => match us, hl with | [_], _ => rfl
  have F_isline := fun_mk (st := sFline) l_isline c_isline k_isline
  have b_isline := F_isline.binds (ps := ["thing"]) fun _ _ _ _ _ _ us hl => match us, hl with | [_], _ => rfl
  have F_islinerow := fun_mk (st := sFlrow) l_islinerow c_islinerow k_islinerow
  have b_islinerow := F_islinerow.binds (ps := ["row", "last"]) fun _ _ _ _ _ _ us hl => match us, hl with | [_, _], _ => rfl
  have F_touchesof := fun_mk (st := sFtou) l_touchesof c_touchesof k_touchesof
  have b_touchesof := F_touchesof.binds (ps := ["name", "x", "registers"]) fun _ _ _ _ _ _ us hl => match us, hl with | [_, _, _], _ => rfl
  have F_give := fun_mk (st := sFgive) l_give c_give k_give
  have b_give := F_give.binds (ps := ["board", "word"]) fun _ _ _ _ _ _ us hl => match us, hl with | [_, _], _ => rfl
  have F_firstregisters := fun_mk (st := sFfirst) l_firstregisters c_firstregisters k_firstregisters
  have b_firstregisters := F_firstregisters.binds (ps := []) fun _ _ _ _ _ _ us hl => match us, hl with | [], _ => rfl
  have F_dolit := fun_mk (st := sD1) l_dolit c_dolit k_dolit
  have b_dolit := F_dolit.binds (ps := ["board", "x", "words"]) fun _ _ _ _ _ _ us hl => match us, hl with | [_, _, _], _ => rfl
  have F_doget := fun_mk (st := sD2) l_doget c_doget k_doget
  have b_doget := F_doget.binds (ps := ["board", "x", "words"]) fun _ _ _ _ _ _ us hl => match us, hl with | [_, _, _], _ => rfl
  have F_doput := fun_mk (st := sD3) l_doput c_doput k_doput
  have b_doput := F_doput.binds (ps := ["board", "x", "words"]) fun _ _ _ _ _ _ us hl => match us, hl with | [_, _, _], _ => rfl
  have F_doadd := fun_mk (st := sD4) l_doadd c_doadd k_doadd
  have b_doadd := F_doadd.binds (ps := ["board", "x", "words"]) fun _ _ _ _ _ _ us hl => match us, hl with | [_, _, _], _ => rfl
  have F_dosub := fun_mk (st := sD5) l_dosub c_dosub k_dosub
  have b_dosub := F_dosub.binds (ps := ["board", "x", "words"]) fun _ _ _ _ _ _ us hl => match us, hl with | [_, _, _], _ => rfl
  have F_doand := fun_mk (st := sD6) l_doand c_doand k_doand
  have b_doand := F_doand.binds (ps := ["board", "x", "words"]) fun _ _ _ _ _ _ us hl => match us, hl with | [_, _, _], _ => rfl
  have F_doxor := fun_mk (st := sD7) l_doxor c_doxor k_doxor
  have b_doxor := F_doxor.binds (ps := ["board", "x", "words"]) fun _ _ _ _ _ _ us hl => match us, hl with | [_, _, _], _ => rfl
  have F_doputb := fun_mk (st := sD9) l_doputb c_doputb k_doputb
  have b_doputb := F_doputb.binds (ps := ["board", "x", "words"]) fun _ _ _ _ _ _ us hl => match us, hl with | [_, _, _], _ => rfl
  have F_dotob := fun_mk (st := sD10) l_dotob c_dotob k_dotob
  have b_dotob := F_dotob.binds (ps := ["board", "x", "words"]) fun _ _ _ _ _ _ us hl => match us, hl with | [_, _, _], _ => rfl
  have F_doswap := fun_mk (st := sD11) l_doswap c_doswap k_doswap
  have b_doswap := F_doswap.binds (ps := ["board", "x", "words"]) fun _ _ _ _ _ _ us hl => match us, hl with | [_, _, _], _ => rfl
  have F_dogo := fun_mk (st := sD12) l_dogo c_dogo k_dogo
  have b_dogo := F_dogo.binds (ps := ["board", "x", "words"]) fun _ _ _ _ _ _ us hl => match us, hl with | [_, _, _], _ => rfl
  have F_doifz := fun_mk (st := sD13) l_doifz c_doifz k_doifz
  have b_doifz := F_doifz.binds (ps := ["board", "x", "words"]) fun _ _ _ _ _ _ us hl => match us, hl with | [_, _, _], _ => rfl
  have F_doifn := fun_mk (st := sD14) l_doifn c_doifn k_doifn
  have b_doifn := F_doifn.binds (ps := ["board", "x", "words"]) fun _ _ _ _ _ _ us hl => match us, hl with | [_, _, _], _ => rfl
  have F_docall := fun_mk (st := sD15) l_docall c_docall k_docall
  have b_docall := F_docall.binds (ps := ["board", "x", "words"]) fun _ _ _ _ _ _ us hl => match us, hl with | [_, _, _], _ => rfl
  have F_doret := fun_mk (st := sD16) l_doret c_doret k_doret
  have b_doret := F_doret.binds (ps := ["board", "x", "words"]) fun _ _ _ _ _ _ us hl => match us, hl with | [_, _, _], _ => rfl
  have F_dopush := fun_mk (st := sD17) l_dopush c_dopush k_dopush
  have b_dopush := F_dopush.binds (ps := ["board", "x", "words"]) fun _ _ _ _ _ _ us hl => match us, hl with | [_, _, _], _ => rfl
  have F_dopop := fun_mk (st := sD18) l_dopop c_dopop k_dopop
  have b_dopop := F_dopop.binds (ps := ["board", "x", "words"]) fun _ _ _ _ _ _ us hl => match us, hl with | [_, _, _], _ => rfl
  have F_dosleep := fun_mk (st := sD19) l_dosleep c_dosleep k_dosleep
  have b_dosleep := F_dosleep.binds (ps := ["board", "x", "words"]) fun _ _ _ _ _ _ us hl => match us, hl with | [_, _, _], _ => rfl
  have F_dolet := fun_mk (st := sD20) l_dolet c_dolet k_dolet
  have b_dolet := F_dolet.binds (ps := ["board", "x", "words"]) fun _ _ _ _ _ _ us hl => match us, hl with | [_, _, _], _ => rfl
  have F_doback := fun_mk (st := sD21) l_doback c_doback k_doback
  have b_doback := F_doback.binds (ps := ["board", "x", "words"]) fun _ _ _ _ _ _ us hl => match us, hl with | [_, _, _], _ => rfl
  have F_dohalf := fun_mk (st := sD22) l_dohalf c_dohalf k_dohalf
  have b_dohalf := F_dohalf.binds (ps := ["board", "x", "words"]) fun _ _ _ _ _ _ us hl => match us, hl with | [_, _, _], _ => rfl
  have F_lawdigits := fun_mk (st := sLdig) l_lawdigits c_lawdigits k_lawdigits
  have b_lawdigits := F_lawdigits.binds (ps := ["_law_cell_here", "_law_many"]) fun _ _ _ _ _ _ us hl => match us, hl with | [_, _], _ => rfl
  have F_lawimageof := fun_mk (st := sLimg) l_lawimageof c_lawimageof k_lawimageof
  have b_lawimageof := F_lawimageof.binds (ps := ["_law_row"]) fun _ _ _ _ _ _ us hl => match us, hl with | [_], _ => rfl
  have F_lawlineof := fun_mk (st := sLlin) l_lawlineof c_lawlineof k_lawlineof
  have b_lawlineof := F_lawlineof.binds (ps := ["_law_row"]) fun _ _ _ _ _ _ us hl => match us, hl with | [_], _ => rfl
  have F_lawstand := fun_mk (st := sLstd) l_lawstand c_lawstand k_lawstand
  have b_lawstand := F_lawstand.binds (ps := ["_law_board"]) fun _ _ _ _ _ _ us hl => match us, hl with | [_], _ => rfl
  have F_lawbegan := fun_mk (st := sLbeg) l_lawbegan c_lawbegan k_lawbegan
  have b_lawbegan := F_lawbegan.binds (ps := ["_law_board", "_law_ahead", "_law_due", "_law_first", "_law_second"]) fun _ _ _ _ _ _ us hl => match us, hl with | [_, _, _, _, _], _ => rfl
  have F_law := fun_mk (st := sLaw) l_law c_law k_law
  have F_CMinit := fun_mk (st := sCmem) l_CMinit c_CMinit k_CMinit
  have b_CMinit := F_CMinit.binds (ps := ["self", "image"]) fun _ _ _ _ _ _ us hl => match us, hl with | [_, _], _ => rfl
  have F_CMwordat := fun_mk (st := sMat) l_CMwordat c_CMwordat k_CMwordat
  have b_CMwordat := F_CMwordat.binds (ps := ["self", "address"]) fun _ _ _ _ _ _ us hl => match us, hl with | [_, _], _ => rfl
  have F_CMread := fun_mk (st := sMread) l_CMread c_CMread k_CMread
  have b_CMread := F_CMread.binds (ps := ["self", "address", "pc"]) fun _ _ _ _ _ _ us hl => match us, hl with | [_, _, _], _ => rfl
  have F_CMput := fun_mk (st := sMput) l_CMput c_CMput k_CMput
  have b_CMput := F_CMput.binds (ps := ["self", "address", "word"]) fun _ _ _ _ _ _ us hl => match us, hl with | [_, _, _], _ => rfl
  have F_CMcalledflags := fun_mk (st := sMcalled) l_CMcalledflags c_CMcalledflags k_CMcalledflags
  have b_CMcalledflags := F_CMcalledflags.binds (ps := ["self"]) fun _ _ _ _ _ _ us hl => match us, hl with | [_], _ => rfl
  have F_CMtakeline := fun_mk (st := sMtake) l_CMtakeline c_CMtakeline k_CMtakeline
  have b_CMtakeline := F_CMtakeline.binds (ps := ["self", "value"]) fun _ _ _ _ _ _ us hl => match us, hl with | [_, _], _ => rfl
  have F_CMgotimer := fun_mk (st := sMtimer) l_CMgotimer c_CMgotimer k_CMgotimer
  have b_CMgotimer := F_CMgotimer.binds (ps := ["self"]) fun _ _ _ _ _ _ us hl => match us, hl with | [_], _ => rfl
  have F_CBinit := fun_mk (st := sCboard) l_CBinit c_CBinit k_CBinit
  have b_CBinit := F_CBinit.binds (ps := ["self", "image", "line"]) fun _ _ _ _ _ _ us hl => match us, hl with | [_, _, _], _ => rfl
  have F_CBcoming := fun_mk (st := sMcoming) l_CBcoming c_CBcoming k_CBcoming
  have b_CBcoming := F_CBcoming.binds (ps := ["self"]) fun _ _ _ _ _ _ us hl => match us, hl with | [_], _ => rfl
  have F_CBturn := fun_mk (st := sMturn) l_CBturn c_CBturn k_CBturn
  have b_CBturn := F_CBturn.binds (ps := ["self"]) fun _ _ _ _ _ _ us hl => match us, hl with | [_], _ => rfl
  have F_CBbegininterrupt := fun_mk (st := sMbegin) l_CBbegininterrupt c_CBbegininterrupt k_CBbegininterrupt
  have b_CBbegininterrupt := F_CBbegininterrupt.binds (ps := ["self"]) fun _ _ _ _ _ _ us hl => match us, hl with | [_], _ => rfl
  have F_CBdodeed := fun_mk (st := sMdo) l_CBdodeed c_CBdodeed k_CBdodeed
  have b_CBdodeed := F_CBdodeed.binds (ps := ["self"]) fun _ _ _ _ _ _ us hl => match us, hl with | [_], _ => rfl
  have F_CBmaytouch := fun_mk (st := sMmay) l_CBmaytouch c_CBmaytouch k_CBmaytouch
  have b_CBmaytouch := F_CBmaytouch.binds (ps := ["self", "touches"]) fun _ _ _ _ _ _ us hl => match us, hl with | [_, _], _ => rfl
  have F_CBstop := fun_mk (st := sMstop) l_CBstop c_CBstop k_CBstop
  have b_CBstop := F_CBstop.binds (ps := ["self", "stop"]) fun _ _ _ _ _ _ us hl => match us, hl with | [_, _], _ => rfl
  have F_CBputbyturn := fun_mk (st := sMpbt) l_CBputbyturn c_CBputbyturn k_CBputbyturn
  have b_CBputbyturn := F_CBputbyturn.binds (ps := ["self", "address", "word"]) fun _ _ _ _ _ _ us hl => match us, hl with | [_, _, _], _ => rfl
  have F_CBputword := fun_mk (st := sMpw) l_CBputword c_CBputword k_CBputword
  have b_CBputword := F_CBputword.binds (ps := ["self", "address", "word"]) fun _ _ _ _ _ _ us hl => match us, hl with | [_, _, _], _ => rfl
  have F_CBpassbeats := fun_mk (st := sMpass) l_CBpassbeats c_CBpassbeats k_CBpassbeats
  have b_CBpassbeats := F_CBpassbeats.binds (ps := ["self", "many"]) fun _ _ _ _ _ _ us hl => match us, hl with | [_, _], _ => rfl
  have F_CBcomeline := fun_mk (st := sMcome) l_CBcomeline c_CBcomeline k_CBcomeline
  have b_CBcomeline := F_CBcomeline.binds (ps := ["self"]) fun _ _ _ _ _ _ us hl => match us, hl with | [_], _ => rfl
  refine ⟨PySem.W.fnOf "law" "law" (defArgs sLaw) (defBody sLaw) (defScope sLaw) .none kV_law dc_law pm_law an_law cd_law ct_law, fun s v => .of_eq rfl, fun base _ _ => ?_⟩
  have X_F_bar : CalF l.prog w K mg base 1 "bar_of" ["kind", "address"] (spBar) _ _ := ⟨PySem.W.mg_of X G a_barof, k_barof, b_barof, ok_Fbar F_barof T⟩
  have X_M_at : CalM l.prog w K mg base CM 1 "word_at" ["self", "address"] (spMAt CM) _ _ := ⟨⟨pgCM, hdCM, poCM, saCM⟩, ⟨a_CMwordat, i_CMwordat, k_CMwordat⟩, b_CMwordat, ok_Mat F_CMwordat T⟩
  have X_M_read : CalM l.prog w K mg base CM 1 "read" ["self", "address", "pc"] (spMRead CM) _ _ := ⟨⟨pgCM, hdCM, poCM, saCM⟩, ⟨a_CMread, i_CMread, k_CMread⟩, b_CMread, ok_Mread F_CMread T⟩
  have X_M_put : CalM l.prog w K mg base CM 1 "put" ["self", "address", "word"] (spMPut CM) _ _ := ⟨⟨pgCM, hdCM, poCM, saCM⟩, ⟨a_CMput, i_CMput, k_CMput⟩, b_CMput, ok_Mput F_CMput T⟩
  have X_M_called : CalM l.prog w K mg base CM 1 "called_flags" ["self"] (spMCall CM) _ _ := ⟨⟨pgCM, hdCM, poCM, saCM⟩, ⟨a_CMcalledflags, i_CMcalledflags, k_CMcalledflags⟩, b_CMcalledflags, ok_Mcalled F_CMcalledflags T⟩
  have X_M_take : CalM l.prog w K mg base CM 1 "take_line" ["self", "value"] (spMTake CM) _ _ := ⟨⟨pgCM, hdCM, poCM, saCM⟩, ⟨a_CMtakeline, i_CMtakeline, k_CMtakeline⟩, b_CMtakeline, ok_Mtake F_CMtakeline T⟩
  have X_M_timer : CalM l.prog w K mg base CM 1 "go_timer" ["self"] (spMTim CM) _ _ := ⟨⟨pgCM, hdCM, poCM, saCM⟩, ⟨a_CMgotimer, i_CMgotimer, k_CMgotimer⟩, b_CMgotimer, ok_Mtimer F_CMgotimer T⟩
  have X_F_whole : CalF l.prog w K mg base 1 "is_whole" ["thing"] (spWhole) _ _ := ⟨PySem.W.mg_of X G a_iswhole, k_iswhole, b_iswhole, ok_Fwhole F_iswhole T⟩
  have X_F_betw : CalF l.prog w K mg base 2 "is_between" ["thing", "least", "greatest"] (spBetw) _ _ := ⟨PySem.W.mg_of X G a_isbetween, k_isbetween, b_isbetween, ok_Fbetw F_isbetween T X_F_whole⟩
  have X_F_word : CalF l.prog w K mg base 3 "is_word" ["thing"] (spWord) _ _ := ⟨PySem.W.mg_of X G a_isword, k_isword, b_isword, ok_Fword F_isword T X_F_betw⟩
  have X_F_image : CalF l.prog w K mg base 4 "is_image" ["thing"] (spImg) _ _ := ⟨PySem.W.mg_of X G a_isimage, k_isimage, b_isimage, ok_Fimage F_isimage T X_F_word⟩
  have X_F_lrow : CalF l.prog w K mg base 3 "is_line_row" ["row", "last"] (spLRow) _ _ := ⟨PySem.W.mg_of X G a_islinerow, k_islinerow, b_islinerow, ok_Flrow F_islinerow T X_F_betw X_F_whole⟩
  have X_F_line : CalF l.prog w K mg base 4 "is_line" ["thing"] (spLine) _ _ := ⟨PySem.W.mg_of X G a_isline, k_isline, b_isline, ok_Fline F_isline T X_F_lrow⟩
  have X_C_mem : CalC l.prog w K mg base CM 1 "Memory" ["self", "image"] (spMI CM) _ _ := ⟨⟨mkCM, a_CMinit, i_CMinit, kcCM⟩, PySem.W.mg_of X G aCM, b_CMinit, ok_Cmem F_CMinit T⟩
  have X_F_tou : CalF l.prog w K mg base 1 "touches_of" ["name", "x", "registers"] (spTou) _ _ := ⟨PySem.W.mg_of X G a_touchesof, k_touchesof, b_touchesof, ok_Ftou F_touchesof T⟩
  have X_F_give : CalF l.prog w K mg base 1 "give" ["board", "word"] (spGive CB CM) _ _ := ⟨PySem.W.mg_of X G a_give, k_give, b_give, ok_Fgive F_give T⟩
  have X_M_pw : CalM l.prog w K mg base CB 2 "put_word" ["self", "address", "word"] (spPw CB CM) _ _ := ⟨⟨pgCB, hdCB, poCB, saCB⟩, ⟨a_CBputword, i_CBputword, k_CBputword⟩, b_CBputword, ok_Mpw F_CBputword T X_M_put⟩
  have X_M_pbt : CalM l.prog w K mg base CB 3 "put_by_turn" ["self", "address", "word"] (spPw CB CM) _ _ := ⟨⟨pgCB, hdCB, poCB, saCB⟩, ⟨a_CBputbyturn, i_CBputbyturn, k_CBputbyturn⟩, b_CBputbyturn, ok_Mpbt F_CBputbyturn T X_M_pw⟩
  have FD : DoF l.prog w K mg base CB CM (fun op => match op with | 1 => f_dolit | 2 => f_doget | 3 => f_doput | 4 => f_doadd | 5 => f_dosub | 6 => f_doand | 7 => f_doxor | 8 => f_doget | 9 => f_doputb | 10 => f_dotob | 11 => f_doswap | 12 => f_dogo | 13 => f_doifz | 14 => f_doifn | 15 => f_docall | 16 => f_doret | 17 => f_dopush | 18 => f_dopop | 19 => f_dosleep | 20 => f_dolet | 21 => f_doback | _ => f_dohalf) (fun op => match op with | 1 => PySem.W.fnOf "do_lit" "do_lit" (defArgs sD1) (defBody sD1) (defScope sD1) .none kV_dolit dc_dolit pm_dolit an_dolit cd_dolit ct_dolit | 2 => PySem.W.fnOf "do_get" "do_get" (defArgs sD2) (defBody sD2) (defScope sD2) .none kV_doget dc_doget pm_doget an_doget cd_doget ct_doget | 3 => PySem.W.fnOf "do_put" "do_put" (defArgs sD3) (defBody sD3) (defScope sD3) .none kV_doput dc_doput pm_doput an_doput cd_doput ct_doput | 4 => PySem.W.fnOf "do_add" "do_add" (defArgs sD4) (defBody sD4) (defScope sD4) .none kV_doadd dc_doadd pm_doadd an_doadd cd_doadd ct_doadd | 5 => PySem.W.fnOf "do_sub" "do_sub" (defArgs sD5) (defBody sD5) (defScope sD5) .none kV_dosub dc_dosub pm_dosub an_dosub cd_dosub ct_dosub | 6 => PySem.W.fnOf "do_and" "do_and" (defArgs sD6) (defBody sD6) (defScope sD6) .none kV_doand dc_doand pm_doand an_doand cd_doand ct_doand | 7 => PySem.W.fnOf "do_xor" "do_xor" (defArgs sD7) (defBody sD7) (defScope sD7) .none kV_doxor dc_doxor pm_doxor an_doxor cd_doxor ct_doxor | 8 => PySem.W.fnOf "do_get" "do_get" (defArgs sD2) (defBody sD2) (defScope sD2) .none kV_doget dc_doget pm_doget an_doget cd_doget ct_doget | 9 => PySem.W.fnOf "do_putb" "do_putb" (defArgs sD9) (defBody sD9) (defScope sD9) .none kV_doputb dc_doputb pm_doputb an_doputb cd_doputb ct_doputb | 10 => PySem.W.fnOf "do_tob" "do_tob" (defArgs sD10) (defBody sD10) (defScope sD10) .none kV_dotob dc_dotob pm_dotob an_dotob cd_dotob ct_dotob | 11 => PySem.W.fnOf "do_swap" "do_swap" (defArgs sD11) (defBody sD11) (defScope sD11) .none kV_doswap dc_doswap pm_doswap an_doswap cd_doswap ct_doswap | 12 => PySem.W.fnOf "do_go" "do_go" (defArgs sD12) (defBody sD12) (defScope sD12) .none kV_dogo dc_dogo pm_dogo an_dogo cd_dogo ct_dogo | 13 => PySem.W.fnOf "do_ifz" "do_ifz" (defArgs sD13) (defBody sD13) (defScope sD13) .none kV_doifz dc_doifz pm_doifz an_doifz cd_doifz ct_doifz | 14 => PySem.W.fnOf "do_ifn" "do_ifn" (defArgs sD14) (defBody sD14) (defScope sD14) .none kV_doifn dc_doifn pm_doifn an_doifn cd_doifn ct_doifn | 15 => PySem.W.fnOf "do_call" "do_call" (defArgs sD15) (defBody sD15) (defScope sD15) .none kV_docall dc_docall pm_docall an_docall cd_docall ct_docall | 16 => PySem.W.fnOf "do_ret" "do_ret" (defArgs sD16) (defBody sD16) (defScope sD16) .none kV_doret dc_doret pm_doret an_doret cd_doret ct_doret | 17 => PySem.W.fnOf "do_push" "do_push" (defArgs sD17) (defBody sD17) (defScope sD17) .none kV_dopush dc_dopush pm_dopush an_dopush cd_dopush ct_dopush | 18 => PySem.W.fnOf "do_pop" "do_pop" (defArgs sD18) (defBody sD18) (defScope sD18) .none kV_dopop dc_dopop pm_dopop an_dopop cd_dopop ct_dopop | 19 => PySem.W.fnOf "do_sleep" "do_sleep" (defArgs sD19) (defBody sD19) (defScope sD19) .none kV_dosleep dc_dosleep pm_dosleep an_dosleep cd_dosleep ct_dosleep | 20 => PySem.W.fnOf "do_let" "do_let" (defArgs sD20) (defBody sD20) (defScope sD20) .none kV_dolet dc_dolet pm_dolet an_dolet cd_dolet ct_dolet | 21 => PySem.W.fnOf "do_back" "do_back" (defArgs sD21) (defBody sD21) (defScope sD21) .none kV_doback dc_doback pm_doback an_doback cd_doback ct_doback | _ => PySem.W.fnOf "do_half" "do_half" (defArgs sD22) (defBody sD22) (defScope sD22) .none kV_dohalf dc_dohalf pm_dohalf an_dohalf cd_dohalf ct_dohalf) := {
    G := fun op h1 h2 => match op, h1, h2 with
      | 1, _, _ => ok_D1 F_dolit T X_F_give
      | 2, _, _ => ok_D2 F_doget T X_F_give
      | 3, _, _ => ok_D3 F_doput T X_M_pbt
      | 4, _, _ => ok_D4 F_doadd T X_F_give
      | 5, _, _ => ok_D5 F_dosub T X_F_give
      | 6, _, _ => ok_D6 F_doand T X_F_give
      | 7, _, _ => ok_D7 F_doxor T X_F_give
      | 8, _, _ => ok_D8 F_doget T X_F_give
      | 9, _, _ => ok_D9 F_doputb T X_M_pbt
      | 10, _, _ => ok_D10 F_dotob T 
      | 11, _, _ => ok_D11 F_doswap T X_F_give
      | 12, _, _ => ok_D12 F_dogo T 
      | 13, _, _ => ok_D13 F_doifz T 
      | 14, _, _ => ok_D14 F_doifn T 
      | 15, _, _ => ok_D15 F_docall T X_M_pbt
      | 16, _, _ => ok_D16 F_doret T 
      | 17, _, _ => ok_D17 F_dopush T X_M_pbt
      | 18, _, _ => ok_D18 F_dopop T X_F_give
      | 19, _, _ => ok_D19 F_dosleep T 
      | 20, _, _ => ok_D20 F_dolet T 
      | 21, _, _ => ok_D21 F_doback T 
      | 22, _, _ => ok_D22 F_dohalf T X_F_give
      | 0, h, _ => by omega
      | n + 23, _, h => by omega
    kp := fun op h1 h2 => match op, h1, h2 with
      | 1, _, _ => k_dolit
      | 2, _, _ => k_doget
      | 3, _, _ => k_doput
      | 4, _, _ => k_doadd
      | 5, _, _ => k_dosub
      | 6, _, _ => k_doand
      | 7, _, _ => k_doxor
      | 8, _, _ => k_doget
      | 9, _, _ => k_doputb
      | 10, _, _ => k_dotob
      | 11, _, _ => k_doswap
      | 12, _, _ => k_dogo
      | 13, _, _ => k_doifz
      | 14, _, _ => k_doifn
      | 15, _, _ => k_docall
      | 16, _, _ => k_doret
      | 17, _, _ => k_dopush
      | 18, _, _ => k_dopop
      | 19, _, _ => k_dosleep
      | 20, _, _ => k_dolet
      | 21, _, _ => k_doback
      | 22, _, _ => k_dohalf
      | 0, h, _ => by omega
      | n + 23, _, h => by omega
    b := fun op h1 h2 => match op, h1, h2 with
      | 1, _, _ => b_dolit
      | 2, _, _ => b_doget
      | 3, _, _ => b_doput
      | 4, _, _ => b_doadd
      | 5, _, _ => b_dosub
      | 6, _, _ => b_doand
      | 7, _, _ => b_doxor
      | 8, _, _ => b_doget
      | 9, _, _ => b_doputb
      | 10, _, _ => b_dotob
      | 11, _, _ => b_doswap
      | 12, _, _ => b_dogo
      | 13, _, _ => b_doifz
      | 14, _, _ => b_doifn
      | 15, _, _ => b_docall
      | 16, _, _ => b_doret
      | 17, _, _ => b_dopush
      | 18, _, _ => b_dopop
      | 19, _, _ => b_dosleep
      | 20, _, _ => b_dolet
      | 21, _, _ => b_doback
      | 22, _, _ => b_dohalf
      | 0, h, _ => by omega
      | n + 23, _, h => by omega
    D := ⟨aD, PySem.W.mg_of X G g_aD, fun op h1 h2 => match op, h1, h2 with
      | 1, _, _ => ⟨es_aD, n_aD, _, l_aD, kl_aD, d_lit, rfl⟩
      | 2, _, _ => ⟨es_aD, n_aD, _, l_aD, kl_aD, d_get, rfl⟩
      | 3, _, _ => ⟨es_aD, n_aD, _, l_aD, kl_aD, d_put, rfl⟩
      | 4, _, _ => ⟨es_aD, n_aD, _, l_aD, kl_aD, d_add, rfl⟩
      | 5, _, _ => ⟨es_aD, n_aD, _, l_aD, kl_aD, d_sub, rfl⟩
      | 6, _, _ => ⟨es_aD, n_aD, _, l_aD, kl_aD, d_and, rfl⟩
      | 7, _, _ => ⟨es_aD, n_aD, _, l_aD, kl_aD, d_xor, rfl⟩
      | 8, _, _ => ⟨es_aD, n_aD, _, l_aD, kl_aD, d_getb, rfl⟩
      | 9, _, _ => ⟨es_aD, n_aD, _, l_aD, kl_aD, d_putb, rfl⟩
      | 10, _, _ => ⟨es_aD, n_aD, _, l_aD, kl_aD, d_tob, rfl⟩
      | 11, _, _ => ⟨es_aD, n_aD, _, l_aD, kl_aD, d_swap, rfl⟩
      | 12, _, _ => ⟨es_aD, n_aD, _, l_aD, kl_aD, d_go, rfl⟩
      | 13, _, _ => ⟨es_aD, n_aD, _, l_aD, kl_aD, d_ifz, rfl⟩
      | 14, _, _ => ⟨es_aD, n_aD, _, l_aD, kl_aD, d_ifn, rfl⟩
      | 15, _, _ => ⟨es_aD, n_aD, _, l_aD, kl_aD, d_call, rfl⟩
      | 16, _, _ => ⟨es_aD, n_aD, _, l_aD, kl_aD, d_ret, rfl⟩
      | 17, _, _ => ⟨es_aD, n_aD, _, l_aD, kl_aD, d_push, rfl⟩
      | 18, _, _ => ⟨es_aD, n_aD, _, l_aD, kl_aD, d_pop, rfl⟩
      | 19, _, _ => ⟨es_aD, n_aD, _, l_aD, kl_aD, d_sleep, rfl⟩
      | 20, _, _ => ⟨es_aD, n_aD, _, l_aD, kl_aD, d_let, rfl⟩
      | 21, _, _ => ⟨es_aD, n_aD, _, l_aD, kl_aD, d_back, rfl⟩
      | 22, _, _ => ⟨es_aD, n_aD, _, l_aD, kl_aD, d_half, rfl⟩
      | 0, h, _ => by omega
      | n + 23, _, h => by omega⟩ }
  have X_M_come : CalM l.prog w K mg base CB 2 "come_line" ["self"] (spCome CB CM) _ _ := ⟨⟨pgCB, hdCB, poCB, saCB⟩, ⟨a_CBcomeline, i_CBcomeline, k_CBcomeline⟩, b_CBcomeline, ok_Mcome F_CBcomeline T X_M_take⟩
  have X_M_pass : CalM l.prog w K mg base CB 3 "pass_beats" ["self", "many"] (spPass CB CM) _ _ := ⟨⟨pgCB, hdCB, poCB, saCB⟩, ⟨a_CBpassbeats, i_CBpassbeats, k_CBpassbeats⟩, b_CBpassbeats, ok_Mpass F_CBpassbeats T X_M_come X_M_timer⟩
  have X_M_stop : CalM l.prog w K mg base CB 1 "stop" ["self", "stop"] (spStop CB CM) _ _ := ⟨⟨pgCB, hdCB, poCB, saCB⟩, ⟨a_CBstop, i_CBstop, k_CBstop⟩, b_CBstop, ok_Mstop F_CBstop T⟩
  have X_M_may : CalM l.prog w K mg base CB 2 "may_touch" ["self", "touches"] (spMay CB CM) _ _ := ⟨⟨pgCB, hdCB, poCB, saCB⟩, ⟨a_CBmaytouch, i_CBmaytouch, k_CBmaytouch⟩, b_CBmaytouch, ok_Mmay F_CBmaytouch T X_F_bar X_M_stop⟩
  have X_M_coming : CalM l.prog w K mg base CB 2 "coming" ["self"] (spComing CB CM) _ _ := ⟨⟨pgCB, hdCB, poCB, saCB⟩, ⟨a_CBcoming, i_CBcoming, k_CBcoming⟩, b_CBcoming, ok_Mcoming F_CBcoming T X_M_called⟩
  have X_M_begin : CalM l.prog w K mg base CB 4 "begin_interrupt" ["self"] (spBegin CB CM) _ _ := ⟨⟨pgCB, hdCB, poCB, saCB⟩, ⟨a_CBbegininterrupt, i_CBbegininterrupt, k_CBbegininterrupt⟩, b_CBbegininterrupt, ok_Mbegin F_CBbegininterrupt T X_M_called X_M_may X_M_pass X_M_pbt⟩
  have X_M_do : CalM l.prog w K mg base CB 5 "do_deed" ["self"] (spDeed CB CM) _ _ := ⟨⟨pgCB, hdCB, poCB, saCB⟩, ⟨a_CBdodeed, i_CBdodeed, k_CBdodeed⟩, b_CBdodeed, ok_Mdo F_CBdodeed T X_F_tou X_M_may X_M_pass X_M_read X_M_stop FD⟩
  have X_M_turn : CalM l.prog w K mg base CB 6 "turn" ["self"] (spTurn CB CM) _ _ := ⟨⟨pgCB, hdCB, poCB, saCB⟩, ⟨a_CBturn, i_CBturn, k_CBturn⟩, b_CBturn, ok_Mturn F_CBturn T X_M_begin X_M_coming X_M_do X_M_pass⟩
  have X_F_first : CalF l.prog w K mg base 1 "first_registers" [] (spFirst) _ _ := ⟨PySem.W.mg_of X G a_firstregisters, k_firstregisters, b_firstregisters, ok_Ffirst F_firstregisters T⟩
  have X_C_board : CalC l.prog w K mg base CB 6 "Board" ["self", "image", "line"] (spBI CB CM) _ _ := ⟨⟨mkCB, a_CBinit, i_CBinit, kcCB⟩, PySem.W.mg_of X G aCB, b_CBinit, ok_Cboard F_CBinit T X_C_mem X_F_first X_F_image X_F_line⟩
  have X_L_dig : CalF l.prog w K mg base 1 "_law_digits" ["_law_cell_here", "_law_many"] (spDig) _ _ := ⟨PySem.W.mg_of X G a_lawdigits, k_lawdigits, b_lawdigits, ok_Ldig F_lawdigits T⟩
  have X_L_img : CalF l.prog w K mg base 1 "_law_image_of" ["_law_row"] (spImg16) _ _ := ⟨PySem.W.mg_of X G a_lawimageof, k_lawimageof, b_lawimageof, ok_Limg F_lawimageof T⟩
  have X_L_lin : CalF l.prog w K mg base 1 "_law_line_of" ["_law_row"] (spLin16) _ _ := ⟨PySem.W.mg_of X G a_lawlineof, k_lawlineof, b_lawlineof, ok_Llin F_lawlineof T⟩
  have X_L_std : CalF l.prog w K mg base 1 "_law_stand" ["_law_board"] (spStd CB CM) _ _ := ⟨PySem.W.mg_of X G a_lawstand, k_lawstand, b_lawstand, ok_Lstd F_lawstand T⟩
  have X_L_beg : CalF l.prog w K mg base 2 "_law_began" ["_law_board", "_law_ahead", "_law_due", "_law_first", "_law_second"] (spBeg CB CM) _ _ := ⟨PySem.W.mg_of X G a_lawbegan, k_lawbegan, b_lawbegan, ok_Lbeg F_lawbegan T X_L_std X_M_at⟩
  exact ok_Llaw F_law T X_C_board X_L_beg X_L_dig X_L_img X_L_lin X_L_std X_M_at X_M_turn (PySem.W.mg_none_of X G z_min) (PySem.W.mg_none_of X G z_sum)
end Bh

open PySem PySem.W PyProof.Rows in
set_option maxRecDepth 100000 in
set_option maxHeartbeats 0 in
theorem PySem.Challenge.cw_boardheld_k16_interrupts_holds : PySem.Challenge.rw_boardheld_k16_interrupts.Holds := by
  w_on; o_law; k_head; (case hw => w_witness2)
  k_fill
  refine L2.walk_of (l := PySem.Challenge.rw_boardheld_k16_interrupts) (n := 63) (k := 8) (x := "_law_script") (CX := fun _ => L2.CX0) (sp := fun w => Bh.spLaw _) rfl (by decide) rfl ⟨rfl, by decide, by decide⟩ (fun w h Y => PySem.W.kIn_of Y) ?F (fun _ _ a ns hl _ hS => ⟨a, ns, rfl, hS, hl, fun _ => rfl⟩) (fun _ _ _ _ _ h => h)
  case F =>
    intro w mg fa h KX G hmg
    refine' Bh.all_mk KX G hmg ?a_barof ?l_barof ?c_barof ?k_barof ?a_iswhole ?l_iswhole ?c_iswhole ?k_iswhole ?a_isbetween ?l_isbetween ?c_isbetween ?k_isbetween ?a_isword ?l_isword ?c_isword ?k_isword ?a_isimage ?l_isimage ?c_isimage ?k_isimage ?a_isline ?l_isline ?c_isline ?k_isline ?a_islinerow ?l_islinerow ?c_islinerow ?k_islinerow ?a_touchesof ?l_touchesof ?c_touchesof ?k_touchesof ?a_give ?l_give ?c_give ?k_give ?a_firstregisters ?l_firstregisters ?c_firstregisters ?k_firstregisters ?a_dolit ?l_dolit ?c_dolit ?k_dolit ?a_doget ?l_doget ?c_doget ?k_doget ?a_doput ?l_doput ?c_doput ?k_doput ?a_doadd ?l_doadd ?c_doadd ?k_doadd ?a_dosub ?l_dosub ?c_dosub ?k_dosub ?a_doand ?l_doand ?c_doand ?k_doand ?a_doxor ?l_doxor ?c_doxor ?k_doxor ?a_doputb ?l_doputb ?c_doputb ?k_doputb ?a_dotob ?l_dotob ?c_dotob ?k_dotob ?a_doswap ?l_doswap ?c_doswap ?k_doswap ?a_dogo ?l_dogo ?c_dogo ?k_dogo ?a_doifz ?l_doifz ?c_doifz ?k_doifz ?a_doifn ?l_doifn ?c_doifn ?k_doifn ?a_docall ?l_docall ?c_docall ?k_docall ?a_doret ?l_doret ?c_doret ?k_doret ?a_dopush ?l_dopush ?c_dopush ?k_dopush ?a_dopop ?l_dopop ?c_dopop ?k_dopop ?a_dosleep ?l_dosleep ?c_dosleep ?k_dosleep ?a_dolet ?l_dolet ?c_dolet ?k_dolet ?a_doback ?l_doback ?c_doback ?k_doback ?a_dohalf ?l_dohalf ?c_dohalf ?k_dohalf ?a_lawdigits ?l_lawdigits ?c_lawdigits ?k_lawdigits ?a_lawimageof ?l_lawimageof ?c_lawimageof ?k_lawimageof ?a_lawlineof ?l_lawlineof ?c_lawlineof ?k_lawlineof ?a_lawstand ?l_lawstand ?c_lawstand ?k_lawstand ?a_lawbegan ?l_lawbegan ?c_lawbegan ?k_lawbegan ?a_law ?l_law ?c_law ?k_law ?aCM ?a_CMinit ?i_CMinit ?l_CMinit ?c_CMinit ?k_CMinit ?a_CMwordat ?i_CMwordat ?l_CMwordat ?c_CMwordat ?k_CMwordat ?a_CMread ?i_CMread ?l_CMread ?c_CMread ?k_CMread ?a_CMput ?i_CMput ?l_CMput ?c_CMput ?k_CMput ?a_CMcalledflags ?i_CMcalledflags ?l_CMcalledflags ?c_CMcalledflags ?k_CMcalledflags ?a_CMtakeline ?i_CMtakeline ?l_CMtakeline ?c_CMtakeline ?k_CMtakeline ?a_CMgotimer ?i_CMgotimer ?l_CMgotimer ?c_CMgotimer ?k_CMgotimer ?pgCM ?hdCM ?poCM ?saCM ?mkCM ?kcCM ?aCB ?a_CBinit ?i_CBinit ?l_CBinit ?c_CBinit ?k_CBinit ?a_CBcoming ?i_CBcoming ?l_CBcoming ?c_CBcoming ?k_CBcoming ?a_CBturn ?i_CBturn ?l_CBturn ?c_CBturn ?k_CBturn ?a_CBbegininterrupt ?i_CBbegininterrupt ?l_CBbegininterrupt ?c_CBbegininterrupt ?k_CBbegininterrupt ?a_CBdodeed ?i_CBdodeed ?l_CBdodeed ?c_CBdodeed ?k_CBdodeed ?a_CBmaytouch ?i_CBmaytouch ?l_CBmaytouch ?c_CBmaytouch ?k_CBmaytouch ?a_CBstop ?i_CBstop ?l_CBstop ?c_CBstop ?k_CBstop ?a_CBputbyturn ?i_CBputbyturn ?l_CBputbyturn ?c_CBputbyturn ?k_CBputbyturn ?a_CBputword ?i_CBputword ?l_CBputword ?c_CBputword ?k_CBputword ?a_CBpassbeats ?i_CBpassbeats ?l_CBpassbeats ?c_CBpassbeats ?k_CBpassbeats ?a_CBcomeline ?i_CBcomeline ?l_CBcomeline ?c_CBcomeline ?k_CBcomeline ?pgCB ?hdCB ?poCB ?saCB ?mkCB ?kcCB ?n_registers ?n_zero ?n_lets ?n_asleep ?n_beat ?n_stopped ?n_sent ?n_memory ?n_line ?n_line_at ?n_touched ?n_did ?n_bend ?n_words ?n_swapped ?g_FLASH_END ?g_RAM_END ?g_PLACES_END ?g_COUNT ?g_TOP ?g_FLAGS ?g_MASK ?g_LINE_IN ?g_LINE_OUT ?g_TIMER_FLAG ?g_LINE_FLAG ?g_WORD_MOST ?g_ERASED ?g_X_SPAN ?g_LINE_MOST ?g_STACK_TOP ?g_INTERRUPT_BEATS ?g_TIMER_PC ?g_LINE_PC ?g_WORDS ?g_HIGH ?g_aR ?l_aR ?v_aR ?g_aO ?l_aO ?v_aO ?g_aD ?l_aD ?kl_aD ?d_lit ?d_get ?d_put ?d_add ?d_sub ?d_and ?d_xor ?d_getb ?d_putb ?d_tob ?d_swap ?d_go ?d_ifz ?d_ifn ?d_call ?d_ret ?d_push ?d_pop ?d_sleep ?d_let ?d_back ?d_half ?z_len ?z_range ?z_isinstance ?z_all ?z_int ?z_bool ?z_list ?z_tuple ?z_divmod ?z_min ?z_sum
    (case a_barof => k_is)
    (case l_barof => k_is)
    (case c_barof => k_is)
    (case k_barof => k_is)
    (case a_iswhole => k_is)
    (case l_iswhole => k_is)
    (case c_iswhole => k_is)
    (case k_iswhole => k_is)
    (case a_isbetween => k_is)
    (case l_isbetween => k_is)
    (case c_isbetween => k_is)
    (case k_isbetween => k_is)
    (case a_isword => k_is)
    (case l_isword => k_is)
    (case c_isword => k_is)
    (case k_isword => k_is)
    (case a_isimage => k_is)
    (case l_isimage => k_is)
    (case c_isimage => k_is)
    (case k_isimage => k_is)
    (case a_isline => k_is)
    (case l_isline => k_is)
    (case c_isline => k_is)
    (case k_isline => k_is)
    (case a_islinerow => k_is)
    (case l_islinerow => k_is)
    (case c_islinerow => k_is)
    (case k_islinerow => k_is)
    (case a_touchesof => k_is)
    (case l_touchesof => k_is)
    (case c_touchesof => k_is)
    (case k_touchesof => k_is)
    (case a_give => k_is)
    (case l_give => k_is)
    (case c_give => k_is)
    (case k_give => k_is)
    (case a_firstregisters => k_is)
    (case l_firstregisters => k_is)
    (case c_firstregisters => k_is)
    (case k_firstregisters => k_is)
    (case a_dolit => k_is)
    (case l_dolit => k_is)
    (case c_dolit => k_is)
    (case k_dolit => k_is)
    (case a_doget => k_is)
    (case l_doget => k_is)
    (case c_doget => k_is)
    (case k_doget => k_is)
    (case a_doput => k_is)
    (case l_doput => k_is)
    (case c_doput => k_is)
    (case k_doput => k_is)
    (case a_doadd => k_is)
    (case l_doadd => k_is)
    (case c_doadd => k_is)
    (case k_doadd => k_is)
    (case a_dosub => k_is)
    (case l_dosub => k_is)
    (case c_dosub => k_is)
    (case k_dosub => k_is)
    (case a_doand => k_is)
    (case l_doand => k_is)
    (case c_doand => k_is)
    (case k_doand => k_is)
    (case a_doxor => k_is)
    (case l_doxor => k_is)
    (case c_doxor => k_is)
    (case k_doxor => k_is)
    (case a_doputb => k_is)
    (case l_doputb => k_is)
    (case c_doputb => k_is)
    (case k_doputb => k_is)
    (case a_dotob => k_is)
    (case l_dotob => k_is)
    (case c_dotob => k_is)
    (case k_dotob => k_is)
    (case a_doswap => k_is)
    (case l_doswap => k_is)
    (case c_doswap => k_is)
    (case k_doswap => k_is)
    (case a_dogo => k_is)
    (case l_dogo => k_is)
    (case c_dogo => k_is)
    (case k_dogo => k_is)
    (case a_doifz => k_is)
    (case l_doifz => k_is)
    (case c_doifz => k_is)
    (case k_doifz => k_is)
    (case a_doifn => k_is)
    (case l_doifn => k_is)
    (case c_doifn => k_is)
    (case k_doifn => k_is)
    (case a_docall => k_is)
    (case l_docall => k_is)
    (case c_docall => k_is)
    (case k_docall => k_is)
    (case a_doret => k_is)
    (case l_doret => k_is)
    (case c_doret => k_is)
    (case k_doret => k_is)
    (case a_dopush => k_is)
    (case l_dopush => k_is)
    (case c_dopush => k_is)
    (case k_dopush => k_is)
    (case a_dopop => k_is)
    (case l_dopop => k_is)
    (case c_dopop => k_is)
    (case k_dopop => k_is)
    (case a_dosleep => k_is)
    (case l_dosleep => k_is)
    (case c_dosleep => k_is)
    (case k_dosleep => k_is)
    (case a_dolet => k_is)
    (case l_dolet => k_is)
    (case c_dolet => k_is)
    (case k_dolet => k_is)
    (case a_doback => k_is)
    (case l_doback => k_is)
    (case c_doback => k_is)
    (case k_doback => k_is)
    (case a_dohalf => k_is)
    (case l_dohalf => k_is)
    (case c_dohalf => k_is)
    (case k_dohalf => k_is)
    (case a_lawdigits => k_is)
    (case l_lawdigits => k_is)
    (case c_lawdigits => k_is)
    (case k_lawdigits => k_is)
    (case a_lawimageof => k_is)
    (case l_lawimageof => k_is)
    (case c_lawimageof => k_is)
    (case k_lawimageof => k_is)
    (case a_lawlineof => k_is)
    (case l_lawlineof => k_is)
    (case c_lawlineof => k_is)
    (case k_lawlineof => k_is)
    (case a_lawstand => k_is)
    (case l_lawstand => k_is)
    (case c_lawstand => k_is)
    (case k_lawstand => k_is)
    (case a_lawbegan => k_is)
    (case l_lawbegan => k_is)
    (case c_lawbegan => k_is)
    (case k_lawbegan => k_is)
    (case a_law => k_is)
    (case l_law => k_is)
    (case c_law => k_is)
    (case k_law => k_is)
    (case aCM => k_is)
    (case a_CMinit => k_is)
    (case i_CMinit => k_is)
    (case l_CMinit => k_is)
    (case c_CMinit => k_is)
    (case k_CMinit => k_is)
    (case a_CMwordat => k_is)
    (case i_CMwordat => k_is)
    (case l_CMwordat => k_is)
    (case c_CMwordat => k_is)
    (case k_CMwordat => k_is)
    (case a_CMread => k_is)
    (case i_CMread => k_is)
    (case l_CMread => k_is)
    (case c_CMread => k_is)
    (case k_CMread => k_is)
    (case a_CMput => k_is)
    (case i_CMput => k_is)
    (case l_CMput => k_is)
    (case c_CMput => k_is)
    (case k_CMput => k_is)
    (case a_CMcalledflags => k_is)
    (case i_CMcalledflags => k_is)
    (case l_CMcalledflags => k_is)
    (case c_CMcalledflags => k_is)
    (case k_CMcalledflags => k_is)
    (case a_CMtakeline => k_is)
    (case i_CMtakeline => k_is)
    (case l_CMtakeline => k_is)
    (case c_CMtakeline => k_is)
    (case k_CMtakeline => k_is)
    (case a_CMgotimer => k_is)
    (case i_CMgotimer => k_is)
    (case l_CMgotimer => k_is)
    (case c_CMgotimer => k_is)
    (case k_CMgotimer => k_is)
    (case pgCM => k_is)
    (case hdCM => k_is)
    (case poCM => k_is)
    (case saCM => k_is)
    (case mkCM => k_is)
    (case kcCM => k_is)
    (case aCB => k_is)
    (case a_CBinit => k_is)
    (case i_CBinit => k_is)
    (case l_CBinit => k_is)
    (case c_CBinit => k_is)
    (case k_CBinit => k_is)
    (case a_CBcoming => k_is)
    (case i_CBcoming => k_is)
    (case l_CBcoming => k_is)
    (case c_CBcoming => k_is)
    (case k_CBcoming => k_is)
    (case a_CBturn => k_is)
    (case i_CBturn => k_is)
    (case l_CBturn => k_is)
    (case c_CBturn => k_is)
    (case k_CBturn => k_is)
    (case a_CBbegininterrupt => k_is)
    (case i_CBbegininterrupt => k_is)
    (case l_CBbegininterrupt => k_is)
    (case c_CBbegininterrupt => k_is)
    (case k_CBbegininterrupt => k_is)
    (case a_CBdodeed => k_is)
    (case i_CBdodeed => k_is)
    (case l_CBdodeed => k_is)
    (case c_CBdodeed => k_is)
    (case k_CBdodeed => k_is)
    (case a_CBmaytouch => k_is)
    (case i_CBmaytouch => k_is)
    (case l_CBmaytouch => k_is)
    (case c_CBmaytouch => k_is)
    (case k_CBmaytouch => k_is)
    (case a_CBstop => k_is)
    (case i_CBstop => k_is)
    (case l_CBstop => k_is)
    (case c_CBstop => k_is)
    (case k_CBstop => k_is)
    (case a_CBputbyturn => k_is)
    (case i_CBputbyturn => k_is)
    (case l_CBputbyturn => k_is)
    (case c_CBputbyturn => k_is)
    (case k_CBputbyturn => k_is)
    (case a_CBputword => k_is)
    (case i_CBputword => k_is)
    (case l_CBputword => k_is)
    (case c_CBputword => k_is)
    (case k_CBputword => k_is)
    (case a_CBpassbeats => k_is)
    (case i_CBpassbeats => k_is)
    (case l_CBpassbeats => k_is)
    (case c_CBpassbeats => k_is)
    (case k_CBpassbeats => k_is)
    (case a_CBcomeline => k_is)
    (case i_CBcomeline => k_is)
    (case l_CBcomeline => k_is)
    (case c_CBcomeline => k_is)
    (case k_CBcomeline => k_is)
    (case pgCB => k_is)
    (case hdCB => k_is)
    (case poCB => k_is)
    (case saCB => k_is)
    (case mkCB => k_is)
    (case kcCB => k_is)
    (case n_registers => k_is)
    (case n_zero => k_is)
    (case n_lets => k_is)
    (case n_asleep => k_is)
    (case n_beat => k_is)
    (case n_stopped => k_is)
    (case n_sent => k_is)
    (case n_memory => k_is)
    (case n_line => k_is)
    (case n_line_at => k_is)
    (case n_touched => k_is)
    (case n_did => k_is)
    (case n_bend => k_is)
    (case n_words => k_is)
    (case n_swapped => k_is)
    (case g_FLASH_END => k_is)
    (case g_RAM_END => k_is)
    (case g_PLACES_END => k_is)
    (case g_COUNT => k_is)
    (case g_TOP => k_is)
    (case g_FLAGS => k_is)
    (case g_MASK => k_is)
    (case g_LINE_IN => k_is)
    (case g_LINE_OUT => k_is)
    (case g_TIMER_FLAG => k_is)
    (case g_LINE_FLAG => k_is)
    (case g_WORD_MOST => k_is)
    (case g_ERASED => k_is)
    (case g_X_SPAN => k_is)
    (case g_LINE_MOST => k_is)
    (case g_STACK_TOP => k_is)
    (case g_INTERRUPT_BEATS => k_is)
    (case g_TIMER_PC => k_is)
    (case g_LINE_PC => k_is)
    (case g_WORDS => k_is)
    (case g_HIGH => k_is)
    (case g_aR => k_is)
    (case l_aR => k_is)
    (case v_aR => decide +kernel)
    (case g_aO => k_is)
    (case l_aO => k_is)
    (case v_aO => decide +kernel)
    (case g_aD => k_is)
    (case l_aD => k_is)
    (case kl_aD => (repeat (first | exact True.intro | refine ⟨⟨_, _, rfl, rfl⟩, ?_⟩)))
    (case d_lit => k_is)
    (case d_get => k_is)
    (case d_put => k_is)
    (case d_add => k_is)
    (case d_sub => k_is)
    (case d_and => k_is)
    (case d_xor => k_is)
    (case d_getb => k_is)
    (case d_putb => k_is)
    (case d_tob => k_is)
    (case d_swap => k_is)
    (case d_go => k_is)
    (case d_ifz => k_is)
    (case d_ifn => k_is)
    (case d_call => k_is)
    (case d_ret => k_is)
    (case d_push => k_is)
    (case d_pop => k_is)
    (case d_sleep => k_is)
    (case d_let => k_is)
    (case d_back => k_is)
    (case d_half => k_is)
    (case z_len => k_is)
    (case z_range => k_is)
    (case z_isinstance => k_is)
    (case z_all => k_is)
    (case z_int => k_is)
    (case z_bool => k_is)
    (case z_list => k_is)
    (case z_tuple => k_is)
    (case z_divmod => k_is)
    (case z_min => k_is)
    (case z_sum => k_is)

