import PyProof.Rows.All
import Wide.All
import OpenK.AllK
import Wide.FinOn
import HandS.ForMost
import HandS.IsInst
import HandS.ForExc
import HandS.CallLocal
import HandS.More
import PySem.Challenge.RW_boardheld_k18_twins
import KE.BitLaws
import HandS.Style
import HandS.StrMore
import HandS.DeepEq
import HandS.OwnEq
import KE.DataEq
set_option Elab.async false
set_option linter.all false
set_option maxRecDepth 100000
set_option maxHeartbeats 4000000
/-! A board in plain words. -/
namespace Bh
open PySem PySem.Spec PyProof.Rows L2
structure Bd where
  a : Int
  b : Int
  pc : Int
  sp : Int
  zero : Bool
  lets : Bool
  asleep : Bool
  beat : Int
  sent : List (Int × Int)
  mem : List Int
  line : List (Int × Int)
  la : Nat
  stop : Option (Str × List Int)
def rd (m : List Int) (i : Int) : Int := m.getD i.toNat 0
def stM (m : List Int) (i : Int) (v : Int) : List Int := m.set i.toNat v
def takeLineM (v : Int) (m : List Int) : List Int := if rd m 772 % 2 < v % 2 then stM (stM m 772 v) 770 (Builtin.bitOr (rd (stM m 772 v) 770) 2) else stM m 772 v
def goTimerM (m : List Int) : List Int := if rd m 769 = 0 then m else if rd m 769 ≤ rd m 768 + 1 then stM (stM m 770 (Builtin.bitOr (rd m 770) 1)) 768 0 else stM m 768 (rd m 768 + 1)
def putMM (a v : Int) (m : List Int) : List Int := if a = 770 then stM m 770 (Builtin.bitAnd (rd m 770) (65535 - v)) else stM m a v
def comeM (x : Bd) : Bd := if x.la < x.line.length ∧ (x.line.getD x.la (0, 0)).1 = x.beat then { x with mem := takeLineM (x.line.getD x.la (0, 0)).2 x.mem, la := x.la + 1 } else x
def passOneM (x : Bd) : Bd := { comeM { x with beat := x.beat + 1 } with mem := goTimerM (comeM { x with beat := x.beat + 1 }).mem }
def passM : Nat → Bd → Bd
  | 0, x => x
  | n + 1, x => passM n (passOneM x)
def sendM (a v : Int) (x : Bd) : Bd := if a = 773 then { x with sent := x.sent ++ [(x.beat, v)] } else x
def putWM (a v : Int) (x : Bd) : Bd := { sendM a v x with mem := putMM a v x.mem }
def giveM (v : Int) (x : Bd) : Bd := { x with a := v, zero := decide (v = 0) }
/-- what a deed does, its words read; pc leads behind it already -/
def doM (op : Nat) (n : Int) (ws : List Int) (x : Bd) : Bd :=
  match op with
  | 1 => giveM n x
  | 2 => giveM (ws.getD 0 0) x
  | 3 => putWM n x.a x
  | 4 => giveM ((x.a + ws.getD 0 0) % 65536) x
  | 5 => giveM ((x.a - ws.getD 0 0) % 65536) x
  | 6 => giveM (Builtin.bitAnd x.a (ws.getD 0 0)) x
  | 7 => giveM (Builtin.bitXor x.a (ws.getD 0 0)) x
  | 8 => giveM (ws.getD 0 0) x
  | 9 => putWM (n + x.b) x.a x
  | 10 => { x with b := x.a }
  | 11 => { giveM x.b x with b := x.a }
  | 12 => { x with pc := n }
  | 13 => if x.zero = true then { x with pc := n } else x
  | 14 => if 32768 ≤ x.a then { x with pc := n } else x
  | 15 => { putWM x.sp x.pc x with sp := x.sp - 1, pc := n }
  | 16 => { x with sp := x.sp + 1, pc := ws.getD 0 0 }
  | 17 => { putWM x.sp x.a x with sp := x.sp - 1 }
  | 18 => giveM (ws.getD 0 0) { x with sp := x.sp + 1 }
  | 19 => { x with asleep := true }
  | 20 => { x with lets := decide (n % 2 = 1) }
  | 21 => { x with sp := x.sp + 2, zero := decide (ws.getD 0 0 % 2 = 1), pc := ws.getD 1 0, lets := true }
  | 22 => giveM (x.a / 2) x
  | _ => x
/-- what a deed reads (false) and puts (true) -/
def touM (op : Nat) (n b sp : Int) : List (Bool × Int) :=
  match op with
  | 2 => [(false, n)]
  | 3 => [(true, n)]
  | 4 => [(false, n)]
  | 5 => [(false, n)]
  | 6 => [(false, n)]
  | 7 => [(false, n)]
  | 8 => [(false, n + b)]
  | 9 => [(true, n + b)]
  | 15 => [(true, sp)]
  | 16 => [(false, sp + 1)]
  | 17 => [(true, sp)]
  | 18 => [(false, sp + 1)]
  | 21 => [(false, sp + 1), (false, sp + 2)]
  | _ => []
/-- why a word can't be read or put there -/
def barM (t : Bool × Int) : Option Str :=
  if ¬ (0 ≤ t.2 ∧ t.2 < 774) then some "far" else if t.1 = false then none else if t.2 < 512 then some "flash" else if t.2 = 772 then some "still" else none
def firstBad : List (Bool × Int) → Option (Str × Int)
  | [] => none
  | t :: r => match barM t with
    | some w => some (w, t.2)
    | none => firstBad r
def readsM (m : List Int) (ts : List (Bool × Int)) : List Int := (ts.filter fun t => !t.1).map fun t => rd m t.2
def opM (x : Bd) : Nat := (rd x.mem x.pc / 1024).toNat
def xM (x : Bd) : Int := rd x.mem x.pc % 1024
def toM (x : Bd) : List (Bool × Int) := touM (opM x) (xM x) x.b x.sp
/-- the deed at pc, which can be done -/
def doneM (x : Bd) : Bd := passM (1 + (toM x).length) (doM (opM x) (xM x) (readsM x.mem (toM x)) { x with pc := x.pc + 1 })
def stopAt (w : Str) (ns : List Int) (x : Bd) : Str × Bd := ("stopped", { x with stop := some (w, ns) })
def deedM (x : Bd) : Str × Bd :=
  if ¬ (0 ≤ x.pc ∧ x.pc < 768) then stopAt "far" [x.pc, x.pc] x
  else if 23 ≤ opM x then stopAt "none" [x.pc] x
  else if opM x = 0 then stopAt "mark" [x.pc] x
  else match firstBad (toM x) with
    | some r => stopAt r.1 [x.pc, r.2] x
    | none => ("deed", doneM x)
def calledM (x : Bd) : Int := Builtin.bitAnd (rd x.mem 770) (rd x.mem 771)
def b2n (b : Bool) : Int := if b = true then 1 else 0
def begunM (x : Bd) : Bd :=
  let y := putWM (x.sp - 1) (b2n x.zero) (putWM x.sp x.pc x)
  passM 3 { y with sp := x.sp - 2, lets := false, pc := if Builtin.bitAnd (calledM x) 1 ≠ 0 then 1 else 2 }
def intM (x : Bd) : Str × Bd :=
  match firstBad [(true, x.sp), (true, x.sp - 1)] with
  | some r => stopAt r.1 [x.pc, r.2] x
  | none => ("interrupt", begunM x)
def turnM (x : Bd) : Str × Bd :=
  if x.stop ≠ none then ("stopped", x)
  else if x.asleep = true ∧ calledM x = 0 then ("asleep", passM 1 x)
  else if x.lets = true ∧ calledM x ≠ 0 then intM { x with asleep := false }
  else deedM { x with asleep := false }
theorem firstBad_cons (t : Bool × Int) (r : List (Bool × Int)) : firstBad (t :: r) = match barM t with
    | some w => some (w, t.2)
    | none => firstBad r := rfl
theorem barM_ok {t : Bool × Int} (h : barM t = none) : 0 ≤ t.2 ∧ t.2 < 774 := by
  unfold barM at h
  split at h
  · cases h
  · rename_i z
    exact Classical.not_not.mp z
theorem firstBad_ok : ∀ {ts : List (Bool × Int)}, firstBad ts = none → ∀ t ∈ ts, barM t = none
  | [], _, _, h => by cases h
  | t :: r, h, u, hu => by
    unfold firstBad at h
    cases e : barM t with
    | some w => rw [e] at h; cases h
    | none =>
      rw [e] at h
      rcases List.mem_cons.mp hu with rfl | h2
      · exact e
      · exact firstBad_ok h u h2
theorem touM_len (op : Nat) (n b sp : Int) : (touM op n b sp).length ≤ 2 := by
  unfold touM
  split <;> first | exact Nat.le_succ _ | exact Nat.le_refl _ | exact Nat.zero_le _
theorem stM_len (m : List Int) (i v : Int) : (stM m i v).length = m.length := List.length_set
theorem takeLineM_len (v : Int) (m : List Int) : (takeLineM v m).length = m.length := by
  unfold takeLineM
  split
  · rw [stM_len, stM_len]
  · rw [stM_len]
theorem goTimerM_len (m : List Int) : (goTimerM m).length = m.length := by
  unfold goTimerM
  split
  · rfl
  · split
    · rw [stM_len, stM_len]
    · rw [stM_len]
theorem putMM_len (a v : Int) (m : List Int) : (putMM a v m).length = m.length := by
  unfold putMM
  split
  · rw [stM_len]
  · rw [stM_len]
theorem atI_rd {m : List Int} {i : Int} (h0 : 0 ≤ i) (h1 : i < m.length) : atI (m.map V.int) i = some (.int (rd m i)) := by
  have hj : i.toNat < m.length := by omega
  have e : i = ((i.toNat : Nat) : Int) := (Int.toNat_of_nonneg h0).symm
  have q : atI (m.map V.int) ((i.toNat : Nat) : Int) = some (.int (rd m i)) := atI_nat (by
    unfold rd
    rw [List.getElem?_map, List.getElem?_eq_getElem hj, List.getD_eq_getElem?_getD, List.getElem?_eq_getElem hj]
    rfl)
  rw [← e] at q
  exact q
theorem ixN_in {n : Nat} {i : Int} (h0 : 0 ≤ i) (h1 : i < n) : ixN n i = some i.toNat := by
  unfold ixN
  rw [if_pos h0, if_pos h1]
theorem set_map (m : List Int) (i v : Int) : (m.map V.int).set i.toNat (.int v) = (stM m i v).map V.int := by
  unfold stM
  rw [List.map_set]
theorem rd_stM_same {m : List Int} {i v : Int} (h0 : 0 ≤ i) (h1 : i < m.length) : rd (stM m i v) i = v := by
  unfold rd stM
  have : i.toNat < m.length := by omega
  rw [List.getD_eq_getElem?_getD, List.getElem?_set_self this]
  rfl
theorem rd_stM_ne {m : List Int} {i j v : Int} (h0 : 0 ≤ i) (h1 : 0 ≤ j) (h : i ≠ j) : rd (stM m i v) j = rd m j := by
  unfold rd stM
  rw [List.getD_eq_getElem?_getD, List.getElem?_set_ne (by omega), ← List.getD_eq_getElem?_getD]
end Bh

/-! A board in the heap. -/
namespace Bh
open PySem PySem.Spec PyProof.Rows L2
theorem same_upd' {H : Hp} {p : Addr} {o : HO} (h : H p = none) : Same H (upd H p o) := fun b x e => by
  rw [upd_ne (ne_of_none e h)]
  exact e
theorem same_of {H0 H : Hp} {x : Addr} {o : HO} (sm : Same H0 H) (fx : H0 x = none) : Same H0 (upd H x o) := fun b y e => by
  rw [upd_ne (ne_of_none e fx)]
  exact sm _ _ e
theorem upd_upd {H : Hp} {p : Addr} {o o' : HO} : upd (upd H p o) p o' = upd H p o' := by
  funext b
  by_cases h : b = p
  · subst h
    rw [upd_same, upd_same]
  · rw [upd_ne h, upd_ne h, upd_ne h]
theorem upd_id {H : Hp} {p : Addr} {o : HO} (h : H p = some o) : upd H p o = H := by
  funext b
  by_cases e : b = p
  · subst e
    rw [upd_same, h]
  · rw [upd_ne e]
theorem ifN {c : Bool} {A B : Prop} (h1 : c = false → A) (h2 : c = true → B) : if (!c) = true then A else B := by
  cases c with
  | true => exact h2 rfl
  | false => exact h1 rfl
theorem ifJ {c : Bool} {A B : Prop} (h1 : B) (h2 : c = true → B → A) : if c = true then A else B := by
  cases c with
  | true => exact h2 rfl h1
  | false => exact h1
theorem ifB {c : Bool} {A B : Prop} (h1 : c = true → A) (h2 : c = false → B) : if c = true then A else B := by
  cases c with
  | true => exact h1 rfl
  | false => exact h2 rfl
section
variable {X : Cx}
theorem pgI {x : Str} {n : Int} {t : Tok} {pos : Pos} (hm : X.mg x = some (.int n t)) (hg : Gl X x := by rfl) (hd : (x == ("__debug__" : Str)) = false := by decide) : PE X (.Name x pos) (tC (.int n)) := pe_glob (v := .int n) hg hm ⟨t, rfl⟩ hd
theorem pgR {x : Str} {a : Addr} {pos : Pos} (hm : X.mg x = some (.ref a)) (hg : Gl X x := by rfl) (hd : (x == ("__debug__" : Str)) = false := by decide) : PE X (.Name x pos) (tC (.ref a)) := pe_glob (v := .ref a) hg hm rfl hd
theorem ix_listK {K : PySem.W.Frag} (h : X.K = K := by rfl) : IxR X (rIxL K) := by
  subst h
  exact ix_list
theorem ix_tupK {K : PySem.W.Frag} (h : X.K = K := by rfl) : IxR X (rIxT K) := by
  subst h
  exact ix_tup
end
theorem gtK {X : Cx} {K : PySem.W.Frag} {n : Nat} {es : List Expr} {k : Nat} {pos : Pos} {t : TGs} (hK : X.K = K) (hc : X.calm = true) (h : PGs X es t) (hn : (assignEach es X.env).length = n) (hst : (assignEach es X.env).findIdx? (·.1) = none) : PG X (.Tuple es k pos) (gTup K n t) := by
  subst hK
  subst hn
  exact pg_tup hc h rfl hst
theorem pe_fldK {X : Cx} {K : PySem.W.Frag} {e : Expr} {f : Str} {pos : Pos} {ta : TE} (hK : X.K = K) (he : PE X e ta) (hb : attributeBase e f X.env (eval e X.env) = eval e X.env) : PE X (.Attribute e f pos) (tFld K ta f) := by
  subst hK
  exact pe_fld he hb
section
variable (P : Program) (w : World) (K : PySem.W.Frag) (mg : Str → Option Value) (base : Heap)
/-- a def that may be called by its name -/
structure CalF (k : Nat) (nm : Str) (ps : List Str) (sp : Sp) (f : Addr) (fd : FuncData) : Prop where
  g : mg nm = some (.ref f)
  kp : PySem.W.keepIn K (.ref f) = true
  b : Binds K fd ps []
  G : FnOk P w K mg base CX0 k f fd ps sp
structure CalM (C : Addr) (k : Nat) (nm : Str) (ps : List Str) (sp : Sp) (f : Addr) (fd : FuncData) : Prop where
  c : Cls K C
  m : Meth K C nm f
  b : Binds K fd ps []
  G : FnOk P w K mg base CX0 k f fd ps sp
/-- a class that may be called by its name -/
structure CalC (C : Addr) (k : Nat) (nm : Str) (ps : List Str) (sp : Sp) (f : Addr) (fd : FuncData) : Prop where
  M : Mk K C f
  g : mg nm = some (.ref C)
  b : Binds K fd ps []
  I : FnOk P w K mg base CX0 k f fd ps sp
end
/-! ### fields -/
def bdF (r t m l : Addr) (z le as : Bool) (bt : Int) (sv : V) (la : Nat) (tv dv : V) : List (Str × V) :=
  [("registers", .ref r), ("zero", .bl z), ("lets", .bl le), ("asleep", .bl as), ("beat", .int bt), ("stopped", sv), ("sent", .ref t), ("memory", .ref m), ("line", .ref l), ("line_at", .int (la : Int)), ("touched", tv), ("did", dv), ("bend", .int 0)]
def mmF (w s : Addr) : List (Str × V) := [("words", .ref w), ("swapped", .ref s)]
section
variable {r t m l w s : Addr} {z le as z' : Bool} {bt bt' : Int} {la : Nat} {sv tv dv v : V}
theorem bF_reg : (bdF r t m l z le as bt sv la tv dv).lookup ("registers" : Str) = some (.ref r) := by kernel_rfl
theorem bF_zero : (bdF r t m l z le as bt sv la tv dv).lookup ("zero" : Str) = some (.bl z) := by kernel_rfl
theorem bF_lets : (bdF r t m l z le as bt sv la tv dv).lookup ("lets" : Str) = some (.bl le) := by kernel_rfl
theorem bF_asleep : (bdF r t m l z le as bt sv la tv dv).lookup ("asleep" : Str) = some (.bl as) := by kernel_rfl
theorem bF_beat : (bdF r t m l z le as bt sv la tv dv).lookup ("beat" : Str) = some (.int bt) := by kernel_rfl
theorem bF_stop : (bdF r t m l z le as bt sv la tv dv).lookup ("stopped" : Str) = some sv := by kernel_rfl
theorem bF_sent : (bdF r t m l z le as bt sv la tv dv).lookup ("sent" : Str) = some (.ref t) := by kernel_rfl
theorem bF_mem : (bdF r t m l z le as bt sv la tv dv).lookup ("memory" : Str) = some (.ref m) := by kernel_rfl
theorem bF_line : (bdF r t m l z le as bt sv la tv dv).lookup ("line" : Str) = some (.ref l) := by kernel_rfl
theorem bF_la : (bdF r t m l z le as bt sv la tv dv).lookup ("line_at" : Str) = some (.int (la : Int)) := by kernel_rfl
theorem bF_bend : (bdF r t m l z le as bt sv la tv dv).lookup ("bend" : Str) = some (.int 0) := by kernel_rfl
theorem bP_bend : putF "bend" (.int 0) (bdF r t m l z le as bt sv la tv dv) = bdF r t m l z le as bt sv la tv dv := by kernel_rfl
theorem bP_zero : putF "zero" (.bl z') (bdF r t m l z le as bt sv la tv dv) = bdF r t m l z' le as bt sv la tv dv := by kernel_rfl
theorem bP_lets : putF "lets" (.bl z') (bdF r t m l z le as bt sv la tv dv) = bdF r t m l z z' as bt sv la tv dv := by kernel_rfl
theorem bP_asleep : putF "asleep" (.bl z') (bdF r t m l z le as bt sv la tv dv) = bdF r t m l z le z' bt sv la tv dv := by kernel_rfl
theorem bP_beat : putF "beat" (.int bt') (bdF r t m l z le as bt sv la tv dv) = bdF r t m l z le as bt' sv la tv dv := by kernel_rfl
theorem bP_la {n : Nat} : putF "line_at" (.int ((la : Int) + 1)) (bdF r t m l z le as bt sv la tv dv) = bdF r t m l z le as bt sv (la + 1) tv dv := by kernel_rfl
theorem bP_stop : putF "stopped" v (bdF r t m l z le as bt sv la tv dv) = bdF r t m l z le as bt v la tv dv := by kernel_rfl
theorem bP_tou : putF "touched" v (bdF r t m l z le as bt sv la tv dv) = bdF r t m l z le as bt sv la v dv := by kernel_rfl
theorem bP_did : putF "did" v (bdF r t m l z le as bt sv la tv dv) = bdF r t m l z le as bt sv la tv v := by kernel_rfl
theorem bF_len : (bdF r t m l z le as bt sv la tv dv).length = 13 := rfl
theorem mF_w : (mmF w s).lookup ("words" : Str) = some (.ref w) := by kernel_rfl
theorem mF_s : (mmF w s).lookup ("swapped" : Str) = some (.ref s) := by kernel_rfl
theorem bN_coming : (bdF r t m l z le as bt sv la tv dv).lookup ("coming" : Str) = none := by kernel_rfl
theorem bN_do : (bdF r t m l z le as bt sv la tv dv).lookup ("do_deed" : Str) = none := by kernel_rfl
theorem bN_may : (bdF r t m l z le as bt sv la tv dv).lookup ("may_touch" : Str) = none := by kernel_rfl
theorem bN_pbt : (bdF r t m l z le as bt sv la tv dv).lookup ("put_by_turn" : Str) = none := by kernel_rfl
theorem bN_pw : (bdF r t m l z le as bt sv la tv dv).lookup ("put_word" : Str) = none := by kernel_rfl
theorem bN_pass : (bdF r t m l z le as bt sv la tv dv).lookup ("pass_beats" : Str) = none := by kernel_rfl
theorem bN_come : (bdF r t m l z le as bt sv la tv dv).lookup ("come_line" : Str) = none := by kernel_rfl
theorem bN_begin : (bdF r t m l z le as bt sv la tv dv).lookup ("begin_interrupt" : Str) = none := by kernel_rfl
theorem bN_stop : (bdF r t m l z le as bt sv la tv dv).lookup ("stop" : Str) = none := by kernel_rfl
theorem bN_turn : (bdF r t m l z le as bt sv la tv dv).lookup ("turn" : Str) = none := by kernel_rfl
theorem mN_at : (mmF w s).lookup ("word_at" : Str) = none := by kernel_rfl
theorem mN_read : (mmF w s).lookup ("read" : Str) = none := by kernel_rfl
theorem mN_put : (mmF w s).lookup ("put" : Str) = none := by kernel_rfl
theorem mN_called : (mmF w s).lookup ("called_flags" : Str) = none := by kernel_rfl
theorem mN_take : (mmF w s).lookup ("take_line" : Str) = none := by kernel_rfl
theorem mN_timer : (mmF w s).lookup ("go_timer" : Str) = none := by kernel_rfl
end
def regD (a b pc sp : Int) : List (Key × V) := [(Sum.inr "a", .int a), (Sum.inr "b", .int b), (Sum.inr "pc", .int pc), (Sum.inr "sp", .int sp)]
section
variable {a b pc sp v : Int}
theorem rG_a : valV (regD a b pc sp) (Sum.inr "a") = some (.int a) := by kernel_rfl
theorem rG_b : valV (regD a b pc sp) (Sum.inr "b") = some (.int b) := by kernel_rfl
theorem rG_pc : valV (regD a b pc sp) (Sum.inr "pc") = some (.int pc) := by kernel_rfl
theorem rG_sp : valV (regD a b pc sp) (Sum.inr "sp") = some (.int sp) := by kernel_rfl
theorem rP_a : putK (regD a b pc sp) (Sum.inr "a") (.int v) = regD v b pc sp := by kernel_rfl
theorem rP_b : putK (regD a b pc sp) (Sum.inr "b") (.int v) = regD a v pc sp := by kernel_rfl
theorem rP_pc : putK (regD a b pc sp) (Sum.inr "pc") (.int v) = regD a b v sp := by kernel_rfl
theorem rP_sp : putK (regD a b pc sp) (Sum.inr "sp") (.int v) = regD a b pc v := by kernel_rfl
end
/-! ### lists of tuples -/
def TupsAt (H : Hp) : List V → List (Int × Int) → Prop := Paired fun v u => ∃ t, v = .ref t ∧ H t = some (.tup [.int u.1, .int u.2])
theorem TupsAt.mono {H H' : Hp} (k : ∀ t xs, H t = some (.tup xs) → H' t = some (.tup xs)) : ∀ {us : List V} {ls : List (Int × Int)}, TupsAt H us ls → TupsAt H' us ls
  | _, _, .nil => .nil
  | _, _, .cons h r => .cons (let ⟨t, e, q⟩ := h; ⟨t, e, k _ _ q⟩) (TupsAt.mono k r)
theorem TupsAt.snoc {H : Hp} {t : Addr} {u : Int × Int} (ht : H t = some (.tup [.int u.1, .int u.2])) : ∀ {us : List V} {ls : List (Int × Int)}, TupsAt H us ls → TupsAt H (us ++ [.ref t]) (ls ++ [u])
  | _, _, .nil => .cons ⟨t, rfl, ht⟩ .nil
  | _, _, .cons h r => .cons h (TupsAt.snoc ht r)
theorem TupsAt.len {H : Hp} : ∀ {us : List V} {ls : List (Int × Int)}, TupsAt H us ls → us.length = ls.length
  | _, _, .nil => rfl
  | _, _, .cons _ r => by rw [List.length_cons, List.length_cons, TupsAt.len r]
theorem TupsAt.get {H : Hp} : ∀ {us : List V} {ls : List (Int × Int)} {i : Nat}, TupsAt H us ls → i < ls.length → ∃ t, us[i]? = some (.ref t) ∧ H t = some (.tup [.int (ls.getD i (0, 0)).1, .int (ls.getD i (0, 0)).2])
  | _, _, _, .nil, h => by cases h
  | _, _, 0, .cons h r, _ => by
    obtain ⟨t, rfl, q⟩ := h
    exact ⟨t, rfl, q⟩
  | _, _, i + 1, .cons h r, hi => by
    obtain ⟨t, e1, e2⟩ := TupsAt.get (i := i) r (by rw [List.length_cons] at hi; omega)
    exact ⟨t, by rw [List.getElem?_cons_succ]; exact e1, by rw [List.getD_cons_succ]; exact e2⟩
/-! ### the board -/
structure Ad where
  dx : Addr
  r : Addr
  m : Addr
  dm : Addr
  w : Addr
  s : Addr
  t : Addr
  l : Addr
def StopAt (H : Hp) (v : V) : Option (Str × List Int) → Prop
  | none => v = .non
  | some r => ∃ q, v = .ref q ∧ H q = some (.tup (.str r.1 :: r.2.map V.int))
theorem StopAt.mono {H H' : Hp} (k : ∀ t xs, H t = some (.tup xs) → H' t = some (.tup xs)) {v : V} : ∀ {o : Option (Str × List Int)}, StopAt H v o → StopAt H' v o
  | none, h => h
  | some r, ⟨q, e, h⟩ => ⟨q, e, k _ _ h⟩
structure Bp (CB CM : Addr) (H0 H : Hp) (p : Addr) (A : Ad) (ts ls : List V) (x : Bd) : Prop where
  sm : Same H0 H
  fp : H0 p = none
  fr : H0 A.r = none
  fw : H0 A.w = none
  ft : H0 A.t = none
  fm : H0 A.m = none
  fs : H0 A.s = none
  fl : H0 A.l = none
  hp : ∃ sv tv dv, H p = some (.ins CB A.dx (bdF A.r A.t A.m A.l x.zero x.lets x.asleep x.beat sv x.la tv dv)) ∧ StopAt H sv x.stop
  hr : H A.r = some (.dK (regD x.a x.b x.pc x.sp))
  hm : H A.m = some (.ins CM A.dm (mmF A.w A.s))
  hw : H A.w = some (.lst (x.mem.map V.int))
  hs : H A.s = some (.dK [])
  ht : H A.t = some (.lst ts)
  hl : H A.l = some (.lst ls)
  pm : p ≠ A.m
  rs : A.r ≠ A.s
  wt : A.w ≠ A.t
  wl : A.w ≠ A.l
  tl : A.t ≠ A.l
  us : TupsAt H ts x.sent
  ll : TupsAt H ls x.line
  lm : x.mem.length = 774
def BoardAt (CB CM : Addr) (H0 H : Hp) (p : Addr) (x : Bd) : Prop := ∃ A ts ls, Bp CB CM H0 H p A ts ls x
section
variable {CB CM p : Addr} {H0 H : Hp} {A : Ad} {ts ls : List V} {x : Bd}
theorem Bp.more (h : Bp CB CM H0 H p A ts ls x) {q : Addr} {o : HO} (hq : H q = none) : Bp CB CM H0 (upd H q o) p A ts ls x where
  sm := h.sm.trans (same_upd' hq)
  fp := h.fp
  fr := h.fr
  fw := h.fw
  ft := h.ft
  fm := h.fm
  fs := h.fs
  fl := h.fl
  hp := let ⟨sv, tv, dv, e, z⟩ := h.hp; ⟨sv, tv, dv, same_upd' hq _ _ e, z.mono fun t xs e => same_upd' hq _ _ e⟩
  hr := same_upd' hq _ _ h.hr
  hm := same_upd' hq _ _ h.hm
  hw := same_upd' hq _ _ h.hw
  hs := same_upd' hq _ _ h.hs
  ht := same_upd' hq _ _ h.ht
  hl := same_upd' hq _ _ h.hl
  pm := h.pm
  rs := h.rs
  wt := h.wt
  wl := h.wl
  tl := h.tl
  us := h.us.mono fun t xs e => same_upd' hq _ _ e
  ll := h.ll.mono fun t xs e => same_upd' hq _ _ e
  lm := h.lm
/-- its object changes -/
theorem Bp.fld (h : Bp CB CM H0 H p A ts ls x) {z le as : Bool} {bt : Int} {sv : V} {la : Nat} {tv dv : V} {so : Option (Str × List Int)} (hso : StopAt H sv so) : Bp CB CM H0 (upd H p (.ins CB A.dx (bdF A.r A.t A.m A.l z le as bt sv la tv dv))) p A ts ls { x with zero := z, lets := le, asleep := as, beat := bt, la := la, stop := so } := by
  obtain ⟨sv0, tv0, dv0, hp, hz⟩ := h.hp
  exact {
    sm := same_of h.sm h.fp
    fp := h.fp
    fr := h.fr
    fw := h.fw
    ft := h.ft
    fm := h.fm
    fs := h.fs
    fl := h.fl
    hp := ⟨sv, tv, dv, upd_same, hso.mono fun t xs e => by rw [upd_ne (ne_of e hp (by intro q; cases q))]; exact e⟩
    hr := by rw [upd_ne (ne_of h.hr hp (by intro q; cases q))]; exact h.hr
    hm := by rw [upd_ne h.pm.symm]; exact h.hm
    hw := by rw [upd_ne (ne_of h.hw hp (by intro q; cases q))]; exact h.hw
    hs := by rw [upd_ne (ne_of h.hs hp (by intro q; cases q))]; exact h.hs
    ht := by rw [upd_ne (ne_of h.ht hp (by intro q; cases q))]; exact h.ht
    hl := by rw [upd_ne (ne_of h.hl hp (by intro q; cases q))]; exact h.hl
    pm := h.pm
    rs := h.rs
    wt := h.wt
    wl := h.wl
    tl := h.tl
    us := h.us.mono fun t xs e => by rw [upd_ne (ne_of e hp (by intro q; cases q))]; exact e
    ll := h.ll.mono fun t xs e => by rw [upd_ne (ne_of e hp (by intro q; cases q))]; exact e
    lm := h.lm }
theorem Bp.regs (h : Bp CB CM H0 H p A ts ls x) {a b pc sp : Int} : Bp CB CM H0 (upd H A.r (.dK (regD a b pc sp))) p A ts ls { x with a := a, b := b, pc := pc, sp := sp } := by
  obtain ⟨sv0, tv0, dv0, hp, hz⟩ := h.hp
  exact {
    sm := same_of h.sm h.fr
    fp := h.fp
    fr := h.fr
    fw := h.fw
    ft := h.ft
    fm := h.fm
    fs := h.fs
    fl := h.fl
    hp := ⟨sv0, tv0, dv0, by rw [upd_ne (ne_of hp h.hr (by intro q; cases q))]; exact hp, hz.mono fun t xs e => by rw [upd_ne (ne_of e h.hr (by intro q; cases q))]; exact e⟩
    hr := upd_same
    hm := by rw [upd_ne (ne_of h.hm h.hr (by intro q; cases q))]; exact h.hm
    hw := by rw [upd_ne (ne_of h.hw h.hr (by intro q; cases q))]; exact h.hw
    hs := by rw [upd_ne h.rs.symm]; exact h.hs
    ht := by rw [upd_ne (ne_of h.ht h.hr (by intro q; cases q))]; exact h.ht
    hl := by rw [upd_ne (ne_of h.hl h.hr (by intro q; cases q))]; exact h.hl
    pm := h.pm
    rs := h.rs
    wt := h.wt
    wl := h.wl
    tl := h.tl
    us := h.us.mono fun t xs e => by rw [upd_ne (ne_of e h.hr (by intro q; cases q))]; exact e
    ll := h.ll.mono fun t xs e => by rw [upd_ne (ne_of e h.hr (by intro q; cases q))]; exact e
    lm := h.lm }
theorem Bp.wds (h : Bp CB CM H0 H p A ts ls x) {m : List Int} (hm : m.length = 774) : Bp CB CM H0 (upd H A.w (.lst (m.map V.int))) p A ts ls { x with mem := m } := by
  obtain ⟨sv0, tv0, dv0, hp, hz⟩ := h.hp
  exact {
    sm := same_of h.sm h.fw
    fp := h.fp
    fr := h.fr
    fw := h.fw
    ft := h.ft
    fm := h.fm
    fs := h.fs
    fl := h.fl
    hp := ⟨sv0, tv0, dv0, by rw [upd_ne (ne_of hp h.hw (by intro q; cases q))]; exact hp, hz.mono fun t xs e => by rw [upd_ne (ne_of e h.hw (by intro q; cases q))]; exact e⟩
    hr := by rw [upd_ne (ne_of h.hr h.hw (by intro q; cases q))]; exact h.hr
    hm := by rw [upd_ne (ne_of h.hm h.hw (by intro q; cases q))]; exact h.hm
    hw := upd_same
    hs := by rw [upd_ne (ne_of h.hs h.hw (by intro q; cases q))]; exact h.hs
    ht := by rw [upd_ne h.wt.symm]; exact h.ht
    hl := by rw [upd_ne h.wl.symm]; exact h.hl
    pm := h.pm
    rs := h.rs
    wt := h.wt
    wl := h.wl
    tl := h.tl
    us := h.us.mono fun t xs e => by rw [upd_ne (ne_of e h.hw (by intro q; cases q))]; exact e
    ll := h.ll.mono fun t xs e => by rw [upd_ne (ne_of e h.hw (by intro q; cases q))]; exact e
    lm := hm }
theorem Bp.snd (h : Bp CB CM H0 H p A ts ls x) {q : Addr} {u : Int × Int} (hq : H q = some (.tup [.int u.1, .int u.2])) : Bp CB CM H0 (upd H A.t (.lst (ts ++ [.ref q]))) p A (ts ++ [.ref q]) ls { x with sent := x.sent ++ [u] } := by
  obtain ⟨sv0, tv0, dv0, hp, hz⟩ := h.hp
  exact {
    sm := same_of h.sm h.ft
    fp := h.fp
    fr := h.fr
    fw := h.fw
    ft := h.ft
    fm := h.fm
    fs := h.fs
    fl := h.fl
    hp := ⟨sv0, tv0, dv0, by rw [upd_ne (ne_of hp h.ht (by intro q; cases q))]; exact hp, hz.mono fun t xs e => by rw [upd_ne (ne_of e h.ht (by intro q; cases q))]; exact e⟩
    hr := by rw [upd_ne (ne_of h.hr h.ht (by intro q; cases q))]; exact h.hr
    hm := by rw [upd_ne (ne_of h.hm h.ht (by intro q; cases q))]; exact h.hm
    hw := by rw [upd_ne h.wt]; exact h.hw
    hs := by rw [upd_ne (ne_of h.hs h.ht (by intro q; cases q))]; exact h.hs
    ht := upd_same
    hl := by rw [upd_ne h.tl.symm]; exact h.hl
    pm := h.pm
    rs := h.rs
    wt := h.wt
    wl := h.wl
    tl := h.tl
    us := (TupsAt.snoc hq h.us).mono fun t xs e => by rw [upd_ne (ne_of e h.ht (by intro q; cases q))]; exact e
    ll := h.ll.mono fun t xs e => by rw [upd_ne (ne_of e h.ht (by intro q; cases q))]; exact e
    lm := h.lm }
end
theorem Bp.same {CB CM p : Addr} {H0 H H1 : Hp} {A : Ad} {ts ls : List V} {x : Bd} (h : Bp CB CM H0 H p A ts ls x) (s : Same H H1) : Bp CB CM H0 H1 p A ts ls x where
  sm := h.sm.trans s
  fp := h.fp
  fr := h.fr
  fw := h.fw
  ft := h.ft
  fm := h.fm
  fs := h.fs
  fl := h.fl
  hp := let ⟨sv, tv, dv, e, z⟩ := h.hp; ⟨sv, tv, dv, s _ _ e, z.mono fun t xs e => s _ _ e⟩
  hr := s _ _ h.hr
  hm := s _ _ h.hm
  hw := s _ _ h.hw
  hs := s _ _ h.hs
  ht := s _ _ h.ht
  hl := s _ _ h.hl
  pm := h.pm
  rs := h.rs
  wt := h.wt
  wl := h.wl
  tl := h.tl
  us := h.us.mono fun t xs e => s _ _ e
  ll := h.ll.mono fun t xs e => s _ _ e
  lm := h.lm
/-- all that is not the board's own stands in the base -/
def baseOf (H : Hp) (p : Addr) (A : Ad) : Hp := fun b => if b = p ∨ b = A.r ∨ b = A.w ∨ b = A.t ∨ b = A.m ∨ b = A.s ∨ b = A.l then none else H b
theorem Bp.rebase {CB CM p : Addr} {H0 H : Hp} {A : Ad} {ts ls : List V} {x : Bd} (h : Bp CB CM H0 H p A ts ls x) : Bp CB CM (baseOf H p A) H p A ts ls x where
  sm := fun b o e => by
    unfold baseOf at e
    split at e
    · cases e
    · exact e
  fp := if_pos (.inl rfl)
  fr := if_pos (.inr (.inl rfl))
  fw := if_pos (.inr (.inr (.inl rfl)))
  ft := if_pos (.inr (.inr (.inr (.inl rfl))))
  fm := if_pos (.inr (.inr (.inr (.inr (.inl rfl)))))
  fs := if_pos (.inr (.inr (.inr (.inr (.inr (.inl rfl))))))
  fl := if_pos (.inr (.inr (.inr (.inr (.inr (.inr rfl))))))
  hp := h.hp
  hr := h.hr
  hm := h.hm
  hw := h.hw
  hs := h.hs
  ht := h.ht
  hl := h.hl
  pm := h.pm
  rs := h.rs
  wt := h.wt
  wl := h.wl
  tl := h.tl
  us := h.us
  ll := h.ll
  lm := h.lm
theorem Bp.base_at {CB CM p : Addr} {H0 H : Hp} {A : Ad} {ts ls : List V} {x : Bd} (h : Bp CB CM H0 H p A ts ls x) {b : Addr} (h1 : b ≠ p) (h2 : b ≠ A.r) (h3 : b ≠ A.w) (h4 : b ≠ A.t) (h5 : b ≠ A.m) (h6 : b ≠ A.s) (h7 : b ≠ A.l) : baseOf H p A b = H b := if_neg fun z => by
  rcases z with z | z | z | z | z | z | z
  · exact h1 z
  · exact h2 z
  · exact h3 z
  · exact h4 z
  · exact h5 z
  · exact h6 z
  · exact h7 z
theorem Bp.base_tup {CB CM p : Addr} {H0 H : Hp} {A : Ad} {ts ls : List V} {x : Bd} (h : Bp CB CM H0 H p A ts ls x) : ∀ t xs, H t = some (.tup xs) → baseOf H p A t = some (.tup xs) := fun t xs e => by
  obtain ⟨sv, tv, dv, hp, _⟩ := h.hp
  rw [h.base_at (ne_of e hp (by intro q; cases q)) (ne_of e h.hr (by intro q; cases q)) (ne_of e h.hw (by intro q; cases q)) (ne_of e h.ht (by intro q; cases q)) (ne_of e h.hm (by intro q; cases q)) (ne_of e h.hs (by intro q; cases q)) (ne_of e h.hl (by intro q; cases q))]
  exact e
theorem Bp.base_same {CB CM p : Addr} {H0 H : Hp} {A : Ad} {ts ls : List V} {x : Bd} (h : Bp CB CM H0 H p A ts ls x) : Same H0 (baseOf H p A) := fun b o e => by
  rw [h.base_at (ne_of_none e h.fp) (ne_of_none e h.fr) (ne_of_none e h.fw) (ne_of_none e h.ft) (ne_of_none e h.fm) (ne_of_none e h.fs) (ne_of_none e h.fl)]
  exact h.sm _ _ e
theorem Bp.base_eq {CB CM p : Addr} {H0 H : Hp} {A : Ad} {ts ls : List V} {x : Bd} (h : Bp CB CM H0 H p A ts ls x) {H' : Hp} {b : Addr} {o : HO} (e : H0 b = some o) : baseOf H' p A b = H' b := if_neg fun z => by
  rcases z with z | z | z | z | z | z | z
  · exact ne_of_none e h.fp z
  · exact ne_of_none e h.fr z
  · exact ne_of_none e h.fw z
  · exact ne_of_none e h.ft z
  · exact ne_of_none e h.fm z
  · exact ne_of_none e h.fs z
  · exact ne_of_none e h.fl z
theorem BoardAt.unbase {CB CM p : Addr} {H0 H1 H : Hp} {x : Bd} (s : Same H0 H1) (h : BoardAt CB CM H1 H p x) : BoardAt CB CM H0 H p x := by
  obtain ⟨A, ts, ls, h⟩ := h
  exact ⟨A, ts, ls, {
    sm := s.trans h.sm
    fp := s.free h.fp
    fr := s.free h.fr
    fw := s.free h.fw
    ft := s.free h.ft
    fm := s.free h.fm
    fs := s.free h.fs
    fl := s.free h.fl
    hp := h.hp
    hr := h.hr
    hm := h.hm
    hw := h.hw
    hs := h.hs
    ht := h.ht
    hl := h.hl
    pm := h.pm
    rs := h.rs
    wt := h.wt
    wl := h.wl
    tl := h.tl
    us := h.us
    ll := h.ll
    lm := h.lm }⟩
theorem dg {H : Hp} {r : Addr} {kvs : List (Key × V)} {k : Key} {v : V} (e : H r = some (.dK kvs)) (h : valV kvs k = some v) : DGet H r (kV k) (some v) := h ▸ DGet.k e
theorem dp {H : Hp} {r : Addr} {a b pc sp : Int} {kvs : List (Key × V)} {k : Key} {v : V} (e : H r = some (.dK (regD a b pc sp))) (h : putK (regD a b pc sp) k v = kvs) : DPut H r (kV k) v (upd H r (.dK kvs)) := by
  subst h
  exact DPut.k e (by show 4 < sizeLine; decide)
end Bh

/-! The program's small defs: the memory, what words and images are. -/
namespace Bh
open PySem PySem.Spec PyProof.Rows L2
def topS (i : Nat) : Stmt := PySem.Challenge.pw_boardheld_k18_twins.main.body.getD i (.Pass ⟨0, 0, 0, 0⟩)
def rdN : List Str := ["get", "add", "sub", "and", "xor"]
def opN : List Str := ["mark", "lit", "get", "put", "add", "sub", "and", "xor", "getb", "putb", "tob", "swap", "go", "ifz", "ifn", "call", "ret", "push", "pop", "sleep", "let", "back", "half"]
structure Tx (K : PySem.W.Frag) (mg : Str → Option Value) (CB CM : Addr) : Prop where
  g_FLASH_END : ∃ t, mg "FLASH_END" = some (.int 512 t)
  g_RAM_END : ∃ t, mg "RAM_END" = some (.int 768 t)
  g_PLACES_END : ∃ t, mg "PLACES_END" = some (.int 774 t)
  g_COUNT : ∃ t, mg "COUNT" = some (.int 768 t)
  g_TOP : ∃ t, mg "TOP" = some (.int 769 t)
  g_FLAGS : ∃ t, mg "FLAGS" = some (.int 770 t)
  g_MASK : ∃ t, mg "MASK" = some (.int 771 t)
  g_LINE_IN : ∃ t, mg "LINE_IN" = some (.int 772 t)
  g_LINE_OUT : ∃ t, mg "LINE_OUT" = some (.int 773 t)
  g_TIMER_FLAG : ∃ t, mg "TIMER_FLAG" = some (.int 1 t)
  g_LINE_FLAG : ∃ t, mg "LINE_FLAG" = some (.int 2 t)
  g_WORD_MOST : ∃ t, mg "WORD_MOST" = some (.int 65535 t)
  g_ERASED : ∃ t, mg "ERASED" = some (.int 65535 t)
  g_X_SPAN : ∃ t, mg "X_SPAN" = some (.int 1024 t)
  g_LINE_MOST : ∃ t, mg "LINE_MOST" = some (.int 3 t)
  g_STACK_TOP : ∃ t, mg "STACK_TOP" = some (.int 767 t)
  g_INTERRUPT_BEATS : ∃ t, mg "INTERRUPT_BEATS" = some (.int 3 t)
  g_TIMER_PC : ∃ t, mg "TIMER_PC" = some (.int 1 t)
  g_LINE_PC : ∃ t, mg "LINE_PC" = some (.int 2 t)
  g_WORDS : ∃ t, mg "WORDS" = some (.int 65536 t)
  g_HIGH : ∃ t, mg "HIGH" = some (.int 32768 t)
  z_len : mg "len" = none
  z_range : mg "range" = none
  z_isinstance : mg "isinstance" = none
  z_all : mg "all" = none
  z_int : mg "int" = none
  z_bool : mg "bool" = none
  z_list : mg "list" = none
  z_tuple : mg "tuple" = none
  z_divmod : mg "divmod" = none
  g_READS_AT_X : ∃ a, mg "READS_AT_X" = some (.ref a) ∧ ∀ H, SqT K H a (rdN.map V.str)
  g_OP_NAMES : ∃ a, mg "OP_NAMES" = some (.ref a) ∧ ∀ H, SqT K H a (opN.map V.str)
  cB : Cls K CB
  cM : Cls K CM
  n_registers : NoAttr K CB "registers"
  n_zero : NoAttr K CB "zero"
  n_lets : NoAttr K CB "lets"
  n_asleep : NoAttr K CB "asleep"
  n_beat : NoAttr K CB "beat"
  n_stopped : NoAttr K CB "stopped"
  n_sent : NoAttr K CB "sent"
  n_memory : NoAttr K CB "memory"
  n_line : NoAttr K CB "line"
  n_line_at : NoAttr K CB "line_at"
  n_touched : NoAttr K CB "touched"
  n_did : NoAttr K CB "did"
  n_bend : NoAttr K CB "bend"
  n_words : NoAttr K CM "words"
  n_swapped : NoAttr K CM "swapped"
structure MemAt (CM : Addr) (H : Hp) (m dm w s : Addr) (mem : List Int) : Prop where
  hm : H m = some (.ins CM dm (mmF w s))
  hw : H w = some (.lst (mem.map V.int))
  hs : H s = some (.dK [])
  lm : mem.length = 774
theorem Bp.mem {CB CM p : Addr} {H0 H : Hp} {A : Ad} {ts ls : List V} {x : Bd} (h : Bp CB CM H0 H p A ts ls x) : MemAt CM H A.m A.dm A.w A.s x.mem := ⟨h.hm, h.hw, h.hs, h.lm⟩
def kS (b : Bool) : Str := if b = true then "w" else "r"
theorem ne_wr : decide (V.str "w" = V.str "r") = false := by decide +kernel
theorem hsz {n : Nat} (h : n ≤ 100000) : n ≤ sizeLine := Nat.le_trans h (by decide)
theorem natI {n k : Nat} (h : n < k) : (n : Int) < k := by omega
def oS : Option Str → V
  | none => .non
  | some w => .str w
def spBar : Sp := fun vs H Q _ => ∃ t : Bool × Int, vs = [.str (kS t.1), .int t.2] ∧ Q (oS (barM t)) H
def spMRead (CM : Addr) : Sp := fun vs H Q _ => ∃ (m dm w s : Addr) (mem : List Int) (i pc : Int), vs = [.ref m, .int i, .int pc] ∧ MemAt CM H m dm w s mem ∧ 0 ≤ i ∧ i < 774 ∧ Q (.int (rd mem i)) H
def spMAt (CM : Addr) : Sp := fun vs H Q _ => ∃ (m dm w s : Addr) (mem : List Int) (i : Int), vs = [.ref m, .int i] ∧ MemAt CM H m dm w s mem ∧ 0 ≤ i ∧ i < 774 ∧ Q (.int (rd mem i)) H
def spMPut (CM : Addr) : Sp := fun vs H Q _ => ∃ (m dm w s : Addr) (mem : List Int) (i v : Int), vs = [.ref m, .int i, .int v] ∧ MemAt CM H m dm w s mem ∧ 0 ≤ i ∧ i < 774 ∧ Q .non (upd H w (.lst ((putMM i v mem).map V.int)))
def spMCall (CM : Addr) : Sp := fun vs H Q _ => ∃ (m dm w s : Addr) (mem : List Int), vs = [.ref m] ∧ MemAt CM H m dm w s mem ∧ Q (.int (Builtin.bitAnd (rd mem 770) (rd mem 771))) H
def spMTake (CM : Addr) : Sp := fun vs H Q _ => ∃ (m dm w s : Addr) (mem : List Int) (v : Int), vs = [.ref m, .int v] ∧ MemAt CM H m dm w s mem ∧ Q .non (upd H w (.lst ((takeLineM v mem).map V.int)))
def spMTim (CM : Addr) : Sp := fun vs H Q _ => ∃ (m dm w s : Addr) (mem : List Int), vs = [.ref m] ∧ MemAt CM H m dm w s mem ∧ Q .non (upd H w (.lst ((goTimerM mem).map V.int)))
def memOf (ns : List Int) : List Int := ns ++ List.replicate (512 - ns.length) 65535 ++ List.replicate 262 0
def spMI (CM : Addr) : Sp := fun vs H Q _ => ∃ (m dm im : Addr) (ns : List Int), vs = [.ref m, .ref im] ∧ H m = some (.ins CM dm []) ∧ H im = some (.lst (ns.map V.int)) ∧ ns.length ≤ 512 ∧
  ∀ (H' : Hp) (w s : Addr), MemAt CM H' m dm w s (memOf ns) → (∀ b o, b ≠ m → H b = some o → H' b = some o) → H w = none → H s = none → Q .non H'
def spWhole : Sp := fun vs H Q _ => ∃ i : Int, vs = [.int i] ∧ Q (.bl true) H
def spBetw : Sp := fun vs H Q _ => ∃ i a b : Int, vs = [.int i, .int a, .int b] ∧ Q (.bl (decide (a ≤ i ∧ i ≤ b))) H
def spWord : Sp := fun vs H Q _ => ∃ i : Int, vs = [.int i] ∧ Q (.bl (decide (0 ≤ i ∧ i ≤ 65535))) H
def WordsOk (ns : List Int) : Prop := ∀ n ∈ ns, 0 ≤ n ∧ n ≤ 65535
def spImg : Sp := fun vs H Q _ => ∃ (im : Addr) (ns : List Int), vs = [.ref im] ∧ H im = some (.lst (ns.map V.int)) ∧ ns.length ≤ 512 ∧ WordsOk ns ∧ ∀ H', Same H H' → Q (.bl true) H'
/-- the rows rise from behind n on -/
def riseM : Int → List (Int × Int) → Prop
  | _, [] => True
  | n, r :: rs => n < r.1 ∧ 0 ≤ r.2 ∧ r.2 ≤ 3 ∧ riseM r.1 rs
def spLRow : Sp := fun vs H Q _ => ∃ (t : Addr) (r : Int × Int) (n : Int), vs = [.ref t, .int n] ∧ H t = some (.tup [.int r.1, .int r.2]) ∧ n < r.1 ∧ 0 ≤ r.2 ∧ r.2 ≤ 3 ∧ Q (.bl true) H
def spLine : Sp := fun vs H Q _ => ∃ (l : Addr) (us : List V) (ls : List (Int × Int)), vs = [.ref l] ∧ H l = some (.lst us) ∧ TupsAt H us ls ∧ riseM 0 ls ∧ Q (.bl true) H
section
variable {P : Program} {w : World} {K : PySem.W.Frag} {mg : Str → Option Value} {base : Heap} {CB CM : Addr}
abbrev sFbar : Stmt := topS 46
def scFbarN : List Str := ["kind", "address"]
theorem scFbar : FnScope scFbarN ["kind", "address"] (defScope sFbar) := ⟨rfl, rfl, rfl, by decide +kernel, rfl, by decide +kernel, by decide +kernel⟩
theorem ok_Fbar {f : Addr} {fd : FuncData} (F : Fun K "bar_of" "bar_of" sFbar f fd) (T : Tx K mg CB CM) : FnOk P w K mg base CX0 1 f fd ["kind", "address"] (spBar) := by
  refine F.ok scFbar (fun vs H Q E h => by obtain ⟨t, rfl, _⟩ := h; rfl) (fun cdv A outer s H vs Q E hr h => ?_)
  have hu := hu_of hr
  obtain ⟨t_FLASH_END, g_FLASH_END⟩ := T.g_FLASH_END
  obtain ⟨t_LINE_IN, g_LINE_IN⟩ := T.g_LINE_IN
  obtain ⟨t_PLACES_END, g_PLACES_END⟩ := T.g_PLACES_END
  obtain ⟨⟨b, a⟩, rfl, q⟩ := h
  refine ⟨_, (pss_cons (ps_if (pt_not (pt_chain op_le op_lt pe_int (pv 1) (pgI g_PLACES_END))) (pss_one (ps_ret pe_str)) pss_nil)
    (pss_cons (ps_if (pt_cmpR op_eq (pv 0) pe_str (nomark _)) (pss_one (ps_ret pe_non)) pss_nil)
    (pss_cons (ps_if (pt_cmpR op_lt (pv 1) (pgI g_FLASH_END) (nomark _)) (pss_one (ps_ret pe_str)) pss_nil)
    (pss_cons (ps_if (pt_cmpR op_eq (pv 1) (pgI g_LINE_IN) (nomark _)) (pss_one (ps_ret pe_str)) pss_nil)
    (pss_one (ps_ret pe_non)))))), ?_⟩
  have far : ¬ (0 ≤ a ∧ a < 774) → Q (.str "far") H := fun h => by
    unfold barM at q
    rw [if_pos h] at q
    exact q
  refine ⟨_, rfl, _, _, rfl, rfl, _, rfl, ifB (fun t0 => ?_) (fun t0 => ⟨_, rfl, far fun z => absurd z.1 (of_decide_eq_false t0)⟩)⟩
  refine ⟨_, _, rfl, rfl, _, rfl, ifN (fun t1 => far fun z => absurd z.2 (of_decide_eq_false t1)) (fun t1 => ?_)⟩
  have t0 := of_decide_eq_true t0
  have t1 := of_decide_eq_true t1
  unfold barM at q
  rw [if_neg (fun z => z ⟨t0, t1⟩)] at q
  cases b with
  | false => exact ⟨_, rfl, rfl, _, rfl, q⟩
  | true =>
    refine ⟨_, rfl, rfl, _, rfl, ?_⟩
    show if decide (V.str "w" = V.str "r") = true then _ else _
    rw [ne_wr, if_neg Bool.false_ne_true]
    rw [if_neg (show ¬ ((true : Bool) = false) by decide)] at q
    refine ⟨_, rfl, _, _, rfl, rfl, _, rfl, ifB (fun h => ?_) (fun h => ?_)⟩
    · rw [if_pos (of_decide_eq_true h)] at q
      exact q
    · rw [if_neg (of_decide_eq_false h)] at q
      refine ⟨_, rfl, rfl, _, rfl, ifB (fun h2 => ?_) (fun h2 => ?_)⟩
      · rw [if_pos (V.int.inj (of_decide_eq_true h2))] at q
        exact q
      · rw [if_neg (fun z => of_decide_eq_false h2 (congrArg V.int z))] at q
        exact q
abbrev sMat : Stmt := inClass (topS 47) 1
def scMatN : List Str := ["self", "address"]
theorem scMat : FnScope scMatN ["self", "address"] (defScope sMat) := ⟨rfl, rfl, rfl, by decide +kernel, rfl, by decide +kernel, by decide +kernel⟩
theorem ok_Mat {f : Addr} {fd : FuncData} (F : Fun K "word_at" "Memory.word_at" sMat f fd) (T : Tx K mg CB CM) : FnOk P w K mg base CX0 1 f fd ["self", "address"] (spMAt CM) := by
  refine F.ok scMat (fun vs H Q E h => by obtain ⟨_, _, _, _, _, _, rfl, _⟩ := h; rfl) (fun cdv A outer s H vs Q E hr h => ?_)
  have hu := hu_of hr
  obtain ⟨t_PLACES_END, g_PLACES_END⟩ := T.g_PLACES_END
  obtain ⟨m, dm, w_, s_, mem, i, rfl, M, i0, i1, q⟩ := h
  refine ⟨_, (pss_cons (ps_if (pt_chain op_le op_lt pe_int (pv 1) (pgI g_PLACES_END)) (pss_one (ps_ret (pe_ix ix_list (pe_fld (pv 0) rfl) (pv 1) (fun _ _ => rfl)))) pss_nil)
    (pss_one (ps_ret pe_non))), ?_⟩
  refine ⟨_, rfl, _, _, rfl, rfl, _, rfl, ?_⟩
  rw [if_pos (decide_eq_true i0)]
  refine ⟨_, _, rfl, rfl, _, rfl, ifB (fun _ => ?_) (fun h => absurd i1 (of_decide_eq_false h))⟩
  exact ⟨_, rfl, m, CM, dm, _, _, rfl, M.hm, T.cM, T.n_words, mF_w, _, rfl, w_, _, _, _, rfl, rfl, SqL.of M.hw, atI_rd i0 (by rw [M.lm]; exact i1), q⟩
abbrev sMread : Stmt := inClass (topS 47) 2
def scMreadN : List Str := ["self", "address", "pc"]
theorem scMread : FnScope scMreadN ["self", "address", "pc"] (defScope sMread) := ⟨rfl, rfl, rfl, by decide +kernel, rfl, by decide +kernel, by decide +kernel⟩
theorem ok_Mread {f : Addr} {fd : FuncData} (F : Fun K "read" "Memory.read" sMread f fd) (T : Tx K mg CB CM) : FnOk P w K mg base CX0 1 f fd ["self", "address", "pc"] (spMRead CM) := by
  refine F.ok scMread (fun vs H Q E h => by obtain ⟨_, _, _, _, _, _, _, rfl, _⟩ := h; rfl) (fun cdv A outer s H vs Q E hr h => ?_)
  have hu := hu_of hr
  obtain ⟨m, dm, w_, s_, mem, i, pc, rfl, M, i0, i1, q⟩ := h
  refine ⟨_, (pss_cons (ps_if (PW.pt (pw_and (pt_cmp (pc_din hu (pv 1) (pe_fld (pv 0) rfl))) (pw_and1 (pt_cmpR op_ne (pv 1) (pv 2) (nomark _))))) (pss_one (ps_ret pe_int)) pss_nil)
    (pss_one (ps_ret (pe_ix ix_list (pe_fld (pv 0) rfl) (pv 1) (fun _ _ => rfl))))), ?_⟩
  refine ⟨_, rfl, _, rfl, m, CM, dm, _, _, rfl, M.hm, T.cM, T.n_swapped, mF_s, s_, _, rfl, DGet.k (k := Sum.inl i) M.hs, _, rfl, ?_⟩
  exact ⟨_, rfl, m, CM, dm, _, _, rfl, M.hm, T.cM, T.n_words, mF_w, _, rfl, w_, _, _, _, rfl, rfl, SqL.of M.hw, atI_rd i0 (by rw [M.lm]; exact i1), q⟩
abbrev sMput : Stmt := inClass (topS 47) 3
def scMputN : List Str := ["self", "address", "word"]
theorem scMput : FnScope scMputN ["self", "address", "word"] (defScope sMput) := ⟨rfl, rfl, rfl, by decide +kernel, rfl, by decide +kernel, by decide +kernel⟩
theorem ok_Mput {f : Addr} {fd : FuncData} (F : Fun K "put" "Memory.put" sMput f fd) (T : Tx K mg CB CM) : FnOk P w K mg base CX0 1 f fd ["self", "address", "word"] (spMPut CM) := by
  refine F.ok scMput (fun vs H Q E h => by obtain ⟨_, _, _, _, _, _, _, rfl, _⟩ := h; rfl) (fun cdv A outer s H vs Q E hr h => ?_)
  have hu := hu_of hr
  obtain ⟨t_FLAGS, g_FLAGS⟩ := T.g_FLAGS
  obtain ⟨t_WORD_MOST, g_WORD_MOST⟩ := T.g_WORD_MOST
  obtain ⟨m, dm, w_, s_, mem, i, v, rfl, M, i0, i1, q⟩ := h
  refine ⟨_, (pss_one (ps_if (pt_cmpR op_eq (pv 1) (pgI g_FLAGS) (nomark _)) (pss_one (ps_asg (pe_op op_and (pe_ix ix_list (pe_fld (pv 0) rfl) (pgI g_FLAGS) (fun _ _ => rfl)) (pe_op op_sub (pgI g_WORD_MOST) (pv 2))) (pg_sub (pe_fld (pv 0) rfl) (pgI g_FLAGS) set_list))) (pss_one (ps_asg (pv 2) (pg_sub (pe_fld (pv 0) rfl) (pv 1) set_list))))), ?_⟩
  unfold putMM at q
  refine ⟨_, rfl, rfl, _, rfl, ifB (fun h => ?_) (fun h => ?_)⟩
  · have e := V.int.inj (of_decide_eq_true h)
    rw [if_pos e] at q
    refine ⟨_, rfl, m, CM, dm, _, _, rfl, M.hm, T.cM, T.n_words, mF_w, w_, _, _, _, rfl, rfl, SqL.of M.hw, atI_rd (by decide) (by rw [M.lm]; decide), _, rfl, _, _, rfl, rfl, _, _, rfl, rfl, ?_⟩
    refine ⟨_, rfl, m, CM, dm, _, _, rfl, M.hm, T.cM, T.n_words, mF_w, w_, _, _, _, rfl, rfl, M.hw, ixN_in (by decide) (by rw [List.length_map, M.lm]; decide), ?_⟩
    rw [set_map]
    exact q
  · have e : ¬ i = 770 := fun z => of_decide_eq_false h (by rw [z])
    rw [if_neg e] at q
    refine ⟨_, rfl, _, rfl, m, CM, dm, _, _, rfl, M.hm, T.cM, T.n_words, mF_w, _, rfl, w_, _, _, _, rfl, rfl, M.hw, ixN_in i0 (by rw [List.length_map, M.lm]; exact i1), ?_⟩
    rw [set_map]
    exact q
abbrev sMcalled : Stmt := inClass (topS 47) 4
def scMcalledN : List Str := ["self"]
theorem scMcalled : FnScope scMcalledN ["self"] (defScope sMcalled) := ⟨rfl, rfl, rfl, by decide +kernel, rfl, by decide +kernel, by decide +kernel⟩
theorem ok_Mcalled {f : Addr} {fd : FuncData} (F : Fun K "called_flags" "Memory.called_flags" sMcalled f fd) (T : Tx K mg CB CM) : FnOk P w K mg base CX0 1 f fd ["self"] (spMCall CM) := by
  refine F.ok scMcalled (fun vs H Q E h => by obtain ⟨_, _, _, _, _, rfl, _⟩ := h; rfl) (fun cdv A outer s H vs Q E hr h => ?_)
  have hu := hu_of hr
  obtain ⟨t_FLAGS, g_FLAGS⟩ := T.g_FLAGS
  obtain ⟨t_MASK, g_MASK⟩ := T.g_MASK
  obtain ⟨m, dm, w_, s_, mem, rfl, M, q⟩ := h
  refine ⟨_, (pss_one (ps_ret (pe_op op_and (pe_ix ix_list (pe_fld (pv 0) rfl) (pgI g_FLAGS) (fun _ _ => rfl)) (pe_ix ix_list (pe_fld (pv 0) rfl) (pgI g_MASK) (fun _ _ => rfl))))), ?_⟩
  exact ⟨_, rfl, m, CM, dm, _, _, rfl, M.hm, T.cM, T.n_words, mF_w, w_, _, _, _, rfl, rfl, SqL.of M.hw, atI_rd (by decide) (by rw [M.lm]; decide), _, rfl, m, CM, dm, _, _, rfl, M.hm, T.cM, T.n_words, mF_w, w_, _, _, _, rfl, rfl, SqL.of M.hw, atI_rd (by decide) (by rw [M.lm]; decide), _, _, rfl, rfl, q⟩
abbrev sMtake : Stmt := inClass (topS 47) 5
def scMtakeN : List Str := ["self", "value", "rises"]
theorem scMtake : FnScope scMtakeN ["self", "value"] (defScope sMtake) := ⟨rfl, rfl, rfl, by decide +kernel, rfl, by decide +kernel, by decide +kernel⟩
theorem ok_Mtake {f : Addr} {fd : FuncData} (F : Fun K "take_line" "Memory.take_line" sMtake f fd) (T : Tx K mg CB CM) : FnOk P w K mg base CX0 1 f fd ["self", "value"] (spMTake CM) := by
  refine F.ok scMtake (fun vs H Q E h => by obtain ⟨_, _, _, _, _, _, rfl, _⟩ := h; rfl) (fun cdv A outer s H vs Q E hr h => ?_)
  have hu := hu_of hr
  obtain ⟨t_FLAGS, g_FLAGS⟩ := T.g_FLAGS
  obtain ⟨t_LINE_FLAG, g_LINE_FLAG⟩ := T.g_LINE_FLAG
  obtain ⟨t_LINE_IN, g_LINE_IN⟩ := T.g_LINE_IN
  obtain ⟨m, dm, w_, s_, mem, v, rfl, M, q⟩ := h
  refine ⟨_, (pss_cons (ps_set (i := 2) scMtake.nd rfl (.inl rfl) (pe_cmpR op_gt (pe_op op_mod (pv 1) pe_int) (pe_op op_mod (pe_ix ix_list (pe_fld (pv 0) rfl) (pgI g_LINE_IN) (fun _ _ => rfl)) pe_int) (nomark _)))
    (pss_cons (ps_asg (pv 1) (pg_sub (pe_fld (pv 0) rfl) (pgI g_LINE_IN) set_list))
    (pss_one (ps_if (pt_val (pv 2)) (pss_one (ps_asg (pe_op op_or (pe_ix ix_list (pe_fld (pv 0) rfl) (pgI g_FLAGS) (fun _ _ => rfl)) (pgI g_LINE_FLAG)) (pg_sub (pe_fld (pv 0) rfl) (pgI g_FLAGS) set_list))) pss_nil)))), ?_⟩
  unfold takeLineM at q
  refine ⟨_, rfl, _, _, rfl, rfl, (by show (0 : Int) < 2; decide), _, rfl, m, CM, dm, _, _, rfl, M.hm, T.cM, T.n_words, mF_w, w_, _, _, _, rfl, rfl, SqL.of M.hw, atI_rd (by decide) (by rw [M.lm]; decide), _, _, rfl, rfl, (by show (0 : Int) < 2; decide), _, _, rfl, rfl, ?_⟩
  refine ⟨_, rfl, _, rfl, m, CM, dm, _, _, rfl, M.hm, T.cM, T.n_words, mF_w, w_, _, _, _, rfl, rfl, M.hw, ixN_in (by decide) (by rw [List.length_map, M.lm]; decide), ?_⟩
  rw [set_map]
  have mw : m ≠ w_ := ne_of M.hm M.hw (by intro q; cases q)
  have hw2 : upd H w_ (.lst ((stM mem 772 v).map V.int)) w_ = some (.lst ((stM mem 772 v).map V.int)) := upd_same
  have hm2 : upd H w_ (.lst ((stM mem 772 v).map V.int)) m = some (.ins CM dm (mmF w_ s_)) := by rw [upd_ne mw]; exact M.hm
  have l2 : (stM mem 772 v).length = 774 := by rw [stM_len]; exact M.lm
  refine ⟨_, rfl, _, rfl, ifB (fun h => ?_) (fun h => ?_)⟩
  · rw [if_pos (of_decide_eq_true h)] at q
    refine ⟨_, rfl, m, CM, dm, _, _, rfl, hm2, T.cM, T.n_words, mF_w, w_, _, _, _, rfl, rfl, SqL.of hw2, atI_rd (by decide) (by rw [l2]; decide), _, _, rfl, rfl, ?_⟩
    refine ⟨_, rfl, m, CM, dm, _, _, rfl, hm2, T.cM, T.n_words, mF_w, w_, _, _, _, rfl, rfl, hw2, ixN_in (by decide) (by rw [List.length_map, l2]; decide), ?_⟩
    rw [set_map, upd_upd]
    exact q
  · rw [if_neg (of_decide_eq_false h)] at q
    exact q
abbrev sMtimer : Stmt := inClass (topS 47) 6
def scMtimerN : List Str := ["self", "top", "count"]
theorem scMtimer : FnScope scMtimerN ["self"] (defScope sMtimer) := ⟨rfl, rfl, rfl, by decide +kernel, rfl, by decide +kernel, by decide +kernel⟩
theorem ok_Mtimer {f : Addr} {fd : FuncData} (F : Fun K "go_timer" "Memory.go_timer" sMtimer f fd) (T : Tx K mg CB CM) : FnOk P w K mg base CX0 1 f fd ["self"] (spMTim CM) := by
  refine F.ok scMtimer (fun vs H Q E h => by obtain ⟨_, _, _, _, _, rfl, _⟩ := h; rfl) (fun cdv A outer s H vs Q E hr h => ?_)
  have hu := hu_of hr
  obtain ⟨t_COUNT, g_COUNT⟩ := T.g_COUNT
  obtain ⟨t_FLAGS, g_FLAGS⟩ := T.g_FLAGS
  obtain ⟨t_TIMER_FLAG, g_TIMER_FLAG⟩ := T.g_TIMER_FLAG
  obtain ⟨t_TOP, g_TOP⟩ := T.g_TOP
  obtain ⟨m, dm, w_, s_, mem, rfl, M, q⟩ := h
  refine ⟨_, (pss_cons (ps_set (i := 1) scMtimer.nd rfl (.inl rfl) (pe_ix ix_list (pe_fld (pv 0) rfl) (pgI g_TOP) (fun _ _ => rfl)))
    (pss_cons (ps_if (pt_cmpR op_eq (pv 1) pe_int (nomark _)) (pss_one ps_retN) pss_nil)
    (pss_cons (ps_set (i := 2) scMtimer.nd rfl (.inl rfl) (pe_op op_add (pe_ix ix_list (pe_fld (pv 0) rfl) (pgI g_COUNT) (fun _ _ => rfl)) pe_int))
    (pss_cons (ps_if (pt_cmpR op_ge (pv 2) (pv 1) (nomark _)) (pss_cons (ps_set (i := 2) scMtimer.nd rfl (.inl rfl) pe_int)
    (pss_one (ps_asg (pe_op op_or (pe_ix ix_list (pe_fld (pv 0) rfl) (pgI g_FLAGS) (fun _ _ => rfl)) (pgI g_TIMER_FLAG)) (pg_sub (pe_fld (pv 0) rfl) (pgI g_FLAGS) set_list)))) pss_nil)
    (pss_one (ps_asg (pv 2) (pg_sub (pe_fld (pv 0) rfl) (pgI g_COUNT) set_list))))))), ?_⟩
  unfold goTimerM at q
  refine ⟨_, rfl, m, CM, dm, _, _, rfl, M.hm, T.cM, T.n_words, mF_w, w_, _, _, _, rfl, rfl, SqL.of M.hw, atI_rd (by decide) (by rw [M.lm]; decide), ?_⟩
  refine ⟨_, rfl, rfl, _, rfl, ifB (fun h => ?_) (fun h => ?_)⟩
  · rw [if_pos (V.int.inj (of_decide_eq_true h)), upd_id M.hw] at q
    exact q
  · rw [if_neg (fun z => of_decide_eq_false h (by rw [z]))] at q
    refine ⟨_, rfl, m, CM, dm, _, _, rfl, M.hm, T.cM, T.n_words, mF_w, w_, _, _, _, rfl, rfl, SqL.of M.hw, atI_rd (by decide) (by rw [M.lm]; decide), _, _, rfl, rfl, ?_⟩
    refine ⟨_, rfl, _, rfl, _, _, rfl, rfl, _, rfl, ifB (fun h2 => ?_) (fun h2 => ?_)⟩
    · rw [if_pos (of_decide_eq_true h2)] at q
      have mw : m ≠ w_ := ne_of M.hm M.hw (by intro q; cases q)
      refine ⟨_, rfl, m, CM, dm, _, _, rfl, M.hm, T.cM, T.n_words, mF_w, w_, _, _, _, rfl, rfl, SqL.of M.hw, atI_rd (by decide) (by rw [M.lm]; decide), _, _, rfl, rfl, ?_⟩
      refine ⟨_, rfl, m, CM, dm, _, _, rfl, M.hm, T.cM, T.n_words, mF_w, w_, _, _, _, rfl, rfl, M.hw, ixN_in (by decide) (by rw [List.length_map, M.lm]; decide), ?_⟩
      rw [set_map]
      refine ⟨_, rfl, _, rfl, m, CM, dm, _, _, rfl, (by rw [upd_ne mw]; exact M.hm), T.cM, T.n_words, mF_w, w_, _, _, _, rfl, rfl, upd_same, ixN_in (by decide) (by rw [List.length_map, stM_len, M.lm]; decide), ?_⟩
      rw [set_map, upd_upd]
      exact q
    · rw [if_neg (of_decide_eq_false h2)] at q
      refine ⟨_, rfl, _, rfl, m, CM, dm, _, _, rfl, M.hm, T.cM, T.n_words, mF_w, w_, _, _, _, rfl, rfl, M.hw, ixN_in (by decide) (by rw [List.length_map, M.lm]; decide), ?_⟩
      rw [set_map]
      exact q
end
end Bh

/-! What words, images and lines are; a memory is made. -/
namespace Bh
open PySem PySem.Spec PyProof.Rows L2
theorem flat_rep (n : Nat) (v : Int) : (List.replicate n [V.int v]).flatten = (List.replicate n v).map V.int := by
  induction n with
  | zero => rfl
  | succ n ih => rw [List.replicate_succ, List.flatten_cons, ih, List.replicate_succ, List.map_cons]; rfl
section
variable {P : Program} {w : World} {K : PySem.W.Frag} {mg : Str → Option Value} {base : Heap} {CB CM : Addr}
abbrev sFwhole : Stmt := topS 52
def scFwholeN : List Str := ["thing"]
theorem scFwhole : FnScope scFwholeN ["thing"] (defScope sFwhole) := ⟨rfl, rfl, rfl, by decide +kernel, rfl, by decide +kernel, by decide +kernel⟩
theorem ok_Fwhole {f : Addr} {fd : FuncData} (F : Fun K "is_whole" "is_whole" sFwhole f fd) (T : Tx K mg CB CM) : FnOk P w K mg base CX0 1 f fd ["thing"] (spWhole) := by
  refine F.ok scFwhole (fun vs H Q E h => by obtain ⟨_, rfl, _⟩ := h; rfl) (fun cdv A outer s H vs Q E hr h => ?_)
  have hu := hu_of hr
  have z_bool := T.z_bool
  have z_int := T.z_int
  have z_isinstance := T.z_isinstance
  obtain ⟨i, rfl, q⟩ := h
  refine ⟨_, (pss_one (ps_ret (pe_and (pe_callB call_isi (by rfl) z_isinstance (by decide +kernel) (pa_cons (pv 0) (pa_cons (pe_bltn (v := .ty "int") (u := .type "int") (by rfl) z_int (by decide +kernel) rfl) pa_nil))) (pe_one (pe_not (pe_callB call_isi (by rfl) z_isinstance (by decide +kernel) (pa_cons (pv 0) (pa_cons (pe_bltn (v := .ty "bool") (u := .type "bool") (by rfl) z_bool (by decide +kernel) rfl) pa_nil)))))))), ?_⟩
  refine ⟨_, rfl, .int i, .ty "int", _, _, true, rfl, .ty "int", .base (.int i), kit_ty (by decide +kernel), _, rfl, ifB (fun _ => ?_) (fun h => by cases h)⟩
  exact ⟨_, rfl, .int i, .ty "bool", _, _, false, rfl, .ty "bool", .base (.int i), kit_ty (by decide +kernel), _, rfl, q⟩
abbrev sFbetw : Stmt := topS 53
def scFbetwN : List Str := ["thing", "least", "greatest"]
theorem scFbetw : FnScope scFbetwN ["thing", "least", "greatest"] (defScope sFbetw) := ⟨rfl, rfl, rfl, by decide +kernel, rfl, by decide +kernel, by decide +kernel⟩
theorem ok_Fbetw {f : Addr} {fd : FuncData} {fF_whole : Addr} {dF_whole : FuncData} (F : Fun K "is_between" "is_between" sFbetw f fd) (T : Tx K mg CB CM)
    (F_whole : CalF P w K mg base 1 "is_whole" ["thing"] (spWhole) fF_whole dF_whole) : FnOk P w K mg base CX0 2 f fd ["thing", "least", "greatest"] (spBetw) := by
  refine F.ok scFbetw (fun vs H Q E h => by obtain ⟨_, _, _, rfl, _⟩ := h; rfl) (fun cdv A outer s H vs Q E hr h => ?_)
  have hu := hu_of hr
  obtain ⟨i, a, b, rfl, q⟩ := h
  refine ⟨_, (pss_one (ps_ret (pe_and (pe_call F_whole.G (hr.mono (by decide)) (by rfl) F_whole.g F_whole.kp F_whole.b .nil pass0 (pa_cons (pv 0) pa_nil)) (pe_one (pe_chain op_le op_le (pv 1) (pv 0) (pv 2)))))), ?_⟩
  refine ⟨_, rfl, i, rfl, _, rfl, ifB (fun _ => ?_) (fun h => by cases h)⟩
  refine ⟨_, rfl, _, rfl, _, _, rfl, rfl, _, rfl, ifB (fun h => ?_) (fun h => ?_)⟩
  · have h' := of_decide_eq_true h
    have e : decide (a ≤ i ∧ i ≤ b) = decide (i ≤ b) := by simp [h']
    rw [e] at q
    exact ⟨_, rfl, _, _, rfl, rfl, q⟩
  · have h' := of_decide_eq_false h
    have e : decide (a ≤ i ∧ i ≤ b) = false := by simp [h']
    rw [e] at q
    exact q
abbrev sFword : Stmt := topS 54
def scFwordN : List Str := ["thing"]
theorem scFword : FnScope scFwordN ["thing"] (defScope sFword) := ⟨rfl, rfl, rfl, by decide +kernel, rfl, by decide +kernel, by decide +kernel⟩
theorem ok_Fword {f : Addr} {fd : FuncData} {fF_betw : Addr} {dF_betw : FuncData} (F : Fun K "is_word" "is_word" sFword f fd) (T : Tx K mg CB CM)
    (F_betw : CalF P w K mg base 2 "is_between" ["thing", "least", "greatest"] (spBetw) fF_betw dF_betw) : FnOk P w K mg base CX0 3 f fd ["thing"] (spWord) := by
  refine F.ok scFword (fun vs H Q E h => by obtain ⟨_, rfl, _⟩ := h; rfl) (fun cdv A outer s H vs Q E hr h => ?_)
  have hu := hu_of hr
  obtain ⟨t_WORD_MOST, g_WORD_MOST⟩ := T.g_WORD_MOST
  obtain ⟨i, rfl, q⟩ := h
  refine ⟨_, (pss_one (ps_ret (pe_call F_betw.G (hr.mono (by decide)) (by rfl) F_betw.g F_betw.kp F_betw.b .nil pass0 (pa_cons (pv 0) (pa_cons pe_int (pa_cons (pgI g_WORD_MOST) pa_nil)))))), ?_⟩
  exact ⟨_, rfl, i, 0, 65535, rfl, q⟩
abbrev sFimage : Stmt := topS 55
def scFimageN : List Str := ["thing", "word"]
theorem scFimage : FnScope scFimageN ["thing"] (defScope sFimage) := ⟨rfl, rfl, rfl, by decide +kernel, rfl, by decide +kernel, by decide +kernel⟩
theorem ok_Fimage {f : Addr} {fd : FuncData} {fF_word : Addr} {dF_word : FuncData} (F : Fun K "is_image" "is_image" sFimage f fd) (T : Tx K mg CB CM)
    (F_word : CalF P w K mg base 3 "is_word" ["thing"] (spWord) fF_word dF_word) : FnOk P w K mg base CX0 4 f fd ["thing"] (spImg) := by
  refine F.ok scFimage (fun vs H Q E h => by obtain ⟨_, _, rfl, _⟩ := h; rfl) (fun cdv A outer s H vs Q E hr h => ?_)
  have hu := hu_of hr
  obtain ⟨t_FLASH_END, g_FLASH_END⟩ := T.g_FLASH_END
  have z_all := T.z_all
  have z_isinstance := T.z_isinstance
  have z_len := T.z_len
  have z_list := T.z_list
  obtain ⟨im, ns, rfl, hm, hl, hw, q⟩ := h
  refine ⟨_, (pss_one (ps_ret (pe_and (pe_callB call_isi (by rfl) z_isinstance (by decide +kernel) (pa_cons (pv 0) (pa_cons (pe_bltn (v := .ty "list") (u := .type "list") (by rfl) z_list (by decide +kernel) rfl) pa_nil))) (pe_and (pe_cmpR op_le (pe_callB call_len_seq (by rfl) z_len PySem.boot_len (pa_cons (pv 0) pa_nil)) (pgI g_FLASH_END) (nomark _)) (pe_one (pe_callB (cr_all rfl) (by rfl) z_all (by decide +kernel) (pa_cons (pe_lc (own := [("word", 1)]) (g := gName 1) (tt := tYes) (by rfl) scFimage.nd (pi_list (pv 0)) (blkOk_by (own := [("word", 1)]) (N := scFimageN) (sc := defScope sFimage) (by decide +kernel)) (fun _ _ _ _ _ => (pg_name (i := 1) scFimage.nd rfl (.inl rfl))) (fun _ _ _ _ _ => pts_nil) (fun _ _ _ _ _ => (pe_call F_word.G (hr.mono (by decide)) (by rfl) F_word.g F_word.kp F_word.b .nil pass0 (pa_cons (pv 1) pa_nil)))) pa_nil))))))), ?_⟩
  refine ⟨_, rfl, .ref im, .ty "list", _, _, true, rfl, .ty "list", .base (.lst hm), kit_ty (by decide +kernel), _, rfl, ifB (fun _ => ?_) (fun h => by cases h)⟩
  refine ⟨_, rfl, im, _, rfl, .inl (SqL.of hm), _, _, rfl, rfl, _, rfl, ifB (fun _ => ?_) (fun h => absurd (show ((ns.map V.int).length : Int) ≤ 512 by rw [List.length_map]; omega) (of_decide_eq_false h))⟩
  refine ⟨_, rfl, im, rfl, ⟨_, SqL.of hm⟩, fun D nD => ?_⟩
  refine lc_list (K := K) (a := im) (xs := ns.map V.int) (fun i H' => Same H H' ∧ H' D = some (.lst ((List.replicate i true).map V.bl))) ⟨same_upd' nD, upd_same⟩ (fun i H' _ h => SqL.of (h.1 _ _ hm)) ?_ ?_
  · rintro j v H' hv ⟨sm, hD⟩
    obtain ⟨n, hn, rfl⟩ : ∃ n, ns[j]? = some n ∧ V.int n = v := by
      rw [List.getElem?_map] at hv
      cases e : ns[j]? with
      | none => rw [e] at hv; cases hv
      | some n => rw [e] at hv; exact ⟨n, rfl, Option.some.inj hv⟩
    have hj := (List.getElem?_eq_some_iff.mp hn).1
    refine ⟨rfl, ?_⟩
    refine ⟨_, rfl, n, rfl, ?_⟩
    rw [decide_eq_true (hw n (List.mem_of_getElem? hn))]
    refine ⟨_, hD, ?_, same_of sm nD, ?_⟩
    · rw [List.length_map, List.length_replicate]
      exact small1000 (by omega)
    · rw [upd_same, List.replicate_succ', List.map_append]
      rfl
  · rintro H4 ⟨sm, hD⟩
    refine ⟨D, _, rfl, SqL.of hD, ?_⟩
    have e : (List.replicate (ns.map V.int).length true).all id = true := by simp
    rw [e]
    exact q _ sm
abbrev sFlrow : Stmt := topS 57
def scFlrowN : List Str := ["row", "last"]
theorem scFlrow : FnScope scFlrowN ["row", "last"] (defScope sFlrow) := ⟨rfl, rfl, rfl, by decide +kernel, rfl, by decide +kernel, by decide +kernel⟩
theorem ok_Flrow {f : Addr} {fd : FuncData} {fF_betw : Addr} {dF_betw : FuncData} {fF_whole : Addr} {dF_whole : FuncData} (F : Fun K "is_line_row" "is_line_row" sFlrow f fd) (T : Tx K mg CB CM)
    (F_betw : CalF P w K mg base 2 "is_between" ["thing", "least", "greatest"] (spBetw) fF_betw dF_betw)
    (F_whole : CalF P w K mg base 1 "is_whole" ["thing"] (spWhole) fF_whole dF_whole) : FnOk P w K mg base CX0 3 f fd ["row", "last"] (spLRow) := by
  refine F.ok scFlrow (fun vs H Q E h => by obtain ⟨_, _, _, rfl, _⟩ := h; rfl) (fun cdv A outer s H vs Q E hr h => ?_)
  have hu := hu_of hr
  obtain ⟨t_LINE_MOST, g_LINE_MOST⟩ := T.g_LINE_MOST
  have z_isinstance := T.z_isinstance
  have z_len := T.z_len
  have z_tuple := T.z_tuple
  obtain ⟨t, r, n, rfl, ht, h1, h2, h3, q⟩ := h
  refine ⟨_, (pss_cons (ps_if (PW.pt (pw_or (pt_not (pt_val (pe_callB call_isi (by rfl) z_isinstance (by decide +kernel) (pa_cons (pv 0) (pa_cons (pe_bltn (v := .ty "tuple") (u := .type "tuple") (by rfl) z_tuple (by decide +kernel) rfl) pa_nil))))) (pw_or1 (pt_cmpR op_ne (pe_callB call_len_seq (by rfl) z_len PySem.boot_len (pa_cons (pv 0) pa_nil)) pe_int (nomark _))))) (pss_one (ps_ret pe_bl)) pss_nil)
    (pss_one (ps_ret (pe_and (pe_call F_whole.G (hr.mono (by decide)) (by rfl) F_whole.g F_whole.kp F_whole.b .nil pass0 (pa_cons (pe_ix ix_tup (pv 0) pe_int (fun _ _ => rfl)) pa_nil)) (pe_and (pe_cmpR op_gt (pe_ix ix_tup (pv 0) pe_int (fun _ _ => rfl)) (pv 1) (nomark _)) (pe_one (pe_call F_betw.G (hr.mono (by decide)) (by rfl) F_betw.g F_betw.kp F_betw.b .nil pass0 (pa_cons (pe_ix ix_tup (pv 0) pe_int (fun _ _ => rfl)) (pa_cons pe_int (pa_cons (pgI g_LINE_MOST) pa_nil)))))))))), ?_⟩
  refine ⟨_, rfl, .ref t, .ty "tuple", _, _, true, rfl, .ty "tuple", .base (.tup ht), kit_ty (by decide +kernel), _, rfl, ifN (fun h => by cases h) (fun _ => ?_)⟩
  refine ⟨_, rfl, t, _, rfl, .inr (SqT.of ht), rfl, _, rfl, ifN (fun h => absurd rfl (of_decide_eq_false h)) (fun _ => ?_)⟩
  refine ⟨_, rfl, t, _, 0, _, rfl, rfl, SqT.of ht, atI_nat (j := 0) rfl, _, rfl, _, rfl, ifB (fun _ => ?_) (fun h => by cases h)⟩
  refine ⟨_, rfl, t, _, 0, _, rfl, rfl, SqT.of ht, atI_nat (j := 0) rfl, _, rfl, _, _, rfl, rfl, _, rfl, ifB (fun _ => ?_) (fun h => absurd h1 (of_decide_eq_false h))⟩
  refine ⟨_, rfl, t, _, 1, _, rfl, rfl, SqT.of ht, atI_nat (j := 1) rfl, r.2, 0, 3, rfl, ?_⟩
  rw [decide_eq_true (⟨h2, h3⟩ : 0 ≤ r.2 ∧ r.2 ≤ 3)]
  exact q
theorem rise_get : ∀ {ls : List (Int × Int)} {n : Int} {i : Nat} {r : Int × Int}, riseM n ls → ls[i]? = some r → (if i = 0 then n else (ls.getD (i - 1) (0, 0)).1) < r.1 ∧ 0 ≤ r.2 ∧ r.2 ≤ 3
  | [], _, _, _, _, h => by cases h
  | u :: us, n, 0, r, ⟨a, b, c, _⟩, h => by
    cases h
    exact ⟨a, b, c⟩
  | u :: us, n, 1, r, ⟨_, _, _, d⟩, h => by
    have := rise_get (i := 0) d h
    exact this
  | u :: us, n, i + 2, r, ⟨_, _, _, d⟩, h => by
    have := rise_get (i := i + 1) d h
    exact this
abbrev sFline : Stmt := topS 56
def scFlineN : List Str := ["thing", "last", "row"]
theorem scFline : FnScope scFlineN ["thing"] (defScope sFline) := ⟨rfl, rfl, rfl, by decide +kernel, rfl, by decide +kernel, by decide +kernel⟩
theorem ok_Fline {f : Addr} {fd : FuncData} {fF_lrow : Addr} {dF_lrow : FuncData} (F : Fun K "is_line" "is_line" sFline f fd) (T : Tx K mg CB CM)
    (F_lrow : CalF P w K mg base 3 "is_line_row" ["row", "last"] (spLRow) fF_lrow dF_lrow) : FnOk P w K mg base CX0 4 f fd ["thing"] (spLine) := by
  refine F.ok scFline (fun vs H Q E h => by obtain ⟨_, _, _, rfl, _⟩ := h; rfl) (fun cdv A outer s H vs Q E hr h => ?_)
  have hu := hu_of hr
  have z_isinstance := T.z_isinstance
  have z_list := T.z_list
  obtain ⟨l, us, ls, rfl, hl, ht, hr2, q⟩ := h
  refine ⟨_, (pss_cons (ps_if (pt_not (pt_val (pe_callB call_isi (by rfl) z_isinstance (by decide +kernel) (pa_cons (pv 0) (pa_cons (pe_bltn (v := .ty "list") (u := .type "list") (by rfl) z_list (by decide +kernel) rfl) pa_nil))))) (pss_one (ps_ret pe_bl)) pss_nil)
    (pss_cons (ps_set (i := 1) scFline.nd rfl (.inl rfl) pe_int)
    (pss_cons (ps_for PassesOwn.never rfl (pi_list (pv 0)) (pg_name (i := 2) scFline.nd rfl (.inl rfl))
      (pss_cons (ps_if (pt_not (pt_val (pe_call F_lrow.G (hr.mono (by decide)) (by rfl) F_lrow.g F_lrow.kp F_lrow.b .nil pass0 (pa_cons (pv 2) (pa_cons (pv 1) pa_nil))))) (pss_one (ps_ret pe_bl)) pss_nil)
    (pss_one (ps_set (i := 1) scFline.nd rfl (.inl rfl) (pe_ix ix_tup (pv 2) pe_int (fun _ _ => rfl))))))
    (pss_one (ps_ret pe_bl))))), ?_⟩
  refine ⟨_, rfl, .ref l, .ty "list", _, _, true, rfl, .ty "list", .base (.lst hl), kit_ty (by decide +kernel), _, rfl, ifN (fun h => by cases h) (fun _ => ?_)⟩
  refine ⟨_, rfl, l, rfl, ⟨_, SqL.of hl⟩, ?_⟩
  refine for_list (K := K) (a := l) (xs := us) (fun i σ H' => H' = H ∧ ∃ y, σ = [some (.ref l), some (.int (if i = 0 then 0 else (ls.getD (i - 1) (0, 0)).1)), y]) ⟨rfl, none, rfl⟩ (fun i σ H' _ h => by obtain ⟨rfl, _⟩ := h; exact SqL.of hl) ?_ ?_
  · rintro i v σ H' hv ⟨rfl, y, rfl⟩
    have hi : i < ls.length := by
      rw [← TupsAt.len ht]
      exact (List.getElem?_eq_some_iff.mp hv).1
    obtain ⟨t, e1, e2⟩ := TupsAt.get ht hi
    have hv2 : v = .ref t := Option.some.inj (hv.symm.trans e1)
    subst hv2
    have hg : ls[i]? = some (ls.getD i (0, 0)) := by rw [List.getD_eq_getElem?_getD, List.getElem?_eq_getElem hi]; rfl
    obtain ⟨r1, r2, r3⟩ := rise_get hr2 hg
    refine ⟨_, rfl, _, rfl, t, _, _, rfl, e2, r1, r2, r3, _, rfl, ifN (fun h => by cases h) (fun _ => ?_)⟩
    refine ⟨_, rfl, t, _, 0, _, rfl, rfl, SqT.of e2, atI_nat (j := 0) rfl, rfl, some (.ref t), rfl⟩
  · rintro σ H' ⟨rfl, y, rfl⟩
    exact q
abbrev sCmem : Stmt := inClass (topS 47) 0
def scCmemN : List Str := ["self", "image", "erased", "nought"]
theorem scCmem : FnScope scCmemN ["self", "image"] (defScope sCmem) := ⟨rfl, rfl, rfl, by decide +kernel, rfl, by decide +kernel, by decide +kernel⟩
theorem ok_Cmem {f : Addr} {fd : FuncData} (F : Fun K "__init__" "Memory.__init__" sCmem f fd) (T : Tx K mg CB CM) : FnOk P w K mg base CX0 1 f fd ["self", "image"] (spMI CM) := by
  refine F.ok scCmem (fun vs H Q E h => by obtain ⟨_, _, _, _, rfl, _⟩ := h; rfl) (fun cdv A outer s H vs Q E hr h => ?_)
  have hu := hu_of hr
  obtain ⟨t_ERASED, g_ERASED⟩ := T.g_ERASED
  obtain ⟨t_FLASH_END, g_FLASH_END⟩ := T.g_FLASH_END
  obtain ⟨t_PLACES_END, g_PLACES_END⟩ := T.g_PLACES_END
  have z_len := T.z_len
  have z_list := T.z_list
  obtain ⟨m, dm, im, ns, rfl, hm, him, hl, q⟩ := h
  refine ⟨_, (pss_cons (ps_set (i := 2) scCmem.nd rfl (.inl rfl) (pe_op op_rep (pe_lst (pa_cons (pgI g_ERASED) pa_nil)) (pe_op op_sub (pgI g_FLASH_END) (pe_callB call_len_seq (by rfl) z_len PySem.boot_len (pa_cons (pv 1) pa_nil)))))
    (pss_cons (ps_set (i := 3) scCmem.nd rfl (.inl rfl) (pe_op op_rep (pe_lst (pa_cons pe_int pa_nil)) (pe_op op_sub (pgI g_PLACES_END) (pgI g_FLASH_END))))
    (pss_cons (ps_fld (pv 0) (pe_op op_cat (pe_op op_cat (pe_callTy call_list_of (by rfl) z_list (by decide +kernel) (pa_cons (pv 1) pa_nil)) (pv 2)) (pv 3)) rfl)
    (pss_one (ps_fld (pv 0) pe_dnewK rfl))))), ?_⟩
  have mim : m ≠ im := ne_of hm him (by intro q; cases q)
  refine ⟨(by show 1 ≤ sizeLine; decide), fun l1 n1 => ?_⟩
  have s1 : Same H (upd H l1 (.lst [.int 65535])) := same_upd' n1
  refine ⟨_, rfl, im, _, rfl, .inl (SqL.of (s1 _ _ him)), _, _, rfl, rfl, l1, _, _, rfl, rfl, upd_same, ?_, ?_, ?_, fun l2 n2 => ?_⟩
  · rw [List.length_map]; omega
  · rw [List.length_map]; omega
  · rw [List.length_map, List.length_singleton]; exact hsz (by omega)
  have e2 : (List.replicate (512 - ((ns.map V.int).length : Int)).toNat [V.int 65535]).flatten = (List.replicate (512 - ns.length) (65535 : Int)).map V.int := by
    rw [List.length_map, show (512 - (ns.length : Int)).toNat = 512 - ns.length by omega]
    exact flat_rep _ _
  rw [e2]
  have s2 := s1.trans (same_upd' (o := .lst ((List.replicate (512 - ns.length) (65535 : Int)).map V.int)) n2)
  have h2 : upd (upd H l1 (.lst [.int 65535])) l2 (.lst ((List.replicate (512 - ns.length) (65535 : Int)).map V.int)) l2 = _ := upd_same
  generalize upd (upd H l1 (.lst [.int 65535])) l2 (.lst ((List.replicate (512 - ns.length) (65535 : Int)).map V.int)) = H2 at *
  refine ⟨(by show 1 ≤ sizeLine; decide), fun l3 n3 => ?_⟩
  have s3 := s2.trans (same_upd' (o := .lst [.int 0]) n3)
  have h23 := same_upd' (o := .lst [.int 0]) n3 _ _ h2
  refine ⟨_, _, rfl, rfl, l3, _, _, rfl, rfl, upd_same, by omega, by omega, (by show 1 * 262 ≤ sizeLine; decide), fun l4 n4 => ?_⟩
  have e4 : (List.replicate ((774 : Int) - 512).toNat [V.int 0]).flatten = (List.replicate 262 (0 : Int)).map V.int := flat_rep 262 0
  rw [e4]
  have s4 := s3.trans (same_upd' (o := .lst ((List.replicate 262 (0 : Int)).map V.int)) n4)
  have h24 := same_upd' (o := .lst ((List.replicate 262 (0 : Int)).map V.int)) n4 _ _ h23
  have h4 : upd (upd H2 l3 (.lst [.int 0])) l4 (.lst ((List.replicate 262 (0 : Int)).map V.int)) l4 = _ := upd_same
  generalize upd (upd H2 l3 (.lst [.int 0])) l4 (.lst ((List.replicate 262 (0 : Int)).map V.int)) = H4 at *
  refine ⟨_, rfl, im, _, rfl, .inl (SqL.of (s4 _ _ him)), fun l5 n5 => ?_⟩
  have s5 := s4.trans (same_upd' (o := .lst (ns.map V.int)) n5)
  have h25 := same_upd' (o := .lst (ns.map V.int)) n5 _ _ h24
  have h45 := same_upd' (o := .lst (ns.map V.int)) n5 _ _ h4
  refine ⟨_, rfl, l5, l2, _, _, rfl, rfl, upd_same, h25, ?_, fun l6 n6 => ?_⟩
  · rw [List.length_map, List.length_map, List.length_replicate]; exact hsz (by omega)
  have s6 := s5.trans (same_upd' (o := .lst (ns.map V.int ++ (List.replicate (512 - ns.length) (65535 : Int)).map V.int)) n6)
  have h46 := same_upd' (o := .lst (ns.map V.int ++ (List.replicate (512 - ns.length) (65535 : Int)).map V.int)) n6 _ _ h45
  refine ⟨_, rfl, l6, l4, _, _, rfl, rfl, upd_same, h46, ?_, fun l7 n7 => ?_⟩
  · rw [List.length_append, List.length_map, List.length_map, List.length_map, List.length_replicate, List.length_replicate]; exact hsz (by omega)
  have em : ns.map V.int ++ (List.replicate (512 - ns.length) (65535 : Int)).map V.int ++ (List.replicate 262 (0 : Int)).map V.int = (memOf ns).map V.int := by
    unfold memOf
    rw [List.map_append, List.map_append]
  rw [em]
  have s7 := s6.trans (same_upd' (o := .lst ((memOf ns).map V.int)) n7)
  have f7 : H l7 = none := s6.free n7
  generalize upd (upd H4 l5 (.lst (ns.map V.int))) l6 (.lst (ns.map V.int ++ (List.replicate (512 - ns.length) (65535 : Int)).map V.int)) = H6 at *
  have h7 : upd H6 l7 (.lst ((memOf ns).map V.int)) l7 = _ := upd_same
  generalize upd H6 l7 (.lst ((memOf ns).map V.int)) = H7 at *
  have ml : m ≠ l7 := ne_of_none hm f7
  refine ⟨_, rfl, m, CM, dm, [], rfl, s7 _ _ hm, T.cM, T.n_words, (by show 0 < 1000; decide), ?_⟩
  intro s_ ns_
  have ms : m ≠ s_ := fun e => by rw [← e, upd_same] at ns_; cases ns_
  rw [upd_ne ms.symm] at ns_
  refine ⟨_, rfl, m, CM, dm, _, rfl, (by rw [upd_ne ms]; exact upd_same), T.cM, T.n_swapped, (by show 1 < 1000; decide), ?_⟩
  refine q _ l7 s_ ?_ ?_ f7 (s7.free ns_)
  · refine ⟨?_, ?_, ?_, ?_⟩
    · rw [upd_same]
      exact congrArg (fun z => some (HO.ins CM dm z)) (by kernel_rfl)
    · rw [upd_ne ml.symm, upd_ne (ne_of_none h7 ns_), upd_ne ml.symm]
      exact h7
    · rw [upd_ne ms.symm, upd_same]
    · unfold memOf
      rw [List.length_append, List.length_append, List.length_replicate, List.length_replicate]
      omega
  · intro b o hb e
    rw [upd_ne hb, upd_ne (ne_of_none (s7 _ _ e) ns_), upd_ne hb]
    exact s7 _ _ e
end
end Bh

/-! What deeds touch, and what they do. -/
namespace Bh
open PySem PySem.Spec PyProof.Rows L2
def touN (nm : Str) (n b sp : Int) : List (Bool × Int) :=
  if nm ∈ rdN then [(false, n)] else if nm = "put" then [(true, n)] else if nm = "getb" then [(false, n + b)] else if nm = "putb" then [(true, n + b)]
  else if nm ∈ [("call" : Str), "push"] then [(true, sp)] else if nm ∈ [("ret" : Str), "pop"] then [(false, sp + 1)] else if nm = "back" then [(false, sp + 1), (false, sp + 2)] else []
def nmOf (op : Nat) : Str := opN.getD op Str.empty
theorem touN_op (op : Nat) (h : op < 23) (n b sp : Int) : touN (nmOf op) n b sp = touM op n b sp := by
  match op, h with
  | 0, _ => kernel_rfl
  | 1, _ => kernel_rfl
  | 2, _ => kernel_rfl
  | 3, _ => kernel_rfl
  | 4, _ => kernel_rfl
  | 5, _ => kernel_rfl
  | 6, _ => kernel_rfl
  | 7, _ => kernel_rfl
  | 8, _ => kernel_rfl
  | 9, _ => kernel_rfl
  | 10, _ => kernel_rfl
  | 11, _ => kernel_rfl
  | 12, _ => kernel_rfl
  | 13, _ => kernel_rfl
  | 14, _ => kernel_rfl
  | 15, _ => kernel_rfl
  | 16, _ => kernel_rfl
  | 17, _ => kernel_rfl
  | 18, _ => kernel_rfl
  | 19, _ => kernel_rfl
  | 20, _ => kernel_rfl
  | 21, _ => kernel_rfl
  | 22, _ => kernel_rfl
  | n + 23, h => omega
def TouAt (H : Hp) : List V → List (Bool × Int) → Prop := Paired fun v t => ∃ q, v = .ref q ∧ H q = some (.tup [.str (kS t.1), .int t.2])
theorem TouAt.mono {H H' : Hp} (k : ∀ t xs, H t = some (.tup xs) → H' t = some (.tup xs)) : ∀ {us : List V} {ls : List (Bool × Int)}, TouAt H us ls → TouAt H' us ls
  | _, _, .nil => .nil
  | _, _, .cons h r => .cons (let ⟨t, e, q⟩ := h; ⟨t, e, k _ _ q⟩) (TouAt.mono k r)
theorem TouAt.len {H : Hp} : ∀ {us : List V} {ls : List (Bool × Int)}, TouAt H us ls → us.length = ls.length
  | _, _, .nil => rfl
  | _, _, .cons _ r => by rw [List.length_cons, List.length_cons, TouAt.len r]
theorem TouAt.get {H : Hp} : ∀ {us : List V} {ls : List (Bool × Int)} {i : Nat} {v : V}, TouAt H us ls → us[i]? = some v → ∃ q t, v = .ref q ∧ ls[i]? = some t ∧ H q = some (.tup [.str (kS t.1), .int t.2])
  | _, _, _, _, .nil, h => by cases h
  | _, _, 0, _, .cons h r, e => by
    obtain ⟨t, rfl, q⟩ := h
    cases e
    exact ⟨t, _, rfl, rfl, q⟩
  | _, _, i + 1, _, .cons h r, e => TouAt.get (i := i) r e
theorem in_strs (z : Str) : ∀ ys : List Str, inV (.str z) (ys.map V.str) = decide (z ∈ ys)
  | [] => rfl
  | y :: ys => by
    have ih := in_strs z ys
    unfold inV at ih ⊢
    rw [List.map_cons, List.any_cons, ih]
    show ((y == z) || decide (z ∈ ys)) = decide (z ∈ y :: ys)
    by_cases e : y = z
    · subst e
      simp
    · have e2 : ¬ z = y := fun q => e q.symm
      have : (y == z) = false := by simpa using e
      rw [this]
      simp [e2]
theorem flat_strs' (ys : List Str) : (ys.map V.str).all flatV = true := by
  rw [List.all_eq_true]
  intro v hv
  obtain ⟨y, _, rfl⟩ := List.mem_map.mp hv
  rfl
def spTou : Sp := fun vs H Q _ => ∃ (nm : Str) (n : Int) (r : Addr) (a b pc sp : Int), vs = [.str nm, .int n, .ref r] ∧ H r = some (.dK (regD a b pc sp)) ∧
  ∀ (H' : Hp) (l : Addr) (us : List V), Same H H' → H l = none → H' l = some (.lst us) → TouAt H' us (touN nm n b sp) → Q (.ref l) H'
/-- how many words it reads -/
def nR (op : Nat) : Nat :=
  match op with
  | 2 => 1
  | 4 => 1
  | 5 => 1
  | 6 => 1
  | 7 => 1
  | 8 => 1
  | 16 => 1
  | 18 => 1
  | 21 => 2
  | _ => 0
def spDo (CB CM : Addr) (op : Nat) : Sp := fun vs H Q _ => ∃ (H0 : Hp) (p lw : Addr) (x : Bd) (n : Int) (ws : List Int), vs = [.ref p, .int n, .ref lw] ∧ BoardAt CB CM H0 H p x ∧ H lw = some (.lst (ws.map V.int)) ∧ ws.length = nR op ∧
  (∀ t ∈ touM op n x.b x.sp, 0 ≤ t.2 ∧ t.2 < 774) ∧ x.sent.length < 1000000 ∧ ∀ H', BoardAt CB CM H0 H' p (doM op n ws x) → Q .non H'
def spGive (CB CM : Addr) : Sp := fun vs H Q _ => ∃ (H0 : Hp) (p : Addr) (x : Bd) (v : Int), vs = [.ref p, .int v] ∧ BoardAt CB CM H0 H p x ∧ ∀ H', BoardAt CB CM H0 H' p (giveM v x) → Q .non H'
def spPw (CB CM : Addr) : Sp := fun vs H Q _ => ∃ (H0 : Hp) (p : Addr) (x : Bd) (a v : Int), vs = [.ref p, .int a, .int v] ∧ BoardAt CB CM H0 H p x ∧ x.sent.length < 1000000 ∧ 0 ≤ a ∧ a < 774 ∧ ∀ H', BoardAt CB CM H0 H' p (putWM a v x) → Q .non H'
theorem len1 {α : Type} {l : List α} (h : l.length = 1) : ∃ v, l = [v] := by
  match l, h with
  | [v], _ => exact ⟨v, rfl⟩
theorem len2 {α : Type} {l : List α} (h : l.length = 2) : ∃ v w, l = [v, w] := by
  match l, h with
  | [v, w], _ => exact ⟨v, w, rfl⟩
section
variable {P : Program} {w : World} {K : PySem.W.Frag} {mg : Str → Option Value} {base : Heap} {CB CM : Addr}
abbrev sFtou : Stmt := topS 5
def scFtouN : List Str := ["name", "x", "registers"]
theorem scFtou : FnScope scFtouN ["name", "x", "registers"] (defScope sFtou) := ⟨rfl, rfl, rfl, by decide +kernel, rfl, by decide +kernel, by decide +kernel⟩
theorem ok_Ftou {f : Addr} {fd : FuncData} (F : Fun K "touches_of" "touches_of" sFtou f fd) (T : Tx K mg CB CM) : FnOk P w K mg base CX0 1 f fd ["name", "x", "registers"] (spTou) := by
  refine F.ok scFtou (fun vs H Q E h => by obtain ⟨_, _, _, _, _, _, _, rfl, _⟩ := h; rfl) (fun cdv A outer s H vs Q E hr h => ?_)
  have hu := hu_of hr
  obtain ⟨nm, n, r, a, b, pc, sp, rfl, hR, q⟩ := h
  obtain ⟨aR, g_READS_AT_X, vR⟩ := T.g_READS_AT_X
  unfold touN at q
  refine ⟨_, (pss_cons (ps_if (pt_cmpR op_in_seq (pv 0) (pgR g_READS_AT_X) (by rfl)) (pss_one (ps_ret (pe_lst (pa_cons (pe_tup (pa_cons pe_str (pa_cons (pv 1) pa_nil))) pa_nil)))) pss_nil)
    (pss_cons (ps_if (pt_cmpR op_eq (pv 0) pe_str (nomark _)) (pss_one (ps_ret (pe_lst (pa_cons (pe_tup (pa_cons pe_str (pa_cons (pv 1) pa_nil))) pa_nil)))) pss_nil)
    (pss_cons (ps_if (pt_cmpR op_eq (pv 0) pe_str (nomark _)) (pss_one (ps_ret (pe_lst (pa_cons (pe_tup (pa_cons pe_str (pa_cons (pe_op op_add (pv 1) (pe_dget hu (pv 2) pe_str (fun _ _ => rfl))) pa_nil))) pa_nil)))) pss_nil)
    (pss_cons (ps_if (pt_cmpR op_eq (pv 0) pe_str (nomark _)) (pss_one (ps_ret (pe_lst (pa_cons (pe_tup (pa_cons pe_str (pa_cons (pe_op op_add (pv 1) (pe_dget hu (pv 2) pe_str (fun _ _ => rfl))) pa_nil))) pa_nil)))) pss_nil)
    (pss_cons (ps_if (pt_cmpR op_in_seq (pv 0) (pe_tup (pa_cons pe_str (pa_cons pe_str pa_nil))) (by rfl)) (pss_one (ps_ret (pe_lst (pa_cons (pe_tup (pa_cons pe_str (pa_cons (pe_dget hu (pv 2) pe_str (fun _ _ => rfl)) pa_nil))) pa_nil)))) pss_nil)
    (pss_cons (ps_if (pt_cmpR op_in_seq (pv 0) (pe_tup (pa_cons pe_str (pa_cons pe_str pa_nil))) (by rfl)) (pss_one (ps_ret (pe_lst (pa_cons (pe_tup (pa_cons pe_str (pa_cons (pe_op op_add (pe_dget hu (pv 2) pe_str (fun _ _ => rfl)) pe_int) pa_nil))) pa_nil)))) pss_nil)
    (pss_cons (ps_if (pt_cmpR op_eq (pv 0) pe_str (nomark _)) (pss_one (ps_ret (pe_lst (pa_cons (pe_tup (pa_cons pe_str (pa_cons (pe_op op_add (pe_dget hu (pv 2) pe_str (fun _ _ => rfl)) pe_int) pa_nil))) (pa_cons (pe_tup (pa_cons pe_str (pa_cons (pe_op op_add (pe_dget hu (pv 2) pe_str (fun _ _ => rfl)) pe_int) pa_nil))) pa_nil))))) pss_nil)
    (pss_one (ps_ret (pe_lst pa_nil)))))))))), ?_⟩
  refine ⟨_, rfl, aR, _, rfl, .inr (vR _), rfl, flat_strs' rdN, _, rfl, ?_⟩
  rw [if_neg Bool.false_ne_true, in_strs]
  refine ifB (fun h => ?_) (fun h => ?_)
  · rw [if_pos (of_decide_eq_true h)] at q
    exact ⟨_, rfl, (by show 2 ≤ sizeLine; decide), fun t nt => ⟨(by show 1 ≤ sizeLine; decide), fun l nl => q _ l [.ref t] ((same_upd' nt).trans (same_upd' nl)) ((same_upd' nt).free nl) upd_same (.cons ⟨t, rfl, same_upd' nl _ _ upd_same⟩ .nil)⟩⟩
  rw [if_neg (of_decide_eq_false h)] at q
  refine ⟨_, rfl, rfl, _, rfl, ifB (fun h => ?_) (fun h => ?_)⟩
  · rw [if_pos (V.str.inj (of_decide_eq_true h))] at q
    exact ⟨_, rfl, (by show 2 ≤ sizeLine; decide), fun t nt => ⟨(by show 1 ≤ sizeLine; decide), fun l nl => q _ l [.ref t] ((same_upd' nt).trans (same_upd' nl)) ((same_upd' nt).free nl) upd_same (.cons ⟨t, rfl, same_upd' nl _ _ upd_same⟩ .nil)⟩⟩
  rw [if_neg (fun z => of_decide_eq_false h (congrArg V.str z))] at q
  refine ⟨_, rfl, rfl, _, rfl, ifB (fun h => ?_) (fun h => ?_)⟩
  · rw [if_pos (V.str.inj (of_decide_eq_true h))] at q
    exact ⟨_, rfl, _, rfl, r, _, rfl, dg (k := Sum.inr "b") hR rG_b, _, _, rfl, rfl, (by show 2 ≤ sizeLine; decide), fun t nt => ⟨(by show 1 ≤ sizeLine; decide), fun l nl => q _ l [.ref t] ((same_upd' nt).trans (same_upd' nl)) ((same_upd' nt).free nl) upd_same (.cons ⟨t, rfl, same_upd' nl _ _ upd_same⟩ .nil)⟩⟩
  rw [if_neg (fun z => of_decide_eq_false h (congrArg V.str z))] at q
  refine ⟨_, rfl, rfl, _, rfl, ifB (fun h => ?_) (fun h => ?_)⟩
  · rw [if_pos (V.str.inj (of_decide_eq_true h))] at q
    exact ⟨_, rfl, _, rfl, r, _, rfl, dg (k := Sum.inr "b") hR rG_b, _, _, rfl, rfl, (by show 2 ≤ sizeLine; decide), fun t nt => ⟨(by show 1 ≤ sizeLine; decide), fun l nl => q _ l [.ref t] ((same_upd' nt).trans (same_upd' nl)) ((same_upd' nt).free nl) upd_same (.cons ⟨t, rfl, same_upd' nl _ _ upd_same⟩ .nil)⟩⟩
  rw [if_neg (fun z => of_decide_eq_false h (congrArg V.str z))] at q
  refine ⟨_, rfl, (by show 2 ≤ sizeLine; decide), fun c1 nc1 => ?_⟩
  have sc1 := same_upd' (o := .tup [V.str "call", V.str "push"]) nc1
  have hc1 : upd H c1 (.tup [V.str "call", V.str "push"]) c1 = some (.tup ([("call" : Str), "push"].map V.str)) := upd_same
  generalize upd H c1 (.tup [V.str "call", V.str "push"]) = H1 at *
  refine ⟨c1, _, rfl, .inr (SqT.of hc1), rfl, flat_strs' _, _, rfl, ?_⟩
  rw [if_neg Bool.false_ne_true, in_strs]
  refine ifB (fun h => ?_) (fun h => ?_)
  · rw [if_pos (of_decide_eq_true h)] at q
    exact ⟨_, rfl, r, _, rfl, dg (k := Sum.inr "sp") (sc1 _ _ hR) rG_sp, (by show 2 ≤ sizeLine; decide), fun t nt => ⟨(by show 1 ≤ sizeLine; decide), fun l nl => q _ l [.ref t] ((sc1.trans (same_upd' nt)).trans (same_upd' nl)) ((sc1.trans (same_upd' nt)).free nl) upd_same (.cons ⟨t, rfl, same_upd' nl _ _ upd_same⟩ .nil)⟩⟩
  rw [if_neg (of_decide_eq_false h)] at q
  refine ⟨_, rfl, (by show 2 ≤ sizeLine; decide), fun c2 nc2 => ?_⟩
  have sc2 := sc1.trans (same_upd' (o := .tup [V.str "ret", V.str "pop"]) nc2)
  have hc2 : upd H1 c2 (.tup [V.str "ret", V.str "pop"]) c2 = some (.tup ([("ret" : Str), "pop"].map V.str)) := upd_same
  generalize upd H1 c2 (.tup [V.str "ret", V.str "pop"]) = H2 at *
  refine ⟨c2, _, rfl, .inr (SqT.of hc2), rfl, flat_strs' _, _, rfl, ?_⟩
  rw [if_neg Bool.false_ne_true, in_strs]
  refine ifB (fun h => ?_) (fun h => ?_)
  · rw [if_pos (of_decide_eq_true h)] at q
    exact ⟨_, rfl, r, _, rfl, dg (k := Sum.inr "sp") (sc2 _ _ hR) rG_sp, _, _, rfl, rfl, (by show 2 ≤ sizeLine; decide), fun t nt => ⟨(by show 1 ≤ sizeLine; decide), fun l nl => q _ l [.ref t] ((sc2.trans (same_upd' nt)).trans (same_upd' nl)) ((sc2.trans (same_upd' nt)).free nl) upd_same (.cons ⟨t, rfl, same_upd' nl _ _ upd_same⟩ .nil)⟩⟩
  rw [if_neg (of_decide_eq_false h)] at q
  refine ⟨_, rfl, rfl, _, rfl, ifB (fun h => ?_) (fun h => ?_)⟩
  · rw [if_pos (V.str.inj (of_decide_eq_true h))] at q
    refine ⟨_, rfl, r, _, rfl, dg (k := Sum.inr "sp") (sc2 _ _ hR) rG_sp, _, _, rfl, rfl, (by show 2 ≤ sizeLine; decide), fun t nt => ?_⟩
    have sc3 := sc2.trans (same_upd' (o := .tup [V.str "r", V.int (sp + 1)]) nt)
    have ht : upd H2 t (.tup [V.str "r", V.int (sp + 1)]) t = some (.tup [V.str "r", V.int (sp + 1)]) := upd_same
    generalize upd H2 t (.tup [V.str "r", V.int (sp + 1)]) = H3 at *
    refine ⟨_, rfl, r, _, rfl, dg (k := Sum.inr "sp") (sc3 _ _ hR) rG_sp, _, _, rfl, rfl, (by show 2 ≤ sizeLine; decide), fun t2 nt2 => ⟨(by show 2 ≤ sizeLine; decide), fun l nl => ?_⟩⟩
    exact q _ l [.ref t, .ref t2] ((sc3.trans (same_upd' nt2)).trans (same_upd' nl)) ((sc3.trans (same_upd' nt2)).free nl) upd_same (.cons ⟨t, rfl, same_upd' nl _ _ (same_upd' nt2 _ _ ht)⟩ (.cons ⟨t2, rfl, same_upd' nl _ _ upd_same⟩ .nil))
  rw [if_neg (fun z => of_decide_eq_false h (congrArg V.str z))] at q
  exact ⟨Nat.zero_le _, fun l nl => q _ l [] (sc2.trans (same_upd' nl)) (sc2.free nl) upd_same .nil⟩
abbrev sFgive : Stmt := topS 6
def scFgiveN : List Str := ["board", "word"]
theorem scFgive : FnScope scFgiveN ["board", "word"] (defScope sFgive) := ⟨rfl, rfl, rfl, by decide +kernel, rfl, by decide +kernel, by decide +kernel⟩
theorem ok_Fgive {f : Addr} {fd : FuncData} (F : Fun K "give" "give" sFgive f fd) (T : Tx K mg CB CM) : FnOk P w K mg base CX0 1 f fd ["board", "word"] (spGive CB CM) := by
  refine F.ok scFgive (fun vs H Q E h => by obtain ⟨_, _, _, _, rfl, _⟩ := h; rfl) (fun cdv A outer s H vs Q E hr h => ?_)
  have hu := hu_of hr
  obtain ⟨H0, p, x, v, rfl, R, k⟩ := h
  obtain ⟨A, ts, ls, B⟩ := R
  obtain ⟨sv, tv, dv, hp, hz⟩ := B.hp
  refine ⟨_, (pss_cons (ps_dput hu (pe_fld (pv 0) rfl) pe_str (pv 1) rfl)
    (pss_one (ps_fld (pv 0) (pe_cmpR op_eq (pv 1) pe_int (nomark _)) rfl))), ?_⟩
  refine ⟨_, rfl, _, rfl, p, CB, A.dx, _, _, rfl, hp, T.cB, T.n_registers, bF_reg, A.r, _, rfl, dp (k := Sum.inr "a") B.hr rP_a, ?_⟩
  have B1 := B.regs (a := v) (b := x.b) (pc := x.pc) (sp := x.sp)
  obtain ⟨sv1, tv1, dv1, hp1, hz1⟩ := B1.hp
  refine ⟨_, rfl, rfl, _, rfl, p, CB, A.dx, _, rfl, hp1, T.cB, T.n_zero, (by show 13 < 1000; decide), ?_⟩
  rw [bP_zero]
  have B2 := B1.fld (z := decide (V.int v = V.int 0)) (le := x.lets) (as := x.asleep) (bt := x.beat) (sv := sv1) (la := x.la) (tv := tv1) (dv := dv1) hz1
  have e : decide (V.int v = V.int 0) = decide (v = 0) := by
    by_cases h : v = 0
    · rw [decide_eq_true h, h]; rfl
    · rw [decide_eq_false h]; exact decide_eq_false fun z => h (V.int.inj z)
  rw [e] at B2 ⊢
  exact k _ ⟨A, ts, ls, B2⟩
abbrev sMpw : Stmt := inClass (topS 64) 11
def scMpwN : List Str := ["self", "address", "word"]
theorem scMpw : FnScope scMpwN ["self", "address", "word"] (defScope sMpw) := ⟨rfl, rfl, rfl, by decide +kernel, rfl, by decide +kernel, by decide +kernel⟩
theorem ok_Mpw {f : Addr} {fd : FuncData} {fM_put : Addr} {dM_put : FuncData} (F : Fun K "put_word" "Board.put_word" sMpw f fd) (T : Tx K mg CB CM)
    (M_put : CalM P w K mg base CM 1 "put" ["self", "address", "word"] (spMPut CM) fM_put dM_put) : FnOk P w K mg base CX0 2 f fd ["self", "address", "word"] (spPw CB CM) := by
  refine F.ok scMpw (fun vs H Q E h => by obtain ⟨_, _, _, _, _, rfl, _⟩ := h; rfl) (fun cdv A outer s H vs Q E hr h => ?_)
  have hu := hu_of hr
  obtain ⟨t_LINE_OUT, g_LINE_OUT⟩ := T.g_LINE_OUT
  obtain ⟨H0, p, x, a, v, rfl, R, hsl, a0, a1, k⟩ := h
  obtain ⟨A, ts, ls, B⟩ := R
  obtain ⟨sv, tv, dv, hp, hz⟩ := B.hp
  refine ⟨_, (pss_cons (ps_if (pt_cmpR op_eq (pv 1) (pgI g_LINE_OUT) (nomark _)) (pss_one (ps_expr (pe_bm PySem.F.plainAttrs_list PySem.F.slot_list_append PySem.F.type_list_append mt_append (pe_fld (pv 0) rfl) (pa_cons (pe_tup (pa_cons (pe_fld (pv 0) rfl) (pa_cons (pv 2) pa_nil))) pa_nil)))) pss_nil)
    (pss_one (ps_expr (pe_meth (pe_fld (pv 0) rfl) M_put.c M_put.m M_put.G (hr.mono (by decide)) M_put.b .nil pass0 (pa_cons (pv 1) (pa_cons (pv 2) pa_nil)))))), ?_⟩
  have fin : ∀ H1 y ts1, Bp CB CM H0 H1 p A ts1 ls y → y = sendM a v x → ∃ sv tv dv, H1 p = some (.ins CB A.dx (bdF A.r A.t A.m A.l y.zero y.lets y.asleep y.beat sv y.la tv dv)) ∧ MemAt CM H1 A.m A.dm A.w A.s y.mem ∧ Q .non (upd H1 A.w (.lst ((putMM a v y.mem).map V.int))) := fun H1 y ts1 B1 e => by
    obtain ⟨sv, tv, dv, hp, hz⟩ := B1.hp
    refine ⟨sv, tv, dv, hp, B1.mem, k _ ⟨A, ts1, ls, ?_⟩⟩
    have B2 := B1.wds (m := putMM a v y.mem) (by rw [putMM_len]; exact B1.lm)
    have e2 : putWM a v x = { y with mem := putMM a v y.mem } := by
      unfold putWM
      rw [e]
      have : (sendM a v x).mem = x.mem := by unfold sendM; split <;> rfl
      rw [this]
    rw [e2]
    exact B2
  refine ⟨_, rfl, rfl, _, rfl, ifB (fun h => ?_) (fun h => ?_)⟩
  · have ea := V.int.inj (of_decide_eq_true h)
    refine ⟨_, rfl, p, CB, A.dx, _, _, rfl, hp, T.cB, T.n_sent, bF_sent, .inl ⟨rfl, _, SqL.of B.ht⟩, _, rfl, p, CB, A.dx, _, _, rfl, hp, T.cB, T.n_beat, bF_beat, _, rfl, (by show 2 ≤ sizeLine; decide), fun q nq => ?_⟩
    have B1 := B.more (o := .tup [V.int x.beat, V.int v]) nq
    refine ⟨A.t, ts, _, rfl, rfl, B1.ht, (by rw [TupsAt.len B.us]; exact Nat.lt_of_lt_of_le hsl (by decide)), ?_⟩
    have B2 := B1.snd (q := q) (u := (x.beat, v)) upd_same
    obtain ⟨sv2, tv2, dv2, hp2, M2, fin2⟩ := fin _ _ _ B2 (by unfold sendM; rw [if_pos ea])
    exact ⟨_, rfl, p, CB, A.dx, _, _, rfl, hp2, T.cB, T.n_memory, bF_mem, A.m, A.dm, _, rfl, M2.hm, mN_put, _, rfl, _, rfl, A.m, A.dm, A.w, A.s, _, a, v, rfl, M2, a0, a1, fin2⟩
  · have ea : ¬ a = 773 := fun z => of_decide_eq_false h (congrArg V.int z)
    obtain ⟨sv2, tv2, dv2, hp2, M2, fin2⟩ := fin _ _ _ B (by unfold sendM; rw [if_neg ea])
    exact ⟨_, rfl, p, CB, A.dx, _, _, rfl, hp2, T.cB, T.n_memory, bF_mem, A.m, A.dm, _, rfl, M2.hm, mN_put, _, rfl, _, rfl, A.m, A.dm, A.w, A.s, _, a, v, rfl, M2, a0, a1, fin2⟩
abbrev sMpbt : Stmt := inClass (topS 64) 10
def scMpbtN : List Str := ["self", "address", "word"]
theorem scMpbt : FnScope scMpbtN ["self", "address", "word"] (defScope sMpbt) := ⟨rfl, rfl, rfl, by decide +kernel, rfl, by decide +kernel, by decide +kernel⟩
theorem ok_Mpbt {f : Addr} {fd : FuncData} {fM_pw : Addr} {dM_pw : FuncData} (F : Fun K "put_by_turn" "Board.put_by_turn" sMpbt f fd) (T : Tx K mg CB CM)
    (M_pw : CalM P w K mg base CB 2 "put_word" ["self", "address", "word"] (spPw CB CM) fM_pw dM_pw) : FnOk P w K mg base CX0 3 f fd ["self", "address", "word"] (spPw CB CM) := by
  refine F.ok scMpbt (fun vs H Q E h => by obtain ⟨_, _, _, _, _, rfl, _⟩ := h; rfl) (fun cdv A outer s H vs Q E hr h => ?_)
  have hu := hu_of hr
  obtain ⟨H0, p, x, a, v, rfl, R, hsl, a0, a1, k⟩ := h
  obtain ⟨A, ts, ls, B⟩ := R
  obtain ⟨sv, tv, dv, hp, hz⟩ := B.hp
  refine ⟨_, (pss_cons (ps_if (pt_cmp (pc_din hu (pv 1) (pe_fld (pe_fld (pv 0) rfl) rfl))) (pss_one (ps_ddel (pe_fld (pe_fld (pv 0) rfl) rfl) (pv 1))) pss_nil)
    (pss_one (ps_expr (pe_meth (pv 0) M_pw.c M_pw.m M_pw.G (hr.mono (by decide)) M_pw.b .nil pass0 (pa_cons (pv 1) (pa_cons (pv 2) pa_nil)))))), ?_⟩
  refine ⟨_, rfl, _, rfl, p, CB, A.dx, _, _, rfl, hp, T.cB, T.n_memory, bF_mem, A.m, CM, A.dm, _, _, rfl, B.hm, T.cM, T.n_swapped, mF_s, A.s, _, rfl, DGet.k (k := Sum.inl a) B.hs, _, rfl, ?_⟩
  exact ⟨_, rfl, p, A.dx, _, rfl, hp, bN_pw, _, rfl, _, rfl, H0, p, x, a, v, rfl, ⟨A, ts, ls, B⟩, hsl, a0, a1, k⟩
end
end Bh

/-! What each deed does. -/
namespace Bh
open PySem PySem.Spec PyProof.Rows L2
section
variable {P : Program} {w : World} {K : PySem.W.Frag} {mg : Str → Option Value} {base : Heap} {CB CM : Addr}
abbrev sD1 : Stmt := topS 7
def scD1N : List Str := ["board", "x", "words"]
theorem scD1 : FnScope scD1N ["board", "x", "words"] (defScope sD1) := ⟨rfl, rfl, rfl, by decide +kernel, rfl, by decide +kernel, by decide +kernel⟩
theorem ok_D1 {f : Addr} {fd : FuncData} {fF_give : Addr} {dF_give : FuncData} (F : Fun K "do_lit" "do_lit" sD1 f fd) (T : Tx K mg CB CM)
    (F_give : CalF P w K mg base 1 "give" ["board", "word"] (spGive CB CM) fF_give dF_give) : FnOk P w K mg base CX0 4 f fd ["board", "x", "words"] (spDo CB CM 1) := by
  refine F.ok scD1 (fun vs H Q E h => by obtain ⟨_, _, _, _, _, _, rfl, _⟩ := h; rfl) (fun cdv A outer s H vs Q E hr h => ?_)
  have hu := hu_of hr
  obtain ⟨H0, p, lw, x, n, ws, rfl, R, hlw, hws, hto, hsl, k⟩ := h
  refine ⟨_, (pss_one (ps_expr (pe_call F_give.G (hr.mono (by decide)) (by rfl) F_give.g F_give.kp F_give.b .nil pass0 (pa_cons (pv 0) (pa_cons (pv 1) pa_nil))))), ?_⟩
  exact ⟨_, rfl, _, rfl, H0, p, x, n, rfl, R, k⟩
abbrev sD2 : Stmt := topS 8
def scD2N : List Str := ["board", "x", "words"]
theorem scD2 : FnScope scD2N ["board", "x", "words"] (defScope sD2) := ⟨rfl, rfl, rfl, by decide +kernel, rfl, by decide +kernel, by decide +kernel⟩
theorem ok_D2 {f : Addr} {fd : FuncData} {fF_give : Addr} {dF_give : FuncData} (F : Fun K "do_get" "do_get" sD2 f fd) (T : Tx K mg CB CM)
    (F_give : CalF P w K mg base 1 "give" ["board", "word"] (spGive CB CM) fF_give dF_give) : FnOk P w K mg base CX0 4 f fd ["board", "x", "words"] (spDo CB CM 2) := by
  refine F.ok scD2 (fun vs H Q E h => by obtain ⟨_, _, _, _, _, _, rfl, _⟩ := h; rfl) (fun cdv A outer s H vs Q E hr h => ?_)
  have hu := hu_of hr
  obtain ⟨H0, p, lw, x, n, ws, rfl, R, hlw, hws, hto, hsl, k⟩ := h
  obtain ⟨v, rfl⟩ := len1 hws
  refine ⟨_, (pss_one (ps_expr (pe_call F_give.G (hr.mono (by decide)) (by rfl) F_give.g F_give.kp F_give.b .nil pass0 (pa_cons (pv 0) (pa_cons (pe_ix ix_list (pv 2) pe_int (fun _ _ => rfl)) pa_nil))))), ?_⟩
  exact ⟨_, rfl, _, rfl, lw, _, 0, _, rfl, rfl, SqL.of hlw, atI_nat (j := 0) rfl, H0, p, x, v, rfl, R, k⟩
abbrev sD8 : Stmt := topS 8
def scD8N : List Str := ["board", "x", "words"]
theorem scD8 : FnScope scD8N ["board", "x", "words"] (defScope sD8) := ⟨rfl, rfl, rfl, by decide +kernel, rfl, by decide +kernel, by decide +kernel⟩
theorem ok_D8 {f : Addr} {fd : FuncData} {fF_give : Addr} {dF_give : FuncData} (F : Fun K "do_get" "do_get" sD8 f fd) (T : Tx K mg CB CM)
    (F_give : CalF P w K mg base 1 "give" ["board", "word"] (spGive CB CM) fF_give dF_give) : FnOk P w K mg base CX0 4 f fd ["board", "x", "words"] (spDo CB CM 8) := by
  refine F.ok scD8 (fun vs H Q E h => by obtain ⟨_, _, _, _, _, _, rfl, _⟩ := h; rfl) (fun cdv A outer s H vs Q E hr h => ?_)
  have hu := hu_of hr
  obtain ⟨H0, p, lw, x, n, ws, rfl, R, hlw, hws, hto, hsl, k⟩ := h
  obtain ⟨v, rfl⟩ := len1 hws
  refine ⟨_, (pss_one (ps_expr (pe_call F_give.G (hr.mono (by decide)) (by rfl) F_give.g F_give.kp F_give.b .nil pass0 (pa_cons (pv 0) (pa_cons (pe_ix ix_list (pv 2) pe_int (fun _ _ => rfl)) pa_nil))))), ?_⟩
  exact ⟨_, rfl, _, rfl, lw, _, 0, _, rfl, rfl, SqL.of hlw, atI_nat (j := 0) rfl, H0, p, x, v, rfl, R, k⟩
abbrev sD3 : Stmt := topS 9
def scD3N : List Str := ["board", "x", "words"]
theorem scD3 : FnScope scD3N ["board", "x", "words"] (defScope sD3) := ⟨rfl, rfl, rfl, by decide +kernel, rfl, by decide +kernel, by decide +kernel⟩
theorem ok_D3 {f : Addr} {fd : FuncData} {fM_pbt : Addr} {dM_pbt : FuncData} (F : Fun K "do_put" "do_put" sD3 f fd) (T : Tx K mg CB CM)
    (M_pbt : CalM P w K mg base CB 3 "put_by_turn" ["self", "address", "word"] (spPw CB CM) fM_pbt dM_pbt) : FnOk P w K mg base CX0 4 f fd ["board", "x", "words"] (spDo CB CM 3) := by
  refine F.ok scD3 (fun vs H Q E h => by obtain ⟨_, _, _, _, _, _, rfl, _⟩ := h; rfl) (fun cdv A outer s H vs Q E hr h => ?_)
  have hu := hu_of hr
  obtain ⟨H0, p, lw, x, n, ws, rfl, R, hlw, hws, hto, hsl, k⟩ := h
  obtain ⟨A, ts, ls, B⟩ := R
  obtain ⟨sv, tv, dv, hp, hz⟩ := B.hp
  obtain ⟨t0, t1⟩ := hto (true, n) (List.mem_singleton.mpr rfl)
  refine ⟨_, (pss_one (ps_expr (pe_meth (pv 0) M_pbt.c M_pbt.m M_pbt.G (hr.mono (by decide)) M_pbt.b .nil pass0 (pa_cons (pv 1) (pa_cons (pe_dget hu (pe_fld (pv 0) rfl) pe_str (fun _ _ => rfl)) pa_nil))))), ?_⟩
  exact ⟨_, rfl, p, A.dx, _, rfl, hp, bN_pbt, _, rfl, _, rfl, p, CB, A.dx, _, _, rfl, hp, T.cB, T.n_registers, bF_reg, A.r, _, rfl, dg (k := Sum.inr "a") B.hr rG_a, H0, p, x, n, x.a, rfl, ⟨A, ts, ls, B⟩, hsl, t0, t1, k⟩
abbrev sD4 : Stmt := topS 10
def scD4N : List Str := ["board", "x", "words"]
theorem scD4 : FnScope scD4N ["board", "x", "words"] (defScope sD4) := ⟨rfl, rfl, rfl, by decide +kernel, rfl, by decide +kernel, by decide +kernel⟩
theorem ok_D4 {f : Addr} {fd : FuncData} {fF_give : Addr} {dF_give : FuncData} (F : Fun K "do_add" "do_add" sD4 f fd) (T : Tx K mg CB CM)
    (F_give : CalF P w K mg base 1 "give" ["board", "word"] (spGive CB CM) fF_give dF_give) : FnOk P w K mg base CX0 4 f fd ["board", "x", "words"] (spDo CB CM 4) := by
  refine F.ok scD4 (fun vs H Q E h => by obtain ⟨_, _, _, _, _, _, rfl, _⟩ := h; rfl) (fun cdv A outer s H vs Q E hr h => ?_)
  have hu := hu_of hr
  obtain ⟨t_WORDS, g_WORDS⟩ := T.g_WORDS
  obtain ⟨H0, p, lw, x, n, ws, rfl, R, hlw, hws, hto, hsl, k⟩ := h
  obtain ⟨v, rfl⟩ := len1 hws
  obtain ⟨A, ts, ls, B⟩ := R
  obtain ⟨sv, tv, dv, hp, hz⟩ := B.hp
  refine ⟨_, (pss_one (ps_expr (pe_call F_give.G (hr.mono (by decide)) (by rfl) F_give.g F_give.kp F_give.b .nil pass0 (pa_cons (pv 0) (pa_cons (pe_op op_mod (pe_op op_add (pe_dget hu (pe_fld (pv 0) rfl) pe_str (fun _ _ => rfl)) (pe_ix ix_list (pv 2) pe_int (fun _ _ => rfl))) (pgI g_WORDS)) pa_nil))))), ?_⟩
  exact ⟨_, rfl, _, rfl, p, CB, A.dx, _, _, rfl, hp, T.cB, T.n_registers, bF_reg, A.r, _, rfl, dg (k := Sum.inr "a") B.hr rG_a, _, rfl, lw, _, 0, _, rfl, rfl, SqL.of hlw, atI_nat (j := 0) rfl, _, _, rfl, rfl, _, _, rfl, rfl, (by show (0 : Int) < 65536; decide), H0, p, x, (x.a + v) % 65536, rfl, ⟨A, ts, ls, B⟩, k⟩
abbrev sD5 : Stmt := topS 11
def scD5N : List Str := ["board", "x", "words"]
theorem scD5 : FnScope scD5N ["board", "x", "words"] (defScope sD5) := ⟨rfl, rfl, rfl, by decide +kernel, rfl, by decide +kernel, by decide +kernel⟩
theorem ok_D5 {f : Addr} {fd : FuncData} {fF_give : Addr} {dF_give : FuncData} (F : Fun K "do_sub" "do_sub" sD5 f fd) (T : Tx K mg CB CM)
    (F_give : CalF P w K mg base 1 "give" ["board", "word"] (spGive CB CM) fF_give dF_give) : FnOk P w K mg base CX0 4 f fd ["board", "x", "words"] (spDo CB CM 5) := by
  refine F.ok scD5 (fun vs H Q E h => by obtain ⟨_, _, _, _, _, _, rfl, _⟩ := h; rfl) (fun cdv A outer s H vs Q E hr h => ?_)
  have hu := hu_of hr
  obtain ⟨t_WORDS, g_WORDS⟩ := T.g_WORDS
  obtain ⟨H0, p, lw, x, n, ws, rfl, R, hlw, hws, hto, hsl, k⟩ := h
  obtain ⟨v, rfl⟩ := len1 hws
  obtain ⟨A, ts, ls, B⟩ := R
  obtain ⟨sv, tv, dv, hp, hz⟩ := B.hp
  refine ⟨_, (pss_one (ps_expr (pe_call F_give.G (hr.mono (by decide)) (by rfl) F_give.g F_give.kp F_give.b .nil pass0 (pa_cons (pv 0) (pa_cons (pe_op op_mod (pe_op op_sub (pe_dget hu (pe_fld (pv 0) rfl) pe_str (fun _ _ => rfl)) (pe_ix ix_list (pv 2) pe_int (fun _ _ => rfl))) (pgI g_WORDS)) pa_nil))))), ?_⟩
  exact ⟨_, rfl, _, rfl, p, CB, A.dx, _, _, rfl, hp, T.cB, T.n_registers, bF_reg, A.r, _, rfl, dg (k := Sum.inr "a") B.hr rG_a, _, rfl, lw, _, 0, _, rfl, rfl, SqL.of hlw, atI_nat (j := 0) rfl, _, _, rfl, rfl, _, _, rfl, rfl, (by show (0 : Int) < 65536; decide), H0, p, x, (x.a - v) % 65536, rfl, ⟨A, ts, ls, B⟩, k⟩
abbrev sD6 : Stmt := topS 12
def scD6N : List Str := ["board", "x", "words"]
theorem scD6 : FnScope scD6N ["board", "x", "words"] (defScope sD6) := ⟨rfl, rfl, rfl, by decide +kernel, rfl, by decide +kernel, by decide +kernel⟩
theorem ok_D6 {f : Addr} {fd : FuncData} {fF_give : Addr} {dF_give : FuncData} (F : Fun K "do_and" "do_and" sD6 f fd) (T : Tx K mg CB CM)
    (F_give : CalF P w K mg base 1 "give" ["board", "word"] (spGive CB CM) fF_give dF_give) : FnOk P w K mg base CX0 4 f fd ["board", "x", "words"] (spDo CB CM 6) := by
  refine F.ok scD6 (fun vs H Q E h => by obtain ⟨_, _, _, _, _, _, rfl, _⟩ := h; rfl) (fun cdv A outer s H vs Q E hr h => ?_)
  have hu := hu_of hr
  obtain ⟨H0, p, lw, x, n, ws, rfl, R, hlw, hws, hto, hsl, k⟩ := h
  obtain ⟨v, rfl⟩ := len1 hws
  obtain ⟨A, ts, ls, B⟩ := R
  obtain ⟨sv, tv, dv, hp, hz⟩ := B.hp
  refine ⟨_, (pss_one (ps_expr (pe_call F_give.G (hr.mono (by decide)) (by rfl) F_give.g F_give.kp F_give.b .nil pass0 (pa_cons (pv 0) (pa_cons (pe_op op_and (pe_dget hu (pe_fld (pv 0) rfl) pe_str (fun _ _ => rfl)) (pe_ix ix_list (pv 2) pe_int (fun _ _ => rfl))) pa_nil))))), ?_⟩
  exact ⟨_, rfl, _, rfl, p, CB, A.dx, _, _, rfl, hp, T.cB, T.n_registers, bF_reg, A.r, _, rfl, dg (k := Sum.inr "a") B.hr rG_a, _, rfl, lw, _, 0, _, rfl, rfl, SqL.of hlw, atI_nat (j := 0) rfl, _, _, rfl, rfl, H0, p, x, Builtin.bitAnd x.a v, rfl, ⟨A, ts, ls, B⟩, k⟩
abbrev sD7 : Stmt := topS 13
def scD7N : List Str := ["board", "x", "words"]
theorem scD7 : FnScope scD7N ["board", "x", "words"] (defScope sD7) := ⟨rfl, rfl, rfl, by decide +kernel, rfl, by decide +kernel, by decide +kernel⟩
theorem ok_D7 {f : Addr} {fd : FuncData} {fF_give : Addr} {dF_give : FuncData} (F : Fun K "do_xor" "do_xor" sD7 f fd) (T : Tx K mg CB CM)
    (F_give : CalF P w K mg base 1 "give" ["board", "word"] (spGive CB CM) fF_give dF_give) : FnOk P w K mg base CX0 4 f fd ["board", "x", "words"] (spDo CB CM 7) := by
  refine F.ok scD7 (fun vs H Q E h => by obtain ⟨_, _, _, _, _, _, rfl, _⟩ := h; rfl) (fun cdv A outer s H vs Q E hr h => ?_)
  have hu := hu_of hr
  obtain ⟨H0, p, lw, x, n, ws, rfl, R, hlw, hws, hto, hsl, k⟩ := h
  obtain ⟨v, rfl⟩ := len1 hws
  obtain ⟨A, ts, ls, B⟩ := R
  obtain ⟨sv, tv, dv, hp, hz⟩ := B.hp
  refine ⟨_, (pss_one (ps_expr (pe_call F_give.G (hr.mono (by decide)) (by rfl) F_give.g F_give.kp F_give.b .nil pass0 (pa_cons (pv 0) (pa_cons (pe_op op_xor (pe_dget hu (pe_fld (pv 0) rfl) pe_str (fun _ _ => rfl)) (pe_ix ix_list (pv 2) pe_int (fun _ _ => rfl))) pa_nil))))), ?_⟩
  exact ⟨_, rfl, _, rfl, p, CB, A.dx, _, _, rfl, hp, T.cB, T.n_registers, bF_reg, A.r, _, rfl, dg (k := Sum.inr "a") B.hr rG_a, _, rfl, lw, _, 0, _, rfl, rfl, SqL.of hlw, atI_nat (j := 0) rfl, _, _, rfl, rfl, H0, p, x, Builtin.bitXor x.a v, rfl, ⟨A, ts, ls, B⟩, k⟩
abbrev sD9 : Stmt := topS 14
def scD9N : List Str := ["board", "x", "words"]
theorem scD9 : FnScope scD9N ["board", "x", "words"] (defScope sD9) := ⟨rfl, rfl, rfl, by decide +kernel, rfl, by decide +kernel, by decide +kernel⟩
theorem ok_D9 {f : Addr} {fd : FuncData} {fM_pbt : Addr} {dM_pbt : FuncData} (F : Fun K "do_putb" "do_putb" sD9 f fd) (T : Tx K mg CB CM)
    (M_pbt : CalM P w K mg base CB 3 "put_by_turn" ["self", "address", "word"] (spPw CB CM) fM_pbt dM_pbt) : FnOk P w K mg base CX0 4 f fd ["board", "x", "words"] (spDo CB CM 9) := by
  refine F.ok scD9 (fun vs H Q E h => by obtain ⟨_, _, _, _, _, _, rfl, _⟩ := h; rfl) (fun cdv A outer s H vs Q E hr h => ?_)
  have hu := hu_of hr
  obtain ⟨H0, p, lw, x, n, ws, rfl, R, hlw, hws, hto, hsl, k⟩ := h
  obtain ⟨A, ts, ls, B⟩ := R
  obtain ⟨sv, tv, dv, hp, hz⟩ := B.hp
  obtain ⟨t0, t1⟩ := hto (true, n + x.b) (List.mem_singleton.mpr rfl)
  refine ⟨_, (pss_one (ps_expr (pe_meth (pv 0) M_pbt.c M_pbt.m M_pbt.G (hr.mono (by decide)) M_pbt.b .nil pass0 (pa_cons (pe_op op_add (pv 1) (pe_dget hu (pe_fld (pv 0) rfl) pe_str (fun _ _ => rfl))) (pa_cons (pe_dget hu (pe_fld (pv 0) rfl) pe_str (fun _ _ => rfl)) pa_nil))))), ?_⟩
  exact ⟨_, rfl, p, A.dx, _, rfl, hp, bN_pbt, _, rfl, _, rfl, p, CB, A.dx, _, _, rfl, hp, T.cB, T.n_registers, bF_reg, A.r, _, rfl, dg (k := Sum.inr "b") B.hr rG_b, _, _, rfl, rfl, _, rfl, p, CB, A.dx, _, _, rfl, hp, T.cB, T.n_registers, bF_reg, A.r, _, rfl, dg (k := Sum.inr "a") B.hr rG_a, H0, p, x, (n + x.b), x.a, rfl, ⟨A, ts, ls, B⟩, hsl, t0, t1, k⟩
abbrev sD10 : Stmt := topS 15
def scD10N : List Str := ["board", "x", "words"]
theorem scD10 : FnScope scD10N ["board", "x", "words"] (defScope sD10) := ⟨rfl, rfl, rfl, by decide +kernel, rfl, by decide +kernel, by decide +kernel⟩
theorem ok_D10 {f : Addr} {fd : FuncData} (F : Fun K "do_tob" "do_tob" sD10 f fd) (T : Tx K mg CB CM) : FnOk P w K mg base CX0 4 f fd ["board", "x", "words"] (spDo CB CM 10) := by
  refine F.ok scD10 (fun vs H Q E h => by obtain ⟨_, _, _, _, _, _, rfl, _⟩ := h; rfl) (fun cdv A outer s H vs Q E hr h => ?_)
  have hu := hu_of hr
  obtain ⟨H0, p, lw, x, n, ws, rfl, R, hlw, hws, hto, hsl, k⟩ := h
  obtain ⟨A, ts, ls, B⟩ := R
  obtain ⟨sv, tv, dv, hp, hz⟩ := B.hp
  refine ⟨_, (pss_one (ps_dput hu (pe_fld (pv 0) rfl) pe_str (pe_dget hu (pe_fld (pv 0) rfl) pe_str (fun _ _ => rfl)) rfl)), ?_⟩
  exact ⟨_, rfl, p, CB, A.dx, _, _, rfl, hp, T.cB, T.n_registers, bF_reg, A.r, _, rfl, dg (k := Sum.inr "a") B.hr rG_a, _, rfl, p, CB, A.dx, _, _, rfl, hp, T.cB, T.n_registers, bF_reg, A.r, _, rfl, dp (k := Sum.inr "b") B.hr rP_b, k _ ⟨A, ts, ls, B.regs (a := x.a) (b := x.a) (pc := x.pc) (sp := x.sp)⟩⟩
abbrev sD11 : Stmt := topS 16
def scD11N : List Str := ["board", "x", "words", "a"]
theorem scD11 : FnScope scD11N ["board", "x", "words"] (defScope sD11) := ⟨rfl, rfl, rfl, by decide +kernel, rfl, by decide +kernel, by decide +kernel⟩
theorem ok_D11 {f : Addr} {fd : FuncData} {fF_give : Addr} {dF_give : FuncData} (F : Fun K "do_swap" "do_swap" sD11 f fd) (T : Tx K mg CB CM)
    (F_give : CalF P w K mg base 1 "give" ["board", "word"] (spGive CB CM) fF_give dF_give) : FnOk P w K mg base CX0 4 f fd ["board", "x", "words"] (spDo CB CM 11) := by
  refine F.ok scD11 (fun vs H Q E h => by obtain ⟨_, _, _, _, _, _, rfl, _⟩ := h; rfl) (fun cdv A outer s H vs Q E hr h => ?_)
  have hu := hu_of hr
  obtain ⟨H0, p, lw, x, n, ws, rfl, R, hlw, hws, hto, hsl, k⟩ := h
  obtain ⟨A, ts, ls, B⟩ := R
  obtain ⟨sv, tv, dv, hp, hz⟩ := B.hp
  refine ⟨_, (pss_cons (ps_set (i := 3) scD11.nd rfl (.inl rfl) (pe_dget hu (pe_fld (pv 0) rfl) pe_str (fun _ _ => rfl)))
    (pss_cons (ps_expr (pe_call F_give.G (hr.mono (by decide)) (by rfl) F_give.g F_give.kp F_give.b .nil pass0 (pa_cons (pv 0) (pa_cons (pe_dget hu (pe_fld (pv 0) rfl) pe_str (fun _ _ => rfl)) pa_nil))))
    (pss_one (ps_dput hu (pe_fld (pv 0) rfl) pe_str (pv 3) rfl)))), ?_⟩
  refine ⟨_, rfl, p, CB, A.dx, _, _, rfl, hp, T.cB, T.n_registers, bF_reg, A.r, _, rfl, dg (k := Sum.inr "a") B.hr rG_a, _, rfl, _, rfl, p, CB, A.dx, _, _, rfl, hp, T.cB, T.n_registers, bF_reg, A.r, _, rfl, dg (k := Sum.inr "b") B.hr rG_b, H0, p, x, x.b, rfl, ⟨A, ts, ls, B⟩, fun H1 R1 => ?_⟩
  obtain ⟨A1, ts1, ls1, B1⟩ := R1
  obtain ⟨sv1, tv1, dv1, hp1, hz1⟩ := B1.hp
  exact ⟨_, rfl, _, rfl, p, CB, A1.dx, _, _, rfl, hp1, T.cB, T.n_registers, bF_reg, A1.r, _, rfl, dp (k := Sum.inr "b") B1.hr rP_b, k _ ⟨A1, ts1, ls1, B1.regs (a := x.b) (b := x.a) (pc := x.pc) (sp := x.sp)⟩⟩
abbrev sD12 : Stmt := topS 17
def scD12N : List Str := ["board", "x", "words"]
theorem scD12 : FnScope scD12N ["board", "x", "words"] (defScope sD12) := ⟨rfl, rfl, rfl, by decide +kernel, rfl, by decide +kernel, by decide +kernel⟩
theorem ok_D12 {f : Addr} {fd : FuncData} (F : Fun K "do_go" "do_go" sD12 f fd) (T : Tx K mg CB CM) : FnOk P w K mg base CX0 4 f fd ["board", "x", "words"] (spDo CB CM 12) := by
  refine F.ok scD12 (fun vs H Q E h => by obtain ⟨_, _, _, _, _, _, rfl, _⟩ := h; rfl) (fun cdv A outer s H vs Q E hr h => ?_)
  have hu := hu_of hr
  obtain ⟨H0, p, lw, x, n, ws, rfl, R, hlw, hws, hto, hsl, k⟩ := h
  obtain ⟨A, ts, ls, B⟩ := R
  obtain ⟨sv, tv, dv, hp, hz⟩ := B.hp
  refine ⟨_, (pss_one (ps_dput hu (pe_fld (pv 0) rfl) pe_str (pv 1) rfl)), ?_⟩
  exact ⟨_, rfl, _, rfl, p, CB, A.dx, _, _, rfl, hp, T.cB, T.n_registers, bF_reg, A.r, _, rfl, dp (k := Sum.inr "pc") B.hr rP_pc, k _ ⟨A, ts, ls, B.regs (a := x.a) (b := x.b) (pc := n) (sp := x.sp)⟩⟩
abbrev sD13 : Stmt := topS 18
def scD13N : List Str := ["board", "x", "words"]
theorem scD13 : FnScope scD13N ["board", "x", "words"] (defScope sD13) := ⟨rfl, rfl, rfl, by decide +kernel, rfl, by decide +kernel, by decide +kernel⟩
theorem ok_D13 {f : Addr} {fd : FuncData} (F : Fun K "do_ifz" "do_ifz" sD13 f fd) (T : Tx K mg CB CM) : FnOk P w K mg base CX0 4 f fd ["board", "x", "words"] (spDo CB CM 13) := by
  refine F.ok scD13 (fun vs H Q E h => by obtain ⟨_, _, _, _, _, _, rfl, _⟩ := h; rfl) (fun cdv A outer s H vs Q E hr h => ?_)
  have hu := hu_of hr
  obtain ⟨H0, p, lw, x, n, ws, rfl, R, hlw, hws, hto, hsl, k⟩ := h
  obtain ⟨A, ts, ls, B⟩ := R
  obtain ⟨sv, tv, dv, hp, hz⟩ := B.hp
  refine ⟨_, (pss_one (ps_if (pt_val (pe_fld (pv 0) rfl)) (pss_one (ps_dput hu (pe_fld (pv 0) rfl) pe_str (pv 1) rfl)) pss_nil)), ?_⟩
  refine ⟨_, rfl, p, CB, A.dx, _, _, rfl, hp, T.cB, T.n_zero, bF_zero, _, rfl, ifB (fun h => ?_) (fun h => ?_)⟩
  · have e : doM 13 n ws x = { x with pc := n } := if_pos h
    rw [e] at k
    exact ⟨_, rfl, _, rfl, p, CB, A.dx, _, _, rfl, hp, T.cB, T.n_registers, bF_reg, A.r, _, rfl, dp (k := Sum.inr "pc") B.hr rP_pc, k _ ⟨A, ts, ls, B.regs (a := x.a) (b := x.b) (pc := n) (sp := x.sp)⟩⟩
  · have e : doM 13 n ws x = x := if_neg (by rw [h]; decide)
    rw [e] at k
    exact k _ ⟨A, ts, ls, B⟩
abbrev sD14 : Stmt := topS 19
def scD14N : List Str := ["board", "x", "words"]
theorem scD14 : FnScope scD14N ["board", "x", "words"] (defScope sD14) := ⟨rfl, rfl, rfl, by decide +kernel, rfl, by decide +kernel, by decide +kernel⟩
theorem ok_D14 {f : Addr} {fd : FuncData} (F : Fun K "do_ifn" "do_ifn" sD14 f fd) (T : Tx K mg CB CM) : FnOk P w K mg base CX0 4 f fd ["board", "x", "words"] (spDo CB CM 14) := by
  refine F.ok scD14 (fun vs H Q E h => by obtain ⟨_, _, _, _, _, _, rfl, _⟩ := h; rfl) (fun cdv A outer s H vs Q E hr h => ?_)
  have hu := hu_of hr
  obtain ⟨t_HIGH, g_HIGH⟩ := T.g_HIGH
  obtain ⟨H0, p, lw, x, n, ws, rfl, R, hlw, hws, hto, hsl, k⟩ := h
  obtain ⟨A, ts, ls, B⟩ := R
  obtain ⟨sv, tv, dv, hp, hz⟩ := B.hp
  refine ⟨_, (pss_one (ps_if (pt_cmpR op_ge (pe_dget hu (pe_fld (pv 0) rfl) pe_str (fun _ _ => rfl)) (pgI g_HIGH) (nomark _)) (pss_one (ps_dput hu (pe_fld (pv 0) rfl) pe_str (pv 1) rfl)) pss_nil)), ?_⟩
  refine ⟨_, rfl, p, CB, A.dx, _, _, rfl, hp, T.cB, T.n_registers, bF_reg, A.r, _, rfl, dg (k := Sum.inr "a") B.hr rG_a, _, _, rfl, rfl, _, rfl, ifB (fun h => ?_) (fun h => ?_)⟩
  · have e : doM 14 n ws x = { x with pc := n } := if_pos (of_decide_eq_true h)
    rw [e] at k
    exact ⟨_, rfl, _, rfl, p, CB, A.dx, _, _, rfl, hp, T.cB, T.n_registers, bF_reg, A.r, _, rfl, dp (k := Sum.inr "pc") B.hr rP_pc, k _ ⟨A, ts, ls, B.regs (a := x.a) (b := x.b) (pc := n) (sp := x.sp)⟩⟩
  · have e : doM 14 n ws x = x := if_neg (of_decide_eq_false h)
    rw [e] at k
    exact k _ ⟨A, ts, ls, B⟩
abbrev sD15 : Stmt := topS 20
def scD15N : List Str := ["board", "x", "words"]
theorem scD15 : FnScope scD15N ["board", "x", "words"] (defScope sD15) := ⟨rfl, rfl, rfl, by decide +kernel, rfl, by decide +kernel, by decide +kernel⟩
theorem ok_D15 {f : Addr} {fd : FuncData} {fM_pbt : Addr} {dM_pbt : FuncData} (F : Fun K "do_call" "do_call" sD15 f fd) (T : Tx K mg CB CM)
    (M_pbt : CalM P w K mg base CB 3 "put_by_turn" ["self", "address", "word"] (spPw CB CM) fM_pbt dM_pbt) : FnOk P w K mg base CX0 4 f fd ["board", "x", "words"] (spDo CB CM 15) := by
  refine F.ok scD15 (fun vs H Q E h => by obtain ⟨_, _, _, _, _, _, rfl, _⟩ := h; rfl) (fun cdv A outer s H vs Q E hr h => ?_)
  have hu := hu_of hr
  obtain ⟨H0, p, lw, x, n, ws, rfl, R, hlw, hws, hto, hsl, k⟩ := h
  obtain ⟨A, ts, ls, B⟩ := R
  obtain ⟨sv, tv, dv, hp, hz⟩ := B.hp
  obtain ⟨t0, t1⟩ := hto (true, x.sp) (List.mem_singleton.mpr rfl)
  refine ⟨_, (pss_cons (ps_expr (pe_meth (pv 0) M_pbt.c M_pbt.m M_pbt.G (hr.mono (by decide)) M_pbt.b .nil pass0 (pa_cons (pe_dget hu (pe_fld (pv 0) rfl) pe_str (fun _ _ => rfl)) (pa_cons (pe_dget hu (pe_fld (pv 0) rfl) pe_str (fun _ _ => rfl)) pa_nil))))
    (pss_cons (ps_daug hu (pe_fld (pv 0) rfl) pe_str pe_int in_sub (fun _ _ _ => rfl))
    (pss_one (ps_dput hu (pe_fld (pv 0) rfl) pe_str (pv 1) rfl)))), ?_⟩
  refine ⟨_, rfl, p, A.dx, _, rfl, hp, bN_pbt, _, rfl, p, CB, A.dx, _, _, rfl, hp, T.cB, T.n_registers, bF_reg, A.r, _, rfl, dg (k := Sum.inr "sp") B.hr rG_sp, _, rfl, p, CB, A.dx, _, _, rfl, hp, T.cB, T.n_registers, bF_reg, A.r, _, rfl, dg (k := Sum.inr "pc") B.hr rG_pc, H0, p, x, x.sp, x.pc, rfl, ⟨A, ts, ls, B⟩, hsl, t0, t1, fun H1 R1 => ?_⟩
  obtain ⟨A1, ts1, ls1, B1⟩ := R1
  obtain ⟨sv1, tv1, dv1, hp1, hz1⟩ := B1.hp
  have e0 : ∀ a v, ((putWM a v x).a = x.a ∧ (putWM a v x).b = x.b ∧ (putWM a v x).pc = x.pc ∧ (putWM a v x).sp = x.sp) := fun a v => by
    unfold putWM sendM
    split <;> exact ⟨rfl, rfl, rfl, rfl⟩
  obtain ⟨ea, eb, ec, ed⟩ := e0 x.sp x.pc
  refine ⟨_, rfl, p, CB, A1.dx, _, _, rfl, hp1, T.cB, T.n_registers, bF_reg, A1.r, _, rfl, dg (k := Sum.inr "sp") B1.hr rG_sp, _, _, rfl, rfl, _, dp (k := Sum.inr "sp") B1.hr rP_sp, ?_⟩
  have B2 := B1.regs (a := (putWM x.sp x.pc x).a) (b := (putWM x.sp x.pc x).b) (pc := (putWM x.sp x.pc x).pc) (sp := (putWM x.sp x.pc x).sp - 1)
  obtain ⟨sv2, tv2, dv2, hp2, hz2⟩ := B2.hp
  refine ⟨_, rfl, _, rfl, p, CB, A1.dx, _, _, rfl, hp2, T.cB, T.n_registers, bF_reg, A1.r, _, rfl, dp (k := Sum.inr "pc") B2.hr rP_pc, k _ ⟨A1, ts1, ls1, ?_⟩⟩
  have B3 := B2.regs (a := (putWM x.sp x.pc x).a) (b := (putWM x.sp x.pc x).b) (pc := n) (sp := (putWM x.sp x.pc x).sp - 1)
  rw [ed] at B3 ⊢
  exact B3
abbrev sD16 : Stmt := topS 21
def scD16N : List Str := ["board", "x", "words"]
theorem scD16 : FnScope scD16N ["board", "x", "words"] (defScope sD16) := ⟨rfl, rfl, rfl, by decide +kernel, rfl, by decide +kernel, by decide +kernel⟩
theorem ok_D16 {f : Addr} {fd : FuncData} (F : Fun K "do_ret" "do_ret" sD16 f fd) (T : Tx K mg CB CM) : FnOk P w K mg base CX0 4 f fd ["board", "x", "words"] (spDo CB CM 16) := by
  refine F.ok scD16 (fun vs H Q E h => by obtain ⟨_, _, _, _, _, _, rfl, _⟩ := h; rfl) (fun cdv A outer s H vs Q E hr h => ?_)
  have hu := hu_of hr
  obtain ⟨H0, p, lw, x, n, ws, rfl, R, hlw, hws, hto, hsl, k⟩ := h
  obtain ⟨v, rfl⟩ := len1 hws
  obtain ⟨A, ts, ls, B⟩ := R
  obtain ⟨sv, tv, dv, hp, hz⟩ := B.hp
  refine ⟨_, (pss_cons (ps_daug hu (pe_fld (pv 0) rfl) pe_str pe_int in_add (fun _ _ _ => rfl))
    (pss_one (ps_dput hu (pe_fld (pv 0) rfl) pe_str (pe_ix ix_list (pv 2) pe_int (fun _ _ => rfl)) rfl))), ?_⟩
  refine ⟨_, rfl, p, CB, A.dx, _, _, rfl, hp, T.cB, T.n_registers, bF_reg, A.r, _, rfl, dg (k := Sum.inr "sp") B.hr rG_sp, _, _, rfl, rfl, _, dp (k := Sum.inr "sp") B.hr rP_sp, ?_⟩
  have B1 := B.regs (a := x.a) (b := x.b) (pc := x.pc) (sp := x.sp + 1)
  obtain ⟨sv1, tv1, dv1, hp1, hz1⟩ := B1.hp
  have hlw1 : upd H A.r (.dK (regD x.a x.b x.pc (x.sp + 1))) lw = some (.lst [.int v]) := by rw [upd_ne (ne_of hlw B.hr (by intro q; cases q))]; exact hlw
  exact ⟨_, rfl, lw, _, 0, _, rfl, rfl, SqL.of hlw1, atI_nat (j := 0) rfl, _, rfl, p, CB, A.dx, _, _, rfl, hp1, T.cB, T.n_registers, bF_reg, A.r, _, rfl, dp (k := Sum.inr "pc") B1.hr rP_pc, k _ ⟨A, ts, ls, B1.regs (a := x.a) (b := x.b) (pc := v) (sp := x.sp + 1)⟩⟩
abbrev sD17 : Stmt := topS 22
def scD17N : List Str := ["board", "x", "words"]
theorem scD17 : FnScope scD17N ["board", "x", "words"] (defScope sD17) := ⟨rfl, rfl, rfl, by decide +kernel, rfl, by decide +kernel, by decide +kernel⟩
theorem ok_D17 {f : Addr} {fd : FuncData} {fM_pbt : Addr} {dM_pbt : FuncData} (F : Fun K "do_push" "do_push" sD17 f fd) (T : Tx K mg CB CM)
    (M_pbt : CalM P w K mg base CB 3 "put_by_turn" ["self", "address", "word"] (spPw CB CM) fM_pbt dM_pbt) : FnOk P w K mg base CX0 4 f fd ["board", "x", "words"] (spDo CB CM 17) := by
  refine F.ok scD17 (fun vs H Q E h => by obtain ⟨_, _, _, _, _, _, rfl, _⟩ := h; rfl) (fun cdv A outer s H vs Q E hr h => ?_)
  have hu := hu_of hr
  obtain ⟨H0, p, lw, x, n, ws, rfl, R, hlw, hws, hto, hsl, k⟩ := h
  obtain ⟨A, ts, ls, B⟩ := R
  obtain ⟨sv, tv, dv, hp, hz⟩ := B.hp
  obtain ⟨t0, t1⟩ := hto (true, x.sp) (List.mem_singleton.mpr rfl)
  refine ⟨_, (pss_cons (ps_expr (pe_meth (pv 0) M_pbt.c M_pbt.m M_pbt.G (hr.mono (by decide)) M_pbt.b .nil pass0 (pa_cons (pe_dget hu (pe_fld (pv 0) rfl) pe_str (fun _ _ => rfl)) (pa_cons (pe_dget hu (pe_fld (pv 0) rfl) pe_str (fun _ _ => rfl)) pa_nil))))
    (pss_one (ps_daug hu (pe_fld (pv 0) rfl) pe_str pe_int in_sub (fun _ _ _ => rfl)))), ?_⟩
  refine ⟨_, rfl, p, A.dx, _, rfl, hp, bN_pbt, _, rfl, p, CB, A.dx, _, _, rfl, hp, T.cB, T.n_registers, bF_reg, A.r, _, rfl, dg (k := Sum.inr "sp") B.hr rG_sp, _, rfl, p, CB, A.dx, _, _, rfl, hp, T.cB, T.n_registers, bF_reg, A.r, _, rfl, dg (k := Sum.inr "a") B.hr rG_a, H0, p, x, x.sp, x.a, rfl, ⟨A, ts, ls, B⟩, hsl, t0, t1, fun H1 R1 => ?_⟩
  obtain ⟨A1, ts1, ls1, B1⟩ := R1
  obtain ⟨sv1, tv1, dv1, hp1, hz1⟩ := B1.hp
  have e0 : ∀ a v, ((putWM a v x).a = x.a ∧ (putWM a v x).b = x.b ∧ (putWM a v x).pc = x.pc ∧ (putWM a v x).sp = x.sp) := fun a v => by
    unfold putWM sendM
    split <;> exact ⟨rfl, rfl, rfl, rfl⟩
  obtain ⟨ea, eb, ec, ed⟩ := e0 x.sp x.a
  refine ⟨_, rfl, p, CB, A1.dx, _, _, rfl, hp1, T.cB, T.n_registers, bF_reg, A1.r, _, rfl, dg (k := Sum.inr "sp") B1.hr rG_sp, _, _, rfl, rfl, _, dp (k := Sum.inr "sp") B1.hr rP_sp, k _ ⟨A1, ts1, ls1, ?_⟩⟩
  have B2 := B1.regs (a := (putWM x.sp x.a x).a) (b := (putWM x.sp x.a x).b) (pc := (putWM x.sp x.a x).pc) (sp := (putWM x.sp x.a x).sp - 1)
  rw [ed] at B2 ⊢
  exact B2
abbrev sD18 : Stmt := topS 23
def scD18N : List Str := ["board", "x", "words"]
theorem scD18 : FnScope scD18N ["board", "x", "words"] (defScope sD18) := ⟨rfl, rfl, rfl, by decide +kernel, rfl, by decide +kernel, by decide +kernel⟩
theorem ok_D18 {f : Addr} {fd : FuncData} {fF_give : Addr} {dF_give : FuncData} (F : Fun K "do_pop" "do_pop" sD18 f fd) (T : Tx K mg CB CM)
    (F_give : CalF P w K mg base 1 "give" ["board", "word"] (spGive CB CM) fF_give dF_give) : FnOk P w K mg base CX0 4 f fd ["board", "x", "words"] (spDo CB CM 18) := by
  refine F.ok scD18 (fun vs H Q E h => by obtain ⟨_, _, _, _, _, _, rfl, _⟩ := h; rfl) (fun cdv A outer s H vs Q E hr h => ?_)
  have hu := hu_of hr
  obtain ⟨H0, p, lw, x, n, ws, rfl, R, hlw, hws, hto, hsl, k⟩ := h
  obtain ⟨v, rfl⟩ := len1 hws
  obtain ⟨A, ts, ls, B⟩ := R
  obtain ⟨sv, tv, dv, hp, hz⟩ := B.hp
  refine ⟨_, (pss_cons (ps_daug hu (pe_fld (pv 0) rfl) pe_str pe_int in_add (fun _ _ _ => rfl))
    (pss_one (ps_expr (pe_call F_give.G (hr.mono (by decide)) (by rfl) F_give.g F_give.kp F_give.b .nil pass0 (pa_cons (pv 0) (pa_cons (pe_ix ix_list (pv 2) pe_int (fun _ _ => rfl)) pa_nil)))))), ?_⟩
  refine ⟨_, rfl, p, CB, A.dx, _, _, rfl, hp, T.cB, T.n_registers, bF_reg, A.r, _, rfl, dg (k := Sum.inr "sp") B.hr rG_sp, _, _, rfl, rfl, _, dp (k := Sum.inr "sp") B.hr rP_sp, ?_⟩
  have B1 := B.regs (a := x.a) (b := x.b) (pc := x.pc) (sp := x.sp + 1)
  have hlw1 : upd H A.r (.dK (regD x.a x.b x.pc (x.sp + 1))) lw = some (.lst [.int v]) := by rw [upd_ne (ne_of hlw B.hr (by intro q; cases q))]; exact hlw
  exact ⟨_, rfl, _, rfl, lw, _, 0, _, rfl, rfl, SqL.of hlw1, atI_nat (j := 0) rfl, H0, p, _, v, rfl, ⟨A, ts, ls, B1⟩, k⟩
abbrev sD19 : Stmt := topS 24
def scD19N : List Str := ["board", "x", "words"]
theorem scD19 : FnScope scD19N ["board", "x", "words"] (defScope sD19) := ⟨rfl, rfl, rfl, by decide +kernel, rfl, by decide +kernel, by decide +kernel⟩
theorem ok_D19 {f : Addr} {fd : FuncData} (F : Fun K "do_sleep" "do_sleep" sD19 f fd) (T : Tx K mg CB CM) : FnOk P w K mg base CX0 4 f fd ["board", "x", "words"] (spDo CB CM 19) := by
  refine F.ok scD19 (fun vs H Q E h => by obtain ⟨_, _, _, _, _, _, rfl, _⟩ := h; rfl) (fun cdv A outer s H vs Q E hr h => ?_)
  have hu := hu_of hr
  obtain ⟨H0, p, lw, x, n, ws, rfl, R, hlw, hws, hto, hsl, k⟩ := h
  obtain ⟨A, ts, ls, B⟩ := R
  obtain ⟨sv, tv, dv, hp, hz⟩ := B.hp
  refine ⟨_, (pss_one (ps_fld (pv 0) pe_bl rfl)), ?_⟩
  refine ⟨_, rfl, p, CB, A.dx, _, rfl, hp, T.cB, T.n_asleep, (by show 13 < 1000; decide), ?_⟩
  rw [bP_asleep]
  exact k _ ⟨A, ts, ls, B.fld (z := x.zero) (le := x.lets) (as := true) (bt := x.beat) (sv := sv) (la := x.la) (tv := tv) (dv := dv) hz⟩
abbrev sD20 : Stmt := topS 25
def scD20N : List Str := ["board", "x", "words"]
theorem scD20 : FnScope scD20N ["board", "x", "words"] (defScope sD20) := ⟨rfl, rfl, rfl, by decide +kernel, rfl, by decide +kernel, by decide +kernel⟩
theorem ok_D20 {f : Addr} {fd : FuncData} (F : Fun K "do_let" "do_let" sD20 f fd) (T : Tx K mg CB CM) : FnOk P w K mg base CX0 4 f fd ["board", "x", "words"] (spDo CB CM 20) := by
  refine F.ok scD20 (fun vs H Q E h => by obtain ⟨_, _, _, _, _, _, rfl, _⟩ := h; rfl) (fun cdv A outer s H vs Q E hr h => ?_)
  have hu := hu_of hr
  obtain ⟨H0, p, lw, x, n, ws, rfl, R, hlw, hws, hto, hsl, k⟩ := h
  obtain ⟨A, ts, ls, B⟩ := R
  obtain ⟨sv, tv, dv, hp, hz⟩ := B.hp
  refine ⟨_, (pss_one (ps_fld (pv 0) (pe_cmpR op_eq (pe_op op_mod (pv 1) pe_int) pe_int (nomark _)) rfl)), ?_⟩
  have eb : ∀ u : Int, decide (V.int (u % 2) = V.int 1) = decide (u % 2 = 1) := fun u => by
    by_cases h : u % 2 = 1
    · rw [decide_eq_true h, h]; rfl
    · rw [decide_eq_false h]; exact decide_eq_false fun z => h (V.int.inj z)
  refine ⟨_, rfl, _, _, rfl, rfl, (by show (0 : Int) < 2; decide), rfl, _, rfl, p, CB, A.dx, _, rfl, hp, T.cB, T.n_lets, (by show 13 < 1000; decide), ?_⟩
  rw [bP_lets, eb]
  exact k _ ⟨A, ts, ls, B.fld (z := x.zero) (le := decide (n % 2 = 1)) (as := x.asleep) (bt := x.beat) (sv := sv) (la := x.la) (tv := tv) (dv := dv) hz⟩
abbrev sD21 : Stmt := topS 26
def scD21N : List Str := ["board", "x", "words"]
theorem scD21 : FnScope scD21N ["board", "x", "words"] (defScope sD21) := ⟨rfl, rfl, rfl, by decide +kernel, rfl, by decide +kernel, by decide +kernel⟩
theorem ok_D21 {f : Addr} {fd : FuncData} (F : Fun K "do_back" "do_back" sD21 f fd) (T : Tx K mg CB CM) : FnOk P w K mg base CX0 4 f fd ["board", "x", "words"] (spDo CB CM 21) := by
  refine F.ok scD21 (fun vs H Q E h => by obtain ⟨_, _, _, _, _, _, rfl, _⟩ := h; rfl) (fun cdv A outer s H vs Q E hr h => ?_)
  have hu := hu_of hr
  obtain ⟨H0, p, lw, x, n, ws, rfl, R, hlw, hws, hto, hsl, k⟩ := h
  obtain ⟨v, v2, rfl⟩ := len2 hws
  obtain ⟨A, ts, ls, B⟩ := R
  obtain ⟨sv, tv, dv, hp, hz⟩ := B.hp
  refine ⟨_, (pss_cons (ps_daug hu (pe_fld (pv 0) rfl) pe_str pe_int in_add (fun _ _ _ => rfl))
    (pss_cons (ps_fld (pv 0) (pe_cmpR op_eq (pe_op op_mod (pe_ix ix_list (pv 2) pe_int (fun _ _ => rfl)) pe_int) pe_int (nomark _)) rfl)
    (pss_cons (ps_dput hu (pe_fld (pv 0) rfl) pe_str (pe_ix ix_list (pv 2) pe_int (fun _ _ => rfl)) rfl)
    (pss_one (ps_fld (pv 0) pe_bl rfl))))), ?_⟩
  have eb : ∀ u : Int, decide (V.int (u % 2) = V.int 1) = decide (u % 2 = 1) := fun u => by
    by_cases h : u % 2 = 1
    · rw [decide_eq_true h, h]; rfl
    · rw [decide_eq_false h]; exact decide_eq_false fun z => h (V.int.inj z)
  refine ⟨_, rfl, p, CB, A.dx, _, _, rfl, hp, T.cB, T.n_registers, bF_reg, A.r, _, rfl, dg (k := Sum.inr "sp") B.hr rG_sp, _, _, rfl, rfl, _, dp (k := Sum.inr "sp") B.hr rP_sp, ?_⟩
  have B1 := B.regs (a := x.a) (b := x.b) (pc := x.pc) (sp := x.sp + 2)
  obtain ⟨sv1, tv1, dv1, hp1, hz1⟩ := B1.hp
  have hlw1 : upd H A.r (.dK (regD x.a x.b x.pc (x.sp + 2))) lw = some (.lst [.int v, .int v2]) := by rw [upd_ne (ne_of hlw B.hr (by intro q; cases q))]; exact hlw
  refine ⟨_, rfl, lw, _, 0, _, rfl, rfl, SqL.of hlw1, atI_nat (j := 0) rfl, _, _, rfl, rfl, (by show (0 : Int) < 2; decide), rfl, _, rfl, p, CB, A.dx, _, rfl, hp1, T.cB, T.n_zero, (by show 13 < 1000; decide), ?_⟩
  rw [bP_zero, eb]
  have B2 := B1.fld (z := decide (v % 2 = 1)) (le := x.lets) (as := x.asleep) (bt := x.beat) (sv := sv1) (la := x.la) (tv := tv1) (dv := dv1) hz1
  have hlw2 := hlw1
  rw [← upd_ne (H := upd H A.r (.dK (regD x.a x.b x.pc (x.sp + 2)))) (o := .ins CB A.dx (bdF A.r A.t A.m A.l (decide (v % 2 = 1)) x.lets x.asleep x.beat sv1 x.la tv1 dv1)) (ne_of hlw1 hp1 (by intro q; cases q))] at hlw2
  obtain ⟨sv2, tv2, dv2, hp2, hz2⟩ := B2.hp
  refine ⟨_, rfl, lw, _, 1, _, rfl, rfl, SqL.of hlw2, atI_nat (j := 1) rfl, _, rfl, p, CB, A.dx, _, _, rfl, hp2, T.cB, T.n_registers, bF_reg, A.r, _, rfl, dp (k := Sum.inr "pc") B2.hr rP_pc, ?_⟩
  have B3 := B2.regs (a := x.a) (b := x.b) (pc := v2) (sp := x.sp + 2)
  obtain ⟨sv3, tv3, dv3, hp3, hz3⟩ := B3.hp
  refine ⟨_, rfl, p, CB, A.dx, _, rfl, hp3, T.cB, T.n_lets, (by show 13 < 1000; decide), ?_⟩
  rw [bP_lets]
  exact k _ ⟨A, ts, ls, B3.fld (z := decide (v % 2 = 1)) (le := true) (as := x.asleep) (bt := x.beat) (sv := sv3) (la := x.la) (tv := tv3) (dv := dv3) hz3⟩
abbrev sD22 : Stmt := topS 27
def scD22N : List Str := ["board", "x", "words"]
theorem scD22 : FnScope scD22N ["board", "x", "words"] (defScope sD22) := ⟨rfl, rfl, rfl, by decide +kernel, rfl, by decide +kernel, by decide +kernel⟩
theorem ok_D22 {f : Addr} {fd : FuncData} {fF_give : Addr} {dF_give : FuncData} (F : Fun K "do_half" "do_half" sD22 f fd) (T : Tx K mg CB CM)
    (F_give : CalF P w K mg base 1 "give" ["board", "word"] (spGive CB CM) fF_give dF_give) : FnOk P w K mg base CX0 4 f fd ["board", "x", "words"] (spDo CB CM 22) := by
  refine F.ok scD22 (fun vs H Q E h => by obtain ⟨_, _, _, _, _, _, rfl, _⟩ := h; rfl) (fun cdv A outer s H vs Q E hr h => ?_)
  have hu := hu_of hr
  obtain ⟨H0, p, lw, x, n, ws, rfl, R, hlw, hws, hto, hsl, k⟩ := h
  obtain ⟨A, ts, ls, B⟩ := R
  obtain ⟨sv, tv, dv, hp, hz⟩ := B.hp
  refine ⟨_, (pss_one (ps_expr (pe_call F_give.G (hr.mono (by decide)) (by rfl) F_give.g F_give.kp F_give.b .nil pass0 (pa_cons (pv 0) (pa_cons (pe_op op_fdiv (pe_dget hu (pe_fld (pv 0) rfl) pe_str (fun _ _ => rfl)) pe_int) pa_nil))))), ?_⟩
  exact ⟨_, rfl, _, rfl, p, CB, A.dx, _, _, rfl, hp, T.cB, T.n_registers, bF_reg, A.r, _, rfl, dg (k := Sum.inr "a") B.hr rG_a, _, _, rfl, rfl, ⟨by decide, by decide⟩, H0, p, x, x.a / 2, rfl, ⟨A, ts, ls, B⟩, k⟩
end
end Bh

/-! Beats, stops, what may be touched. -/
namespace Bh
open PySem PySem.Spec PyProof.Rows L2
def spCome (CB CM : Addr) : Sp := fun vs H Q _ => ∃ (H0 : Hp) (p : Addr) (x : Bd), vs = [.ref p] ∧ BoardAt CB CM H0 H p x ∧ ∀ H', BoardAt CB CM H0 H' p (comeM x) → Q .non H'
def spPass (CB CM : Addr) : Sp := fun vs H Q _ => ∃ (H0 : Hp) (p : Addr) (x : Bd) (n : Nat), vs = [.ref p, .int (n : Int)] ∧ BoardAt CB CM H0 H p x ∧ n ≤ 1000 ∧ ∀ H', BoardAt CB CM H0 H' p (passM n x) → Q .non H'
def spStop (CB CM : Addr) : Sp := fun vs H Q _ => ∃ (H0 : Hp) (p q : Addr) (x : Bd) (s : Str) (ns : List Int), vs = [.ref p, .ref q] ∧ BoardAt CB CM H0 H p x ∧ H q = some (.tup (.str s :: ns.map V.int)) ∧ ∀ H', BoardAt CB CM H0 H' p { x with stop := some (s, ns) } → Q (.str "stopped") H'
def mayM (x : Bd) (ts : List (Bool × Int)) : Bool × Bd := match firstBad ts with
  | some r => (false, { x with stop := some (r.1, [x.pc, r.2]) })
  | none => (true, x)
def spMay (CB CM : Addr) : Sp := fun vs H Q _ => ∃ (H0 : Hp) (p l : Addr) (x : Bd) (us : List V) (ts : List (Bool × Int)), vs = [.ref p, .ref l] ∧ BoardAt CB CM H0 H p x ∧ H l = some (.lst us) ∧ TouAt H us ts ∧ ∀ H', BoardAt CB CM H0 H' p (mayM x ts).2 → Q (.bl (mayM x ts).1) H'
def comingM (x : Bd) : Str := if x.stop ≠ none then "stopped" else if x.asleep = true ∧ calledM x = 0 then "asleep" else if x.lets = true ∧ calledM x ≠ 0 then "interrupt" else "deed"
def spComing (CB CM : Addr) : Sp := fun vs H Q _ => ∃ (H0 : Hp) (p : Addr) (x : Bd), vs = [.ref p] ∧ BoardAt CB CM H0 H p x ∧ Q (.str (comingM x)) H
section
variable {P : Program} {w : World} {K : PySem.W.Frag} {mg : Str → Option Value} {base : Heap} {CB CM : Addr}
abbrev sMcome : Stmt := inClass (topS 64) 13
def scMcomeN : List Str := ["self"]
theorem scMcome : FnScope scMcomeN ["self"] (defScope sMcome) := ⟨rfl, rfl, rfl, by decide +kernel, rfl, by decide +kernel, by decide +kernel⟩
theorem ok_Mcome {f : Addr} {fd : FuncData} {fM_take : Addr} {dM_take : FuncData} (F : Fun K "come_line" "Board.come_line" sMcome f fd) (T : Tx K mg CB CM)
    (M_take : CalM P w K mg base CM 1 "take_line" ["self", "value"] (spMTake CM) fM_take dM_take) : FnOk P w K mg base CX0 2 f fd ["self"] (spCome CB CM) := by
  refine F.ok scMcome (fun vs H Q E h => by obtain ⟨_, _, _, rfl, _⟩ := h; rfl) (fun cdv A outer s H vs Q E hr h => ?_)
  have hu := hu_of hr
  have z_len := T.z_len
  obtain ⟨H0, p, x, rfl, R, k⟩ := h
  obtain ⟨A, ts, ls, B⟩ := R
  obtain ⟨sv, tv, dv, hp, hz⟩ := B.hp
  refine ⟨_, (pss_one (ps_if (PW.pt (pw_and (pt_cmpR op_lt (pe_fld (pv 0) rfl) (pe_callB call_len_seq (by rfl) z_len PySem.boot_len (pa_cons (pe_fld (pv 0) rfl) pa_nil)) (nomark _)) (pw_and1 (pt_cmpR op_eq (pe_ix ix_tup (pe_ix ix_list (pe_fld (pv 0) rfl) (pe_fld (pv 0) rfl) (fun _ _ => rfl)) pe_int (fun _ _ => rfl)) (pe_fld (pv 0) rfl) (nomark _))))) (pss_cons (ps_expr (pe_meth (pe_fld (pv 0) rfl) M_take.c M_take.m M_take.G (hr.mono (by decide)) M_take.b .nil pass0 (pa_cons (pe_ix ix_tup (pe_ix ix_list (pe_fld (pv 0) rfl) (pe_fld (pv 0) rfl) (fun _ _ => rfl)) pe_int (fun _ _ => rfl)) pa_nil)))
    (pss_one (ps_fldaug (pv 0) pe_int in_add))) pss_nil)), ?_⟩
  unfold comeM at k
  refine ⟨_, rfl, p, CB, A.dx, _, _, rfl, hp, T.cB, T.n_line_at, bF_la, _, rfl, p, CB, A.dx, _, _, rfl, hp, T.cB, T.n_line, bF_line, A.l, _, rfl, .inl (SqL.of B.hl), _, _, rfl, rfl, _, rfl, ifB (fun h => ?_) (fun h => ?_)⟩
  · have hl : x.la < x.line.length := by
      have := of_decide_eq_true h
      rw [TupsAt.len B.ll] at this
      omega
    obtain ⟨t, e1, e2⟩ := TupsAt.get B.ll hl
    refine ⟨_, rfl, p, CB, A.dx, _, _, rfl, hp, T.cB, T.n_line, bF_line, _, rfl, p, CB, A.dx, _, _, rfl, hp, T.cB, T.n_line_at, bF_la, A.l, _, _, _, rfl, rfl, SqL.of B.hl, atI_nat e1, t, _, 0, _, rfl, rfl, SqT.of e2, atI_nat (j := 0) rfl, _, rfl, p, CB, A.dx, _, _, rfl, hp, T.cB, T.n_beat, bF_beat, rfl, _, rfl, ifB (fun h2 => ?_) (fun h2 => ?_)⟩
    · have hb : (x.line.getD x.la (0, 0)).1 = x.beat := V.int.inj (of_decide_eq_true h2)
      rw [if_pos ⟨hl, hb⟩] at k
      refine ⟨_, rfl, p, CB, A.dx, _, _, rfl, hp, T.cB, T.n_memory, bF_mem, A.m, A.dm, _, rfl, B.hm, mN_take, _, rfl, p, CB, A.dx, _, _, rfl, hp, T.cB, T.n_line, bF_line, _, rfl, p, CB, A.dx, _, _, rfl, hp, T.cB, T.n_line_at, bF_la, A.l, _, _, _, rfl, rfl, SqL.of B.hl, atI_nat e1, t, _, 1, _, rfl, rfl, SqT.of e2, atI_nat (j := 1) rfl, A.m, A.dm, A.w, A.s, x.mem, _, rfl, B.mem, ?_⟩
      have B1 := B.wds (m := takeLineM (x.line.getD x.la (0, 0)).2 x.mem) (by rw [takeLineM_len]; exact B.lm)
      obtain ⟨sv1, tv1, dv1, hp1, hz1⟩ := B1.hp
      refine ⟨_, rfl, p, CB, A.dx, _, _, rfl, hp1, T.cB, T.n_line_at, bF_la, _, _, rfl, rfl, A.dx, _, hp1, (by show 13 < 1000; decide), ?_⟩
      rw [bP_la (n := 0)]
      exact k _ ⟨A, ts, ls, B1.fld (z := x.zero) (le := x.lets) (as := x.asleep) (bt := x.beat) (sv := sv1) (la := x.la + 1) (tv := tv1) (dv := dv1) hz1⟩
    · rw [if_neg (fun z => of_decide_eq_false h2 (congrArg V.int z.2))] at k
      exact k _ ⟨A, ts, ls, B⟩
  · have hl : ¬ x.la < x.line.length := by
      have := of_decide_eq_false h
      rw [TupsAt.len B.ll] at this
      omega
    rw [if_neg (fun z => hl z.1)] at k
    exact k _ ⟨A, ts, ls, B⟩
abbrev sMpass : Stmt := inClass (topS 64) 12
def scMpassN : List Str := ["self", "many", "_"]
theorem scMpass : FnScope scMpassN ["self", "many"] (defScope sMpass) := ⟨rfl, rfl, rfl, by decide +kernel, rfl, by decide +kernel, by decide +kernel⟩
theorem ok_Mpass {f : Addr} {fd : FuncData} {fM_come : Addr} {dM_come : FuncData} {fM_timer : Addr} {dM_timer : FuncData} (F : Fun K "pass_beats" "Board.pass_beats" sMpass f fd) (T : Tx K mg CB CM)
    (M_come : CalM P w K mg base CB 2 "come_line" ["self"] (spCome CB CM) fM_come dM_come)
    (M_timer : CalM P w K mg base CM 1 "go_timer" ["self"] (spMTim CM) fM_timer dM_timer) : FnOk P w K mg base CX0 3 f fd ["self", "many"] (spPass CB CM) := by
  refine F.ok scMpass (fun vs H Q E h => by obtain ⟨_, _, _, _, rfl, _⟩ := h; rfl) (fun cdv A outer s H vs Q E hr h => ?_)
  have hu := hu_of hr
  have z_range := T.z_range
  obtain ⟨H0, p, x, n, rfl, R, hn, k⟩ := h
  refine ⟨_, (pss_one (ps_for PassesOwn.never rfl (pi_range1 (by rfl) z_range (pa_cons (pv 1) pa_nil)) (pg_name (i := 2) scMpass.nd rfl (.inl rfl))
      (pss_cons (ps_fldaug (pv 0) pe_int in_add)
    (pss_cons (ps_expr (pe_meth0 (pv 0) M_come.c M_come.m M_come.G (hr.mono (by decide)) M_come.b .nil pass0))
    (pss_one (ps_expr (pe_meth0 (pe_fld (pv 0) rfl) M_timer.c M_timer.m M_timer.G (hr.mono (by decide)) M_timer.b .nil pass0))))))), ?_⟩
  refine ⟨_, rfl, (n : Int), rfl, by omega, by omega, ?_⟩
  refine for_range (lo := 0) (n := ((n : Int)).toNat) (fun i σ H' => ∃ (y : Option V) (z : Bd), σ = [some (.ref p), some (.int (n : Int)), y] ∧ BoardAt CB CM H0 H' p z ∧ passM (n - i) z = passM n x) ⟨none, x, rfl, R, rfl⟩ ?_ ?_
  · rintro i σ H1 hi ⟨y, z, rfl, R, e⟩
    have hin : i < n := by omega
    obtain ⟨A, ts, ls, B⟩ := R
    obtain ⟨sv, tv, dv, hp, hz⟩ := B.hp
    refine ⟨_, rfl, p, CB, A.dx, _, _, rfl, hp, T.cB, T.n_beat, bF_beat, _, _, rfl, rfl, A.dx, _, hp, (by show 13 < 1000; decide), ?_⟩
    rw [bP_beat]
    have B1 := B.fld (z := z.zero) (le := z.lets) (as := z.asleep) (bt := z.beat + 1) (sv := sv) (la := z.la) (tv := tv) (dv := dv) hz
    obtain ⟨sv1, tv1, dv1, hp1, hz1⟩ := B1.hp
    refine ⟨_, rfl, p, A.dx, _, rfl, hp1, bN_come, H0, p, _, rfl, ⟨A, ts, ls, B1⟩, fun H2 R2 => ?_⟩
    obtain ⟨A2, ts2, ls2, B2⟩ := R2
    obtain ⟨sv2, tv2, dv2, hp2, hz2⟩ := B2.hp
    refine ⟨_, rfl, p, CB, A2.dx, _, _, rfl, hp2, T.cB, T.n_memory, bF_mem, A2.m, A2.dm, _, rfl, B2.hm, mN_timer, A2.m, A2.dm, A2.w, A2.s, _, rfl, B2.mem, ?_⟩
    have B3 := B2.wds (m := goTimerM (comeM { z with beat := z.beat + 1 }).mem) (by rw [goTimerM_len]; exact B2.lm)
    refine ⟨some (.int (0 + (i : Int))), passOneM z, rfl, ⟨A2, ts2, ls2, B3⟩, ?_⟩
    have e3 : n - i = (n - (i + 1)) + 1 := by omega
    rw [e3] at e
    exact e
  · rintro σ H1 ⟨y, z, rfl, R, e⟩
    have e0 : n - ((n : Int)).toNat = 0 := by omega
    rw [e0] at e
    rw [← e] at k
    exact k _ R
abbrev sMstop : Stmt := inClass (topS 64) 9
def scMstopN : List Str := ["self", "stop"]
theorem scMstop : FnScope scMstopN ["self", "stop"] (defScope sMstop) := ⟨rfl, rfl, rfl, by decide +kernel, rfl, by decide +kernel, by decide +kernel⟩
theorem ok_Mstop {f : Addr} {fd : FuncData} (F : Fun K "stop" "Board.stop" sMstop f fd) (T : Tx K mg CB CM) : FnOk P w K mg base CX0 1 f fd ["self", "stop"] (spStop CB CM) := by
  refine F.ok scMstop (fun vs H Q E h => by obtain ⟨_, _, _, _, _, _, rfl, _⟩ := h; rfl) (fun cdv A outer s H vs Q E hr h => ?_)
  have hu := hu_of hr
  obtain ⟨H0, p, q, x, s_, ns, rfl, R, hq, k⟩ := h
  obtain ⟨A, ts, ls, B⟩ := R
  obtain ⟨sv, tv, dv, hp, hz⟩ := B.hp
  refine ⟨_, (pss_cons (ps_fld (pv 0) (pv 1) rfl)
    (pss_one (ps_ret pe_str))), ?_⟩
  refine ⟨_, rfl, _, rfl, p, CB, A.dx, _, rfl, hp, T.cB, T.n_stopped, (by show 13 < 1000; decide), ?_⟩
  rw [bP_stop]
  exact k _ ⟨A, ts, ls, B.fld (z := x.zero) (le := x.lets) (as := x.asleep) (bt := x.beat) (sv := .ref q) (la := x.la) (tv := tv) (dv := dv) (so := some (s_, ns)) ⟨q, rfl, hq⟩⟩
abbrev sMmay : Stmt := inClass (topS 64) 8
def scMmayN : List Str := ["self", "touches", "kind", "address", "why"]
theorem scMmay : FnScope scMmayN ["self", "touches"] (defScope sMmay) := ⟨rfl, rfl, rfl, by decide +kernel, rfl, by decide +kernel, by decide +kernel⟩
theorem ok_Mmay {f : Addr} {fd : FuncData} {fF_bar : Addr} {dF_bar : FuncData} {fM_stop : Addr} {dM_stop : FuncData} (F : Fun K "may_touch" "Board.may_touch" sMmay f fd) (T : Tx K mg CB CM)
    (F_bar : CalF P w K mg base 1 "bar_of" ["kind", "address"] (spBar) fF_bar dF_bar)
    (M_stop : CalM P w K mg base CB 1 "stop" ["self", "stop"] (spStop CB CM) fM_stop dM_stop) : FnOk P w K mg base CX0 2 f fd ["self", "touches"] (spMay CB CM) := by
  refine F.ok scMmay (fun vs H Q E h => by obtain ⟨_, _, _, _, _, _, rfl, _⟩ := h; rfl) (fun cdv A outer s H vs Q E hr h => ?_)
  have hu := hu_of hr
  obtain ⟨H0, p, l, x, us, tl, rfl, R, hl, ht, k⟩ := h
  obtain ⟨A, ts, ls, B⟩ := R
  obtain ⟨sv, tv, dv, hp, hz⟩ := B.hp
  refine ⟨_, (pss_cons (ps_for PassesOwn.never rfl (pi_list (pv 1)) (pg_tup rfl (pgs_cons (pg_name (i := 2) scMmay.nd rfl (.inl rfl)) (pgs_cons (pg_name (i := 3) scMmay.nd rfl (.inl rfl)) pgs_nil)))
      (pss_cons (ps_set (i := 4) scMmay.nd rfl (.inl rfl) (pe_call F_bar.G (hr.mono (by decide)) (by rfl) F_bar.g F_bar.kp F_bar.b .nil pass0 (pa_cons (pv 2) (pa_cons (pv 3) pa_nil))))
    (pss_one (ps_if (pt_cmp (pc_notN (pv 4))) (pss_cons (ps_expr (pe_meth (pv 0) M_stop.c M_stop.m M_stop.G (hr.mono (by decide)) M_stop.b .nil pass0 (pa_cons (pe_tup (pa_cons (pv 4) (pa_cons (pe_dget hu (pe_fld (pv 0) rfl) pe_str (fun _ _ => rfl)) (pa_cons (pv 3) pa_nil)))) pa_nil)))
    (pss_one (ps_ret pe_bl))) pss_nil))))
    (pss_cons (ps_fld (pv 0) (pv 1) rfl)
    (pss_one (ps_ret pe_bl)))), ?_⟩
  refine ⟨_, rfl, l, rfl, ⟨_, SqL.of hl⟩, ?_⟩
  refine for_list (K := K) (a := l) (xs := us) (fun i σ H' => H' = H ∧ firstBad (tl.drop i) = firstBad tl ∧ ∃ y2 y3 y4, σ = [some (.ref p), some (.ref l), y2, y3, y4]) ⟨rfl, rfl, none, none, none, rfl⟩ (fun i σ H' _ h => by obtain ⟨rfl, _⟩ := h; exact SqL.of hl) ?_ ?_
  · rintro i v σ H' hv ⟨rfl, hf, y2, y3, y4, rfl⟩
    obtain ⟨q, t, rfl, e1, e2⟩ := TouAt.get ht hv
    have hil : i < tl.length := (List.getElem?_eq_some_iff.mp e1).1
    have hd : tl.drop i = t :: tl.drop (i + 1) := by
      rw [List.drop_eq_getElem_cons hil]
      have : tl[i] = t := Option.some.inj ((List.getElem?_eq_getElem hil).symm.trans e1)
      rw [this]
    rw [hd, firstBad_cons] at hf
    refine ⟨q, _, rfl, SqT.of e2, rfl, _, _, rfl, _, _, rfl, rfl, ?_⟩
    refine ⟨_, rfl, _, rfl, t, rfl, ?_⟩
    cases e : barM t with
    | none =>
      rw [e] at hf
      refine ⟨_, rfl, _, rfl, ifN (fun h => absurd rfl (of_decide_eq_false h)) (fun _ => ?_)⟩
      exact ⟨rfl, hf, _, _, _, rfl⟩
    | some wy =>
      rw [e] at hf
      refine ⟨_, rfl, _, rfl, ifN (fun _ => ?_) (fun h => by cases (of_decide_eq_true h))⟩
      have em : mayM x tl = (false, { x with stop := some (wy, [x.pc, t.2]) }) := by
        unfold mayM
        rw [← hf]
      rw [em] at k
      exact ⟨_, rfl, p, A.dx, _, rfl, hp, bN_stop, _, rfl, _, rfl, p, CB, A.dx, _, _, rfl, hp, T.cB, T.n_registers, bF_reg, A.r, _, rfl, dg (k := Sum.inr "pc") B.hr rG_pc, _, rfl, (by show 3 ≤ sizeLine; decide), fun q2 nq => ⟨H0, p, q2, x, wy, [x.pc, t.2], rfl, ⟨A, ts, ls, B.more nq⟩, upd_same, fun H2 R2 => k _ R2⟩⟩
  · rintro σ H' ⟨rfl, hf, y2, y3, y4, rfl⟩
    rw [TouAt.len ht, List.drop_length] at hf
    have em : mayM x tl = (true, x) := by
      unfold mayM
      rw [← hf]
      rfl
    rw [em] at k
    refine ⟨_, rfl, _, rfl, p, CB, A.dx, _, rfl, hp, T.cB, T.n_touched, (by show 13 < 1000; decide), ?_⟩
    rw [bP_tou]
    exact k _ ⟨A, ts, ls, B.fld (z := x.zero) (le := x.lets) (as := x.asleep) (bt := x.beat) (sv := sv) (la := x.la) (tv := .ref l) (dv := dv) hz⟩
abbrev sMcoming : Stmt := inClass (topS 64) 4
def scMcomingN : List Str := ["self", "called"]
theorem scMcoming : FnScope scMcomingN ["self"] (defScope sMcoming) := ⟨rfl, rfl, rfl, by decide +kernel, rfl, by decide +kernel, by decide +kernel⟩
theorem ok_Mcoming {f : Addr} {fd : FuncData} {fM_called : Addr} {dM_called : FuncData} (F : Fun K "coming" "Board.coming" sMcoming f fd) (T : Tx K mg CB CM)
    (M_called : CalM P w K mg base CM 1 "called_flags" ["self"] (spMCall CM) fM_called dM_called) : FnOk P w K mg base CX0 2 f fd ["self"] (spComing CB CM) := by
  refine F.ok scMcoming (fun vs H Q E h => by obtain ⟨_, _, _, rfl, _⟩ := h; rfl) (fun cdv A outer s H vs Q E hr h => ?_)
  have hu := hu_of hr
  obtain ⟨H0, p, x, rfl, R, q⟩ := h
  obtain ⟨A, ts, ls, B⟩ := R
  obtain ⟨sv, tv, dv, hp, hz⟩ := B.hp
  refine ⟨_, (pss_cons (ps_if (pt_cmp (pc_notN (pe_fld (pv 0) rfl))) (pss_one (ps_ret pe_str)) pss_nil)
    (pss_cons (ps_set (i := 1) scMcoming.nd rfl (.inl rfl) (pe_cmpR op_ne (pe_meth0 (pe_fld (pv 0) rfl) M_called.c M_called.m M_called.G (hr.mono (by decide)) M_called.b .nil pass0) pe_int (nomark _)))
    (pss_cons (ps_if (PW.pt (pw_and (pt_val (pe_fld (pv 0) rfl)) (pw_and1 (pt_not (pt_val (pv 1)))))) (pss_one (ps_ret pe_str)) pss_nil)
    (pss_cons (ps_if (PW.pt (pw_and (pt_val (pe_fld (pv 0) rfl)) (pw_and1 (pt_val (pv 1))))) (pss_one (ps_ret pe_str)) pss_nil)
    (pss_one (ps_ret pe_str)))))), ?_⟩
  unfold comingM at q
  refine ⟨_, rfl, p, CB, A.dx, _, _, rfl, hp, T.cB, T.n_stopped, bF_stop, _, rfl, ?_⟩
  cases es : x.stop with
  | some r =>
    rw [es] at hz q
    obtain ⟨q1, rfl, hq1⟩ := hz
    refine ifN (fun _ => ?_) (fun h => by cases (of_decide_eq_true h))
    rw [if_pos (by intro z; cases z)] at q
    exact q
  | none =>
    rw [es] at hz q
    obtain rfl : sv = V.non := hz
    refine ifN (fun h => absurd rfl (of_decide_eq_false h)) (fun _ => ?_)
    rw [if_neg (fun z => z rfl)] at q
    refine ⟨_, rfl, p, CB, A.dx, _, _, rfl, hp, T.cB, T.n_memory, bF_mem, A.m, A.dm, _, rfl, B.hm, mN_called, A.m, A.dm, A.w, A.s, _, rfl, B.mem, rfl, ?_⟩
    have ec : decide (V.int (Builtin.bitAnd (rd x.mem 770) (rd x.mem 771)) = V.int 0) = decide (calledM x = 0) := by
      by_cases h : calledM x = 0
      · rw [decide_eq_true h]; exact decide_eq_true (congrArg V.int h)
      · rw [decide_eq_false h]; exact decide_eq_false fun z => h (V.int.inj z)
    rw [ec]
    refine ⟨_, rfl, p, CB, A.dx, _, _, rfl, hp, T.cB, T.n_asleep, bF_asleep, _, rfl, ifB (fun ha => ?_) (fun ha => ?_)⟩
    · refine ⟨_, rfl, _, rfl, ?_⟩
      by_cases hc : calledM x = 0
      · rw [if_pos ⟨ha, hc⟩] at q
        rw [decide_eq_true hc]
        exact q
      · rw [if_neg (fun z => hc z.2)] at q
        rw [decide_eq_false hc]
        refine ⟨_, rfl, p, CB, A.dx, _, _, rfl, hp, T.cB, T.n_lets, bF_lets, _, rfl, ifB (fun hl => ?_) (fun hl => ?_)⟩
        · rw [if_pos ⟨hl, hc⟩] at q
          exact ⟨_, rfl, _, rfl, q⟩
        · rw [if_neg (fun z => by rw [hl] at z; cases z.1)] at q
          exact q
    · rw [if_neg (fun z => by rw [ha] at z; cases z.1)] at q
      refine ⟨_, rfl, p, CB, A.dx, _, _, rfl, hp, T.cB, T.n_lets, bF_lets, _, rfl, ifB (fun hl => ?_) (fun hl => ?_)⟩
      · refine ⟨_, rfl, _, rfl, ?_⟩
        by_cases hc : calledM x = 0
        · rw [if_neg (fun z => z.2 hc)] at q
          rw [decide_eq_true hc]
          exact q
        · rw [if_pos ⟨hl, hc⟩] at q
          rw [decide_eq_false hc]
          exact q
      · rw [if_neg (fun z => by rw [hl] at z; cases z.1)] at q
        exact q
end
end Bh

/-! Interrupts, deeds, turns. -/
namespace Bh
open PySem PySem.Spec PyProof.Rows L2
def PcOk (x : Bd) : Prop := 0 ≤ x.pc → x.pc < 768 → 0 ≤ rd x.mem x.pc
def spBegin (CB CM : Addr) : Sp := fun vs H Q _ => ∃ (H0 : Hp) (p : Addr) (x : Bd), vs = [.ref p] ∧ BoardAt CB CM H0 H p x ∧ x.sent.length < 900000 ∧ ∀ H', BoardAt CB CM H0 H' p (intM x).2 → Q (.str (intM x).1) H'
def spDeed (CB CM : Addr) : Sp := fun vs H Q _ => ∃ (H0 : Hp) (p : Addr) (x : Bd), vs = [.ref p] ∧ BoardAt CB CM H0 H p x ∧ x.sent.length < 900000 ∧ PcOk x ∧ ∀ H', BoardAt CB CM H0 H' p (deedM x).2 → Q (.str (deedM x).1) H'
def spTurn (CB CM : Addr) : Sp := fun vs H Q _ => ∃ (H0 : Hp) (p : Addr) (x : Bd), vs = [.ref p] ∧ BoardAt CB CM H0 H p x ∧ x.sent.length < 900000 ∧ PcOk x ∧ ∀ H', BoardAt CB CM H0 H' p (turnM x).2 → Q (.str (turnM x).1) H'
structure DoF (P : Program) (w : World) (K : PySem.W.Frag) (mg : Str → Option Value) (base : Heap) (CB CM : Addr) (adr : Nat → Addr) (fdr : Nat → FuncData) : Prop where
  G : ∀ op, 1 ≤ op → op < 23 → FnOk P w K mg base CX0 4 (adr op) (fdr op) ["board", "x", "words"] (spDo CB CM op)
  kp : ∀ op, 1 ≤ op → op < 23 → PySem.W.keepIn K (.ref (adr op)) = true
  b : ∀ op, 1 ≤ op → op < 23 → Binds K (fdr op) ["board", "x", "words"] []
  D : ∃ a, mg "DOINGS" = some (.ref a) ∧ ∀ op, 1 ≤ op → op < 23 → KDct K w a (nmOf op) (.ref (adr op))
theorem iteb {c : Bool} {Q : V → Hp → Prop} {H : Hp} {σ : L2.St} (h : tC (.int (b2n c)) σ H Q) : if c = true then tC (.int 1) σ H Q else tC (.int 0) σ H Q := by
  cases c with
  | true => exact h
  | false => exact h
theorem putWM_zero (a v : Int) (x : Bd) : (putWM a v x).zero = x.zero := by
  unfold putWM sendM
  split <;> rfl
theorem putWM_sent (a v : Int) (x : Bd) : (putWM a v x).sent.length ≤ x.sent.length + 1 := by
  unfold putWM sendM
  split
  · show (x.sent ++ [(x.beat, v)]).length ≤ _
    rw [List.length_append]
    exact Nat.le_refl _
  · exact Nat.le_succ _
theorem kS_r (b : Bool) : decide (V.str (kS b) = V.str "r") = !b := by
  cases b with
  | true => exact ne_wr
  | false => exact decide_eq_true rfl
theorem nm_at {op : Nat} (h : op < 23) : atI (opN.map V.str) (op : Int) = some (.str (nmOf op)) := by
  have hj : op < opN.length := h
  refine atI_nat ?_
  rw [List.getElem?_map, List.getElem?_eq_getElem hj]
  unfold nmOf
  rw [List.getD_eq_getElem?_getD, List.getElem?_eq_getElem hj]
  rfl
theorem nm_mark : ∀ op : Nat, op < 23 → decide (V.str (nmOf op) = V.str "mark") = decide (op = 0) := by decide +kernel
theorem reads_len (ts : List (Bool × Int)) (m : List Int) : (readsM m ts).length = (ts.filter fun t => !t.1).length := List.length_map ..
theorem nR_ok (op : Nat) (n b sp : Int) (m : List Int) (h : op < 23) : (readsM m (touM op n b sp)).length = nR op := by
  match op, h with

  | 0, _ => rfl
  | 1, _ => rfl
  | 2, _ => rfl
  | 3, _ => rfl
  | 4, _ => rfl
  | 5, _ => rfl
  | 6, _ => rfl
  | 7, _ => rfl
  | 8, _ => rfl
  | 9, _ => rfl
  | 10, _ => rfl
  | 11, _ => rfl
  | 12, _ => rfl
  | 13, _ => rfl
  | 14, _ => rfl
  | 15, _ => rfl
  | 16, _ => rfl
  | 17, _ => rfl
  | 18, _ => rfl
  | 19, _ => rfl
  | 20, _ => rfl
  | 21, _ => rfl
  | 22, _ => rfl
  | n + 23, h => omega
section
variable {P : Program} {w : World} {K : PySem.W.Frag} {mg : Str → Option Value} {base : Heap} {CB CM : Addr}
abbrev sMbegin : Stmt := inClass (topS 64) 6
def scMbeginN : List Str := ["self", "pc", "sp", "flags"]
theorem scMbegin : FnScope scMbeginN ["self"] (defScope sMbegin) := ⟨rfl, rfl, rfl, by decide +kernel, rfl, by decide +kernel, by decide +kernel⟩
theorem ok_Mbegin {f : Addr} {fd : FuncData} {fM_called : Addr} {dM_called : FuncData} {fM_may : Addr} {dM_may : FuncData} {fM_pass : Addr} {dM_pass : FuncData} {fM_pbt : Addr} {dM_pbt : FuncData} (F : Fun K "begin_interrupt" "Board.begin_interrupt" sMbegin f fd) (T : Tx K mg CB CM)
    (M_called : CalM P w K mg base CM 1 "called_flags" ["self"] (spMCall CM) fM_called dM_called)
    (M_may : CalM P w K mg base CB 2 "may_touch" ["self", "touches"] (spMay CB CM) fM_may dM_may)
    (M_pass : CalM P w K mg base CB 3 "pass_beats" ["self", "many"] (spPass CB CM) fM_pass dM_pass)
    (M_pbt : CalM P w K mg base CB 3 "put_by_turn" ["self", "address", "word"] (spPw CB CM) fM_pbt dM_pbt) : FnOk P w K mg base CX0 4 f fd ["self"] (spBegin CB CM) := by
  refine F.ok scMbegin (fun vs H Q E h => by obtain ⟨_, _, _, rfl, _⟩ := h; rfl) (fun cdv A outer s H vs Q E hr h => ?_)
  have hu := hu_of hr
  obtain ⟨t_INTERRUPT_BEATS, g_INTERRUPT_BEATS⟩ := T.g_INTERRUPT_BEATS
  obtain ⟨t_LINE_PC, g_LINE_PC⟩ := T.g_LINE_PC
  obtain ⟨t_TIMER_FLAG, g_TIMER_FLAG⟩ := T.g_TIMER_FLAG
  obtain ⟨t_TIMER_PC, g_TIMER_PC⟩ := T.g_TIMER_PC
  obtain ⟨H0, p, x, rfl, R, hsl, k⟩ := h
  obtain ⟨A, ts, ls, B⟩ := R
  obtain ⟨sv, tv, dv, hp, hz⟩ := B.hp
  refine ⟨_, (pss_cons (ps_set (i := 1) scMbegin.nd rfl (.inl rfl) (pe_dget hu (pe_fld (pv 0) rfl) pe_str (fun _ _ => rfl)))
    (pss_cons (ps_set (i := 2) scMbegin.nd rfl (.inl rfl) (pe_dget hu (pe_fld (pv 0) rfl) pe_str (fun _ _ => rfl)))
    (pss_cons (ps_set (i := 3) scMbegin.nd rfl (.inl rfl) (pe_meth0 (pe_fld (pv 0) rfl) M_called.c M_called.m M_called.G (hr.mono (by decide)) M_called.b .nil pass0))
    (pss_cons (ps_if (pt_not (pt_val (pe_meth (pv 0) M_may.c M_may.m M_may.G (hr.mono (by decide)) M_may.b .nil pass0 (pa_cons (pe_lst (pa_cons (pe_tup (pa_cons pe_str (pa_cons (pv 2) pa_nil))) (pa_cons (pe_tup (pa_cons pe_str (pa_cons (pe_op op_sub (pv 2) pe_int) pa_nil))) pa_nil))) pa_nil)))) (pss_one (ps_ret pe_str)) pss_nil)
    (pss_cons (ps_expr (pe_meth (pv 0) M_pbt.c M_pbt.m M_pbt.G (hr.mono (by decide)) M_pbt.b .nil pass0 (pa_cons (pv 2) (pa_cons (pv 1) pa_nil))))
    (pss_cons (ps_expr (pe_meth (pv 0) M_pbt.c M_pbt.m M_pbt.G (hr.mono (by decide)) M_pbt.b .nil pass0 (pa_cons (pe_op op_sub (pv 2) pe_int) (pa_cons (pe_ifExp (pt_val (pe_fld (pv 0) rfl)) pe_int pe_int) pa_nil))))
    (pss_cons (ps_dput hu (pe_fld (pv 0) rfl) pe_str (pe_op op_sub (pv 2) pe_int) rfl)
    (pss_cons (ps_fld (pv 0) pe_bl rfl)
    (pss_cons (ps_dput hu (pe_fld (pv 0) rfl) pe_str (pe_ifExp (pt_truth (pe_op op_and (pv 3) (pgI g_TIMER_FLAG)) (fun _ => rfl)) (pgI g_TIMER_PC) (pgI g_LINE_PC)) rfl)
    (pss_cons (ps_expr (pe_meth (pv 0) M_pass.c M_pass.m M_pass.G (hr.mono (by decide)) M_pass.b .nil pass0 (pa_cons (pgI g_INTERRUPT_BEATS) pa_nil)))
    (pss_one (ps_ret pe_str)))))))))))), ?_⟩
  refine ⟨_, rfl, p, CB, A.dx, _, _, rfl, hp, T.cB, T.n_registers, bF_reg, A.r, _, rfl, dg (k := Sum.inr "pc") B.hr rG_pc, _, rfl, p, CB, A.dx, _, _, rfl, hp, T.cB, T.n_registers, bF_reg, A.r, _, rfl, dg (k := Sum.inr "sp") B.hr rG_sp, _, rfl, p, CB, A.dx, _, _, rfl, hp, T.cB, T.n_memory, bF_mem, A.m, A.dm, _, rfl, B.hm, mN_called, A.m, A.dm, A.w, A.s, _, rfl, B.mem, ?_⟩
  refine ⟨_, rfl, p, A.dx, _, rfl, hp, bN_may, _, rfl, (by show 2 ≤ sizeLine; decide), fun t1 n1 => ⟨_, rfl, _, _, rfl, rfl, (by show 2 ≤ sizeLine; decide), fun t2 n2 => ⟨(by show 2 ≤ sizeLine; decide), fun l nl => ⟨H0, p, l, x, [.ref t1, .ref t2], [(true, x.sp), (true, x.sp - 1)], rfl, ⟨A, ts, ls, ((B.more n1).more n2).more nl⟩, upd_same, .cons ⟨t1, rfl, same_upd' nl _ _ (same_upd' n2 _ _ upd_same)⟩ (.cons ⟨t2, rfl, same_upd' nl _ _ upd_same⟩ .nil), fun H2 R2 => ?_⟩⟩⟩⟩
  cases e : firstBad [(true, x.sp), (true, x.sp - 1)] with
  | some r =>
    have em : mayM x [(true, x.sp), (true, x.sp - 1)] = (false, { x with stop := some (r.1, [x.pc, r.2]) }) := by
      unfold mayM
      rw [e]
    have ei : intM x = (("stopped" : Str), { x with stop := some (r.1, [x.pc, r.2]) }) := by
      unfold intM
      rw [e]
      rfl
    rw [em] at R2 ⊢
    rw [ei] at k
    exact ⟨_, rfl, ifN (fun _ => k _ R2) (fun h => by cases h)⟩
  | none =>
    have em : mayM x [(true, x.sp), (true, x.sp - 1)] = (true, x) := by
      unfold mayM
      rw [e]
    have ei : intM x = (("interrupt" : Str), begunM x) := by
      unfold intM
      rw [e]
    rw [em] at R2 ⊢
    rw [ei] at k
    refine ⟨_, rfl, ifN (fun h => by cases h) (fun _ => ?_)⟩
    have tok := firstBad_ok e
    obtain ⟨t0, t1'⟩ := barM_ok (tok (true, x.sp) List.mem_cons_self)
    obtain ⟨u0, u1⟩ := barM_ok (tok (true, x.sp - 1) (List.mem_cons_of_mem _ List.mem_cons_self))
    obtain ⟨A2, ts2, ls2, B2⟩ := R2
    obtain ⟨sv2, tv2, dv2, hp2, hz2⟩ := B2.hp
    refine ⟨_, rfl, p, A2.dx, _, rfl, hp2, bN_pbt, _, rfl, _, rfl, H0, p, x, x.sp, x.pc, rfl, ⟨A2, ts2, ls2, B2⟩, by omega, t0, t1', fun H3 R3 => ?_⟩
    obtain ⟨A3, ts3, ls3, B3⟩ := R3
    obtain ⟨sv3, tv3, dv3, hp3, hz3⟩ := B3.hp
    have hs3 := putWM_sent x.sp x.pc x
    refine ⟨_, rfl, p, A3.dx, _, rfl, hp3, bN_pbt, _, rfl, _, _, rfl, rfl, _, rfl, p, CB, A3.dx, _, _, rfl, hp3, T.cB, T.n_zero, bF_zero, _, rfl, ?_⟩
    refine iteb ?_
    rw [putWM_zero]
    refine ⟨H0, p, _, x.sp - 1, b2n x.zero, rfl, ⟨A3, ts3, ls3, B3⟩, by omega, u0, u1, fun H4 R4 => ?_⟩
    generalize hy : putWM (x.sp - 1) (b2n x.zero) (putWM x.sp x.pc x) = y at *
    obtain ⟨A4, ts4, ls4, B4⟩ := R4
    obtain ⟨sv4, tv4, dv4, hp4, hz4⟩ := B4.hp
    refine ⟨_, rfl, _, _, rfl, rfl, _, rfl, p, CB, A4.dx, _, _, rfl, hp4, T.cB, T.n_registers, bF_reg, A4.r, _, rfl, dp (k := Sum.inr "sp") B4.hr rP_sp, ?_⟩
    have B5 := B4.regs (a := y.a) (b := y.b) (pc := y.pc) (sp := x.sp - 2)
    obtain ⟨sv5, tv5, dv5, hp5, hz5⟩ := B5.hp
    refine ⟨_, rfl, p, CB, A4.dx, _, rfl, hp5, T.cB, T.n_lets, (by show 13 < 1000; decide), ?_⟩
    rw [bP_lets]
    have B6 := B5.fld (z := y.zero) (le := false) (as := y.asleep) (bt := y.beat) (sv := sv5) (la := y.la) (tv := tv5) (dv := dv5) hz5
    obtain ⟨sv6, tv6, dv6, hp6, hz6⟩ := B6.hp
    have fin : ∀ pc' : Int, pc' = (if Builtin.bitAnd (calledM x) 1 ≠ 0 then 1 else 2) → ∀ H7, BoardAt CB CM H0 H7 p { y with sp := x.sp - 2, lets := false, pc := pc' } → ∀ H8, BoardAt CB CM H0 H8 p (passM 3 { y with sp := x.sp - 2, lets := false, pc := pc' }) → Q (.str "interrupt") H8 := fun pc' epc H7 _ H8 R8 => by
      refine k _ ?_
      unfold begunM
      rw [hy]
      subst epc
      exact R8
    have step : ∀ pc' : Int, pc' = (if Builtin.bitAnd (calledM x) 1 ≠ 0 then 1 else 2) → Bp CB CM H0 (upd _ A4.r (.dK (regD y.a y.b pc' (x.sp - 2)))) p A4 ts4 ls4 { y with sp := x.sp - 2, lets := false, pc := pc' } := fun pc' _ => B6.regs (a := y.a) (b := y.b) (pc := pc') (sp := x.sp - 2)
    refine ⟨_, rfl, _, _, rfl, rfl, _, rfl, ifB (fun hb => ?_) (fun hb => ?_)⟩
    · have e1 : (1 : Int) = (if Builtin.bitAnd (calledM x) 1 ≠ 0 then 1 else 2) := (if_pos (fun z => by
        have hb' : (Builtin.bitAnd (calledM x) 1 != 0) = true := hb
        rw [z] at hb'
        cases hb')).symm
      refine ⟨_, rfl, p, CB, A4.dx, _, _, rfl, hp6, T.cB, T.n_registers, bF_reg, A4.r, _, rfl, dp (k := Sum.inr "pc") B6.hr rP_pc, ?_⟩
      have B7 := step 1 e1
      obtain ⟨sv7, tv7, dv7, hp7, hz7⟩ := B7.hp
      exact ⟨_, rfl, p, A4.dx, _, rfl, hp7, bN_pass, H0, p, _, 3, rfl, ⟨A4, ts4, ls4, B7⟩, by decide, fun H8 R8 => fin 1 e1 _ ⟨A4, ts4, ls4, B7⟩ H8 R8⟩
    · have e1 : (2 : Int) = (if Builtin.bitAnd (calledM x) 1 ≠ 0 then 1 else 2) := (if_neg (fun z => z (by
        have hb' : (Builtin.bitAnd (calledM x) 1 != 0) = false := hb
        simpa using hb'))).symm
      refine ⟨_, rfl, p, CB, A4.dx, _, _, rfl, hp6, T.cB, T.n_registers, bF_reg, A4.r, _, rfl, dp (k := Sum.inr "pc") B6.hr rP_pc, ?_⟩
      have B7 := step 2 e1
      obtain ⟨sv7, tv7, dv7, hp7, hz7⟩ := B7.hp
      exact ⟨_, rfl, p, A4.dx, _, rfl, hp7, bN_pass, H0, p, _, 3, rfl, ⟨A4, ts4, ls4, B7⟩, by decide, fun H8 R8 => fin 2 e1 _ ⟨A4, ts4, ls4, B7⟩ H8 R8⟩
abbrev sMdo : Stmt := inClass (topS 64) 7
def scMdoN : List Str := ["self", "pc", "op", "x", "name", "touches", "words", "doing", "kind", "address"]
theorem scMdo : FnScope scMdoN ["self"] (defScope sMdo) := ⟨rfl, rfl, rfl, by decide +kernel, rfl, by decide +kernel, by decide +kernel⟩
theorem ok_Mdo {f : Addr} {fd : FuncData} {fF_tou : Addr} {dF_tou : FuncData} {fM_may : Addr} {dM_may : FuncData} {fM_pass : Addr} {dM_pass : FuncData} {fM_read : Addr} {dM_read : FuncData} {fM_stop : Addr} {dM_stop : FuncData} (F : Fun K "do_deed" "Board.do_deed" sMdo f fd) (T : Tx K mg CB CM)
    (F_tou : CalF P w K mg base 1 "touches_of" ["name", "x", "registers"] (spTou) fF_tou dF_tou)
    (M_may : CalM P w K mg base CB 2 "may_touch" ["self", "touches"] (spMay CB CM) fM_may dM_may)
    (M_pass : CalM P w K mg base CB 3 "pass_beats" ["self", "many"] (spPass CB CM) fM_pass dM_pass)
    (M_read : CalM P w K mg base CM 1 "read" ["self", "address", "pc"] (spMRead CM) fM_read dM_read)
    (M_stop : CalM P w K mg base CB 1 "stop" ["self", "stop"] (spStop CB CM) fM_stop dM_stop)
    {adr : Nat → Addr} {fdr : Nat → FuncData} (FD : DoF P w K mg base CB CM adr fdr) : FnOk P w K mg base CX0 5 f fd ["self"] (spDeed CB CM) := by
  refine F.ok scMdo (fun vs H Q E h => by obtain ⟨_, _, _, rfl, _⟩ := h; rfl) (fun cdv A outer s H vs Q E hr h => ?_)
  have hu := hu_of hr
  obtain ⟨t_RAM_END, g_RAM_END⟩ := T.g_RAM_END
  obtain ⟨t_X_SPAN, g_X_SPAN⟩ := T.g_X_SPAN
  have z_divmod := T.z_divmod
  have z_len := T.z_len
  obtain ⟨H0, p, x, rfl, R, hsl, hpc, k⟩ := h
  obtain ⟨A, ts, ls, B⟩ := R
  obtain ⟨sv, tv, dv, hp, hz⟩ := B.hp
  obtain ⟨aO, g_OP_NAMES, vO⟩ := T.g_OP_NAMES
  obtain ⟨aD, g_DOINGS, vD⟩ := FD.D
  obtain ⟨op1, eop, o1, o2⟩ : ∃ op1 : Nat, (1 ≤ opM x → opM x < 23 → op1 = opM x) ∧ 1 ≤ op1 ∧ op1 < 23 := by
    by_cases h : 1 ≤ opM x ∧ opM x < 23
    · exact ⟨opM x, fun _ _ => rfl, h.1, h.2⟩
    · exact ⟨1, fun a b => absurd ⟨a, b⟩ h, by decide, by decide⟩
  refine ⟨_, (pss_cons (ps_set (i := 1) scMdo.nd rfl (.inr rfl) (pe_dget hu (pe_fld (pv 0) rfl) pe_str (fun _ _ => rfl)))
    (pss_cons (ps_if (pt_not (pt_chain op_le op_lt pe_int (pv 1) (pgI g_RAM_END))) (pss_one (ps_ret (pe_meth (pv 0) M_stop.c M_stop.m M_stop.G (hr.mono (by decide)) M_stop.b .nil pass0 (pa_cons (pe_tup (pa_cons pe_str (pa_cons (pv 1) (pa_cons (pv 1) pa_nil)))) pa_nil)))) pss_nil)
    (pss_cons (ps_asg (pe_callB call_divmod (by rfl) z_divmod (by decide +kernel) (pa_cons (pe_meth (pe_fld (pv 0) rfl) M_read.c M_read.m M_read.G (hr.mono (by decide)) M_read.b .nil pass0 (pa_cons (pv 1) (pa_cons (pv 1) pa_nil))) (pa_cons (pgI g_X_SPAN) pa_nil))) (pg_tup rfl (pgs_cons (pg_name (i := 2) scMdo.nd rfl (.inl rfl)) (pgs_cons (pg_name (i := 3) scMdo.nd rfl (.inl rfl)) pgs_nil))))
    (pss_cons (ps_if (pt_cmpR op_ge (pv 2) (pe_callB call_len_seq (by rfl) z_len PySem.boot_len (pa_cons (pgR g_OP_NAMES) pa_nil)) (nomark _)) (pss_one (ps_ret (pe_meth (pv 0) M_stop.c M_stop.m M_stop.G (hr.mono (by decide)) M_stop.b .nil pass0 (pa_cons (pe_tup (pa_cons pe_str (pa_cons (pv 1) pa_nil))) pa_nil)))) pss_nil)
    (pss_cons (ps_set (i := 4) scMdo.nd rfl (.inl rfl) (pe_ix ix_tup (pgR g_OP_NAMES) (pv 2) (fun _ _ => rfl)))
    (pss_cons (ps_if (pt_cmpR op_eq (pv 4) pe_str (nomark _)) (pss_one (ps_ret (pe_meth (pv 0) M_stop.c M_stop.m M_stop.G (hr.mono (by decide)) M_stop.b .nil pass0 (pa_cons (pe_tup (pa_cons pe_str (pa_cons (pv 1) pa_nil))) pa_nil)))) pss_nil)
    (pss_cons (ps_set (i := 5) scMdo.nd rfl (.inl rfl) (pe_call F_tou.G (hr.mono (by decide)) (by rfl) F_tou.g F_tou.kp F_tou.b .nil pass0 (pa_cons (pv 4) (pa_cons (pv 3) (pa_cons (pe_fld (pv 0) rfl) pa_nil)))))
    (pss_cons (ps_if (pt_not (pt_val (pe_meth (pv 0) M_may.c M_may.m M_may.G (hr.mono (by decide)) M_may.b .nil pass0 (pa_cons (pv 5) pa_nil)))) (pss_one (ps_ret pe_str)) pss_nil)
    (pss_cons (ps_setLc (i := 6) (own := [("kind", 8), ("address", 9)]) (g := gTup K 2 (gCons (gName 8) (gCons (gName 9) gNil))) (by rfl) scMdo.nd rfl rfl rfl (pi_list (pv 5)) (blkOk_by (own := [("kind", 8), ("address", 9)]) (N := scMdoN) (sc := defScope sMdo) (by decide +kernel)) (fun _ _ _ _ _ => (gtK (K := K) (n := 2) (by rfl) (by rfl) (pgs_cons (pg_name (i := 8) scMdo.nd rfl (.inl rfl)) (pgs_cons (pg_name (i := 9) scMdo.nd rfl (.inl rfl)) pgs_nil)) (by rfl) (by rfl))) (fun _ _ _ _ _ => (pts_one (pt_cmpR op_eq (pv 8) pe_str (nomark _)))) (fun _ _ _ _ _ => (pe_meth (pe_fldK (K := K) (by rfl) (pv 0) (by rfl)) M_read.c M_read.m M_read.G (hr.mono (by decide)) M_read.b .nil pass0 (pa_cons (pv 9) (pa_cons (pv 1) pa_nil)))))
    (pss_cons (ps_if (pt_truth (pv 6) (fun _ => rfl)) (pss_cons (ps_asg (pe_op op_xor (pe_ix ix_list (pv 6) pe_int (fun _ _ => rfl)) (pe_fld (pv 0) rfl)) (pg_sub (pv 6) pe_int set_list))
    (pss_one (ps_fld (pv 0) pe_int rfl))) pss_nil)
    (pss_cons (ps_fld (pv 0) (pv 4) rfl)
    (pss_cons (ps_dput hu (pe_fld (pv 0) rfl) pe_str (pe_op op_add (pv 1) pe_int) rfl)
    (pss_cons (ps_set (i := 7) scMdo.nd rfl (.inl rfl) (pe_ix ix_kdict (pgR g_DOINGS) (pv 4) (fun _ _ => rfl)))
    (pss_cons (ps_expr (pe_callL (i := 7) (FD.G op1 o1 o2) (hr.mono (by decide)) rfl (.inl rfl) (FD.kp op1 o1 o2) (FD.b op1 o1 o2) .nil pass0 (pa_cons (pv 0) (pa_cons (pv 3) (pa_cons (pv 6) pa_nil)))))
    (pss_cons (ps_expr (pe_meth (pv 0) M_pass.c M_pass.m M_pass.G (hr.mono (by decide)) M_pass.b .nil pass0 (pa_cons (pe_op op_add pe_int (pe_callB call_len_seq (by rfl) z_len PySem.boot_len (pa_cons (pv 5) pa_nil))) pa_nil)))
    (pss_one (ps_ret pe_str))))))))))))))))), ?_⟩
  have far : ¬ (0 ≤ x.pc ∧ x.pc < 768) → deedM x = (("stopped" : Str), { x with stop := some ("far", [x.pc, x.pc]) }) := fun h => by
    unfold deedM stopAt
    rw [if_pos h]
  refine ⟨_, rfl, p, CB, A.dx, _, _, rfl, hp, T.cB, T.n_registers, bF_reg, A.r, _, rfl, dg (k := Sum.inr "pc") B.hr rG_pc, ?_⟩
  refine ⟨_, rfl, _, _, rfl, rfl, _, rfl, ifB (fun h0 => ?_) (fun h0 => ⟨_, rfl, ?_⟩)⟩
  rotate_left
  · rw [far (fun z => of_decide_eq_false h0 z.1)] at k
    refine ⟨_, rfl, p, A.dx, _, rfl, hp, bN_stop, _, rfl, _, rfl, (by show 3 ≤ sizeLine; decide), fun q nq => ⟨H0, p, q, x, "far", [x.pc, x.pc], rfl, ⟨A, ts, ls, B.more nq⟩, upd_same, fun H2 R2 => ?_⟩⟩
    exact k _ R2
  refine ⟨_, _, rfl, rfl, _, rfl, ifN (fun h1 => ?_) (fun h1 => ?_)⟩
  · rw [far (fun z => of_decide_eq_false h1 z.2)] at k
    refine ⟨_, rfl, p, A.dx, _, rfl, hp, bN_stop, _, rfl, _, rfl, (by show 3 ≤ sizeLine; decide), fun q nq => ⟨H0, p, q, x, "far", [x.pc, x.pc], rfl, ⟨A, ts, ls, B.more nq⟩, upd_same, fun H2 R2 => ?_⟩⟩
    exact k _ R2
  have h0 := of_decide_eq_true h0
  have h1 := of_decide_eq_true h1
  have hw := hpc h0 h1
  refine ⟨_, rfl, p, CB, A.dx, _, _, rfl, hp, T.cB, T.n_memory, bF_mem, A.m, A.dm, _, rfl, B.hm, mN_read, _, rfl, _, rfl, A.m, A.dm, A.w, A.s, x.mem, x.pc, x.pc, rfl, B.mem, h0, by omega, ?_⟩
  refine ⟨_, _, rfl, ⟨by decide, by decide⟩, fun t nt => ?_⟩
  refine ⟨t, _, rfl, SqT.of upd_same, rfl, _, _, rfl, _, _, rfl, rfl, ?_⟩
  have B1 := B.more (o := .tup [.int (rd x.mem x.pc / 1024), .int (rd x.mem x.pc % 1024)]) nt
  clear B hp hz sv tv dv
  generalize upd H t (.tup [.int (rd x.mem x.pc / 1024), .int (rd x.mem x.pc % 1024)]) = H1 at *
  have B := B1
  obtain ⟨sv, tv, dv, hp, hz⟩ := B.hp
  have eop0 : rd x.mem x.pc / 1024 = ((opM x : Nat) : Int) := by
    unfold opM
    have := Int.ediv_nonneg hw (show (0 : Int) ≤ 1024 by decide)
    omega
  rw [eop0]
  refine ⟨_, rfl, aO, _, rfl, .inr (vO _), _, _, rfl, rfl, _, rfl, ifB (fun h => ?_) (fun h => ?_)⟩
  · have h23 : 23 ≤ opM x := by
      have := of_decide_eq_true h
      have e : (opN.map V.str).length = 23 := rfl
      rw [e] at this
      omega
    have ed : deedM x = (("stopped" : Str), { x with stop := some ("none", [x.pc]) }) := by
      unfold deedM stopAt
      rw [if_neg (fun z => z ⟨h0, h1⟩), if_pos h23]
    rw [ed] at k
    refine ⟨_, rfl, p, A.dx, _, rfl, hp, bN_stop, _, rfl, (by show 2 ≤ sizeLine; decide), fun q nq => ⟨H0, p, q, x, "none", [x.pc], rfl, ⟨A, ts, ls, B.more nq⟩, upd_same, fun H2 R2 => ?_⟩⟩
    exact k _ R2
  have h23 : opM x < 23 := by
    have := of_decide_eq_false h
    have e : (opN.map V.str).length = 23 := rfl
    rw [e] at this
    omega
  refine ⟨_, rfl, aO, _, _, _, rfl, rfl, vO _, nm_at h23, ?_⟩
  refine ⟨_, rfl, rfl, _, rfl, ?_⟩
  rw [nm_mark _ h23]
  refine ifB (fun h => ?_) (fun h => ?_)
  · have hm0 := of_decide_eq_true h
    have ed : deedM x = (("stopped" : Str), { x with stop := some ("mark", [x.pc]) }) := by
      unfold deedM stopAt
      rw [if_neg (fun z => z ⟨h0, h1⟩), if_neg (by omega), if_pos hm0]
    rw [ed] at k
    refine ⟨_, rfl, p, A.dx, _, rfl, hp, bN_stop, _, rfl, (by show 2 ≤ sizeLine; decide), fun q nq => ⟨H0, p, q, x, "mark", [x.pc], rfl, ⟨A, ts, ls, B.more nq⟩, upd_same, fun H2 R2 => ?_⟩⟩
    exact k _ R2
  have hm0 := of_decide_eq_false h
  have eop1 := eop (by omega) h23
  subst eop1
  refine ⟨_, rfl, _, rfl, _, rfl, p, CB, A.dx, _, _, rfl, hp, T.cB, T.n_registers, bF_reg, nmOf (opM x), xM x, A.r, x.a, x.b, x.pc, x.sp, rfl, B.hr, fun H2 l us s2 nl hl tu => ?_⟩
  rw [touN_op _ h23] at tu
  have tu : TouAt H2 us (toM x) := tu
  have B2 := B.same s2
  obtain ⟨sv2, tv2, dv2, hp2, hz2⟩ := B2.hp
  have lp : l ≠ p := ne_of hl hp2 (by intro q; cases q)
  have lr : l ≠ A.r := ne_of hl B2.hr (by intro q; cases q)
  have lw : l ≠ A.w := fun z => by rw [z, B.hw] at nl; cases nl
  have lt : l ≠ A.t := fun z => by rw [z, B.ht] at nl; cases nl
  have lm_ : l ≠ A.m := fun z => by rw [z, B.hm] at nl; cases nl
  have ls_ : l ≠ A.s := fun z => by rw [z, B.hs] at nl; cases nl
  have ll_ : l ≠ A.l := fun z => by rw [z, B.hl] at nl; cases nl
  have B2' := B2.rebase
  have bs := B2.base_same
  have bl : baseOf H2 p A l = some (.lst us) := (B2.base_at lp lr lw lt lm_ ls_ ll_).trans hl
  have bt : TouAt (baseOf H2 p A) us (toM x) := tu.mono B2.base_tup
  generalize baseOf H2 p A = Hb at *
  refine ⟨_, rfl, p, A.dx, _, rfl, hp2, bN_may, _, rfl, Hb, p, l, x, us, toM x, rfl, ⟨A, ts, ls, B2'⟩, hl, tu, fun H3 R3 => ?_⟩
  cases e : firstBad (toM x) with
  | some r =>
    have em : mayM x (toM x) = (false, { x with stop := some (r.1, [x.pc, r.2]) }) := by
      unfold mayM
      rw [e]
    have ed : deedM x = (("stopped" : Str), { x with stop := some (r.1, [x.pc, r.2]) }) := by
      unfold deedM
      rw [if_neg (fun z => z ⟨h0, h1⟩), if_neg (by omega), if_neg hm0, e]
      rfl
    rw [em] at R3 ⊢
    rw [ed] at k
    exact ⟨_, rfl, ifN (fun _ => k _ (R3.unbase bs)) (fun h => by cases h)⟩
  | none =>
    have em : mayM x (toM x) = (true, x) := by
      unfold mayM
      rw [e]
    have ed : deedM x = (("deed" : Str), doneM x) := by
      unfold deedM
      rw [if_neg (fun z => z ⟨h0, h1⟩), if_neg (by omega), if_neg hm0, e]
    rw [em] at R3 ⊢
    rw [ed] at k
    refine ⟨_, rfl, ifN (fun h => by cases h) (fun _ => ?_)⟩
    have tok := firstBad_ok e
    obtain ⟨A3, ts3, ls3, B3⟩ := R3
    obtain ⟨sv3, tv3, dv3, hp3, hz3⟩ := B3.hp
    have l3 := B3.sm _ _ bl
    have t3 := bt.mono fun t xs e => B3.sm _ _ e
    refine ⟨_, rfl, l, rfl, ⟨_, SqL.of l3⟩, fun D nD => ?_⟩
    refine lc_list (K := K) (a := l) (xs := us) (fun i H' => Same H3 H' ∧ H' D = some (.lst ((readsM x.mem ((toM x).take i)).map V.int))) ⟨same_upd' nD, upd_same⟩ (fun i H' _ h => SqL.of (h.1 _ _ l3)) ?_ ?_
    · rintro j v H' hv ⟨sm, hD⟩
      obtain ⟨q, t, rfl, e1, e2⟩ := TouAt.get t3 hv
      have hq := sm _ _ e2
      have htk : (toM x).take (j + 1) = (toM x).take j ++ [t] := by rw [List.take_succ, e1]; rfl
      obtain ⟨i0, i1⟩ := barM_ok (tok t (List.mem_of_getElem? e1))
      refine ⟨q, _, rfl, SqT.of hq, rfl, _, _, rfl, _, _, rfl, rfl, rfl, ?_⟩
      refine ⟨_, rfl, rfl, _, rfl, ?_⟩
      rw [kS_r]
      obtain ⟨tb, ta⟩ := t
      cases tb with
      | true =>
        refine ifB (fun h => by cases h) (fun _ => ?_)
        refine ⟨sm, ?_⟩
        rw [htk]
        unfold readsM at hD ⊢
        rw [List.filter_append, List.map_append, List.map_append]
        rw [show (List.filter (fun t : Bool × Int => !t.1) [(true, ta)]) = [] from rfl, List.map_nil, List.map_nil, List.append_nil]
        exact hD
      | false =>
        refine ifB (fun _ => ?_) (fun h => by cases h)
        have Bj := B3.same sm
        obtain ⟨svj, tvj, dvj, hpj, hzj⟩ := Bj.hp
        refine ⟨_, rfl, p, CB, A3.dx, _, _, rfl, hpj, T.cB, T.n_memory, bF_mem, A3.m, A3.dm, _, rfl, Bj.hm, mN_read, _, rfl, _, rfl, A3.m, A3.dm, A3.w, A3.s, x.mem, _, _, rfl, Bj.mem, i0, i1, ?_⟩
        refine ⟨_, hD, ?_, same_of sm nD, ?_⟩
        · rw [List.length_map]
          refine small1000 ?_
          unfold readsM
          rw [List.length_map]
          refine Nat.le_trans (List.length_filter_le _ _) ?_
          rw [List.length_take]
          have := (List.getElem?_eq_some_iff.mp e1).1
          have hlen : (toM x).length ≤ 2 := touM_len _ _ _ _
          omega
        · rw [upd_same, htk]
          unfold readsM
          rw [List.filter_append, List.map_append, List.map_append]
          rfl
    · rintro H4 ⟨sm4, hD⟩
      rw [TouAt.len t3, List.take_length] at hD
      have B4 := B3.same sm4
      obtain ⟨sv4, tv4, dv4, hp4, hz4⟩ := B4.hp
      refine ⟨_, rfl, _, .inl ⟨_, SqL.of hD, rfl⟩, ifJ ?_ fun hb hB => ?_⟩
      rotate_left
      · obtain ⟨w0, wr, ew⟩ : ∃ w0 wr, readsM x.mem (toM x) = w0 :: wr := by
          cases ew : readsM x.mem (toM x) with
          | nil => rw [ew] at hb; cases hb
          | cons w0 wr => exact ⟨w0, wr, rfl⟩
        rw [ew] at hD
        have e0 : upd H4 D (.lst (((w0 :: wr).map V.int).set ((0 : Int).toNat) (.int (Builtin.bitXor w0 0)))) = H4 := by
          rw [bitXor_zero]
          exact upd_id hD
        refine ⟨_, rfl, D, _, 0, _, rfl, rfl, SqL.of hD, atI_nat (j := 0) rfl, _, rfl, p, CB, A3.dx, _, _, rfl, hp4, T.cB, T.n_bend, bF_bend, _, _, rfl, rfl, _, rfl, D, _, _, _, rfl, rfl, hD, ixN_in (by decide) (by show (0 : Int) < (((w0 :: wr).map V.int).length : Int); rw [List.length_map, List.length_cons]; omega), ?_⟩
        rw [e0]
        refine ⟨_, rfl, p, CB, A3.dx, _, rfl, hp4, T.cB, T.n_bend, (by show 13 < 1000; decide), ?_⟩
        rw [bP_bend, upd_id hp4]
        exact hB
      refine ⟨_, rfl, _, rfl, p, CB, A3.dx, _, rfl, hp4, T.cB, T.n_did, (by show 13 < 1000; decide), ?_⟩
      rw [bP_did]
      have B5 := B4.fld (z := x.zero) (le := x.lets) (as := x.asleep) (bt := x.beat) (sv := sv4) (la := x.la) (tv := tv4) (dv := .str (nmOf (opM x))) hz4
      have hD5 := hD
      rw [← upd_ne (H := H4) (o := .ins CB A3.dx (bdF A3.r A3.t A3.m A3.l x.zero x.lets x.asleep x.beat sv4 x.la tv4 (.str (nmOf (opM x))))) (ne_of hD hp4 (by intro q; cases q))] at hD5
      generalize upd H4 p (.ins CB A3.dx (bdF A3.r A3.t A3.m A3.l x.zero x.lets x.asleep x.beat sv4 x.la tv4 (.str (nmOf (opM x))))) = H5 at *
      obtain ⟨sv5, tv5, dv5, hp5, hz5⟩ := B5.hp
      refine ⟨_, rfl, _, _, rfl, rfl, _, rfl, p, CB, A3.dx, _, _, rfl, hp5, T.cB, T.n_registers, bF_reg, A3.r, _, rfl, dp (k := Sum.inr "pc") B5.hr rP_pc, ?_⟩
      have B6 := B5.regs (a := x.a) (b := x.b) (pc := x.pc + 1) (sp := x.sp)
      have hD6 := hD5
      rw [← upd_ne (H := H5) (o := .dK (regD x.a x.b (x.pc + 1) x.sp)) (ne_of hD5 B5.hr (by intro q; cases q))] at hD6
      generalize upd H5 A3.r (.dK (regD x.a x.b (x.pc + 1) x.sp)) = H6 at *
      obtain ⟨sv6, tv6, dv6, hp6, hz6⟩ := B6.hp
      refine ⟨_, rfl, aD, nmOf (opM x), _, rfl, rfl, vD (opM x) o1 o2, ?_⟩
      refine ⟨rfl, _, rfl, _, rfl, _, rfl, Hb, p, D, { x with pc := x.pc + 1 }, xM x, readsM x.mem (toM x), rfl, ⟨A3, ts3, ls3, B6⟩, hD6, nR_ok _ _ _ _ _ h23, (fun t ht => barM_ok (tok t ht)), (by show x.sent.length < 1000000; omega), fun H7 R7 => ?_⟩
      obtain ⟨A7, ts7, ls7, B7⟩ := R7
      obtain ⟨sv7, tv7, dv7, hp7, hz7⟩ := B7.hp
      have l7 := B7.sm _ _ bl
      refine ⟨_, rfl, p, A7.dx, _, rfl, hp7, bN_pass, _, rfl, l, _, rfl, .inl (SqL.of l7), _, _, rfl, rfl, Hb, p, _, 1 + (toM x).length, ?_, ⟨A7, ts7, ls7, B7⟩, ?_, fun H8 R8 => ?_⟩
      · rw [TouAt.len bt]
        simp
      · have hlen : (toM x).length ≤ 2 := touM_len _ _ _ _
        omega
      · exact k _ (R8.unbase bs)
abbrev sMturn : Stmt := inClass (topS 64) 5
def scMturnN : List Str := ["self", "coming"]
theorem scMturn : FnScope scMturnN ["self"] (defScope sMturn) := ⟨rfl, rfl, rfl, by decide +kernel, rfl, by decide +kernel, by decide +kernel⟩
theorem ok_Mturn {f : Addr} {fd : FuncData} {fM_begin : Addr} {dM_begin : FuncData} {fM_coming : Addr} {dM_coming : FuncData} {fM_do : Addr} {dM_do : FuncData} {fM_pass : Addr} {dM_pass : FuncData} (F : Fun K "turn" "Board.turn" sMturn f fd) (T : Tx K mg CB CM)
    (M_begin : CalM P w K mg base CB 4 "begin_interrupt" ["self"] (spBegin CB CM) fM_begin dM_begin)
    (M_coming : CalM P w K mg base CB 2 "coming" ["self"] (spComing CB CM) fM_coming dM_coming)
    (M_do : CalM P w K mg base CB 5 "do_deed" ["self"] (spDeed CB CM) fM_do dM_do)
    (M_pass : CalM P w K mg base CB 3 "pass_beats" ["self", "many"] (spPass CB CM) fM_pass dM_pass) : FnOk P w K mg base CX0 6 f fd ["self"] (spTurn CB CM) := by
  refine F.ok scMturn (fun vs H Q E h => by obtain ⟨_, _, _, rfl, _⟩ := h; rfl) (fun cdv A outer s H vs Q E hr h => ?_)
  have hu := hu_of hr
  obtain ⟨H0, p, x, rfl, R, hsl, hpc, k⟩ := h
  obtain ⟨A, ts, ls, B⟩ := R
  obtain ⟨sv, tv, dv, hp, hz⟩ := B.hp
  refine ⟨_, (pss_cons (ps_fld (pv 0) (pe_lst pa_nil) rfl)
    (pss_cons (ps_fld (pv 0) pe_non rfl)
    (pss_cons (ps_set (i := 1) scMturn.nd rfl (.inl rfl) (pe_meth0 (pv 0) M_coming.c M_coming.m M_coming.G (hr.mono (by decide)) M_coming.b .nil pass0))
    (pss_cons (ps_if (pt_cmpR op_eq (pv 1) pe_str (nomark _)) (pss_one (ps_ret (pv 1))) pss_nil)
    (pss_cons (ps_if (pt_cmpR op_eq (pv 1) pe_str (nomark _)) (pss_cons (ps_expr (pe_meth (pv 0) M_pass.c M_pass.m M_pass.G (hr.mono (by decide)) M_pass.b .nil pass0 (pa_cons pe_int pa_nil)))
    (pss_one (ps_ret (pv 1)))) pss_nil)
    (pss_cons (ps_fld (pv 0) pe_bl rfl)
    (pss_cons (ps_if (pt_cmpR op_eq (pv 1) pe_str (nomark _)) (pss_one (ps_ret (pe_meth0 (pv 0) M_begin.c M_begin.m M_begin.G (hr.mono (by decide)) M_begin.b .nil pass0))) pss_nil)
    (pss_one (ps_ret (pe_meth0 (pv 0) M_do.c M_do.m M_do.G (hr.mono (by decide)) M_do.b .nil pass0)))))))))), ?_⟩
  refine ⟨Nat.zero_le _, fun l nl => ?_⟩
  have B1 := B.more (o := .lst []) nl
  obtain ⟨sv1, tv1, dv1, hp1, hz1⟩ := B1.hp
  refine ⟨_, rfl, p, CB, A.dx, _, rfl, hp1, T.cB, T.n_touched, (by show 13 < 1000; decide), ?_⟩
  rw [bP_tou]
  have B2 := B1.fld (z := x.zero) (le := x.lets) (as := x.asleep) (bt := x.beat) (sv := sv1) (la := x.la) (tv := .ref l) (dv := dv1) hz1
  obtain ⟨sv2, tv2, dv2, hp2, hz2⟩ := B2.hp
  refine ⟨_, rfl, p, CB, A.dx, _, rfl, hp2, T.cB, T.n_did, (by show 13 < 1000; decide), ?_⟩
  rw [bP_did]
  have B3 := B2.fld (z := x.zero) (le := x.lets) (as := x.asleep) (bt := x.beat) (sv := sv2) (la := x.la) (tv := tv2) (dv := .non) hz2
  obtain ⟨sv3, tv3, dv3, hp3, hz3⟩ := B3.hp
  generalize upd (upd (upd H l (.lst [])) p _) p _ = H3 at *
  refine ⟨_, rfl, p, A.dx, _, rfl, hp3, bN_coming, H0, p, x, rfl, ⟨A, ts, ls, B3⟩, ?_⟩
  unfold comingM turnM at *
  by_cases c1 : x.stop ≠ none
  · rw [if_pos c1] at k ⊢
    exact ⟨_, rfl, rfl, _, rfl, ifB (fun _ => ⟨_, rfl, k _ ⟨A, ts, ls, B3⟩⟩) (fun h => absurd rfl (of_decide_eq_false h))⟩
  · rw [if_neg c1] at k ⊢
    by_cases c2 : x.asleep = true ∧ calledM x = 0
    · rw [if_pos c2] at k ⊢
      refine ⟨_, rfl, rfl, _, rfl, ifB (fun h => absurd (V.str.inj (of_decide_eq_true h)) (by decide +kernel)) (fun _ => ?_)⟩
      refine ⟨_, rfl, rfl, _, rfl, ifB (fun _ => ?_) (fun h => absurd rfl (of_decide_eq_false h))⟩
      exact ⟨_, rfl, p, A.dx, _, rfl, hp3, bN_pass, H0, p, x, 1, rfl, ⟨A, ts, ls, B3⟩, by decide, fun H4 R4 => ⟨_, rfl, k _ R4⟩⟩
    · rw [if_neg c2] at k ⊢
      have B4 := B3.fld (z := x.zero) (le := x.lets) (as := false) (bt := x.beat) (sv := sv3) (la := x.la) (tv := tv3) (dv := dv3) hz3
      obtain ⟨sv4, tv4, dv4, hp4, hz4⟩ := B4.hp
      by_cases c3 : x.lets = true ∧ calledM x ≠ 0
      · rw [if_pos c3] at k ⊢
        refine ⟨_, rfl, rfl, _, rfl, ifB (fun h => absurd (V.str.inj (of_decide_eq_true h)) (by decide +kernel)) (fun _ => ?_)⟩
        refine ⟨_, rfl, rfl, _, rfl, ifB (fun h => absurd (V.str.inj (of_decide_eq_true h)) (by decide +kernel)) (fun _ => ?_)⟩
        refine ⟨_, rfl, p, CB, A.dx, _, rfl, hp3, T.cB, T.n_asleep, (by show 13 < 1000; decide), ?_⟩
        rw [bP_asleep]
        refine ⟨_, rfl, rfl, _, rfl, ifB (fun _ => ?_) (fun h => absurd rfl (of_decide_eq_false h))⟩
        exact ⟨_, rfl, p, A.dx, _, rfl, hp4, bN_begin, H0, p, _, rfl, ⟨A, ts, ls, B4⟩, hsl, k⟩
      · rw [if_neg c3] at k ⊢
        refine ⟨_, rfl, rfl, _, rfl, ifB (fun h => absurd (V.str.inj (of_decide_eq_true h)) (by decide +kernel)) (fun _ => ?_)⟩
        refine ⟨_, rfl, rfl, _, rfl, ifB (fun h => absurd (V.str.inj (of_decide_eq_true h)) (by decide +kernel)) (fun _ => ?_)⟩
        refine ⟨_, rfl, p, CB, A.dx, _, rfl, hp3, T.cB, T.n_asleep, (by show 13 < 1000; decide), ?_⟩
        rw [bP_asleep]
        refine ⟨_, rfl, rfl, _, rfl, ifB (fun h => absurd (V.str.inj (of_decide_eq_true h)) (by decide +kernel)) (fun _ => ?_)⟩
        exact ⟨_, rfl, p, A.dx, _, rfl, hp4, bN_do, H0, p, _, rfl, ⟨A, ts, ls, B4⟩, hsl, hpc, k⟩
end
end Bh

/-! A board is made. -/
namespace Bh
open PySem PySem.Spec PyProof.Rows L2
def newBd (ns : List Int) (ls : List (Int × Int)) : Bd := { a := 0, b := 0, pc := 0, sp := 767, zero := false, lets := false, asleep := false, beat := 0, sent := [], mem := memOf ns, line := ls, la := 0, stop := none }
def spBI (CB CM : Addr) : Sp := fun vs H Q _ => ∃ (H0 : Hp) (p dx im ln : Addr) (us : List V) (ns : List Int) (ls : List (Int × Int)), vs = [.ref p, .ref im, .ref ln] ∧ Same H0 H ∧ H0 p = none ∧ H p = some (.ins CB dx []) ∧ H im = some (.lst (ns.map V.int)) ∧ ns.length ≤ 512 ∧ WordsOk ns ∧
  H ln = some (.lst us) ∧ TupsAt H us ls ∧ riseM 0 ls ∧ ∀ H', BoardAt CB CM H0 H' p (newBd ns ls) → Q .non H'
def spFirst : Sp := fun vs H Q _ => vs = [] ∧ ∀ (H' : Hp) (r : Addr), Same H H' → H r = none → H' r = some (.dK (regD 0 0 0 767)) → Q (.ref r) H'
theorem pull {Hb H1 : Hp} {p : Addr} {o : HO} (s : Same (upd Hb p o) H1) (f : Hb p = none) : ∃ Hb1, H1 = upd Hb1 p o ∧ Same Hb Hb1 ∧ Hb1 p = none := by
  refine ⟨fun b => if b = p then none else H1 b, ?_, ?_, if_pos rfl⟩
  · funext b
    by_cases h : b = p
    · subst h
      rw [upd_same]
      exact s _ _ upd_same
    · rw [upd_ne h]
      exact (if_neg h).symm
  · intro b x e
    have h : b ≠ p := ne_of_none e f
    show (if b = p then none else H1 b) = some x
    rw [if_neg h]
    exact s _ _ (by rw [upd_ne h]; exact e)
theorem newp {Hb : Hp} {p r : Addr} {o o' : HO} (f : Hb p = none) (n : upd Hb p o r = none) : ∃ Hb1, upd (upd Hb p o) r o' = upd Hb1 p o ∧ Same Hb Hb1 ∧ Hb1 p = none ∧ Hb1 r = some o' ∧ Hb r = none ∧ r ≠ p := by
  obtain ⟨Hb1, e, s, f1⟩ := pull (same_upd' (o := o') n) f
  have rp : r ≠ p := fun z => by rw [z, upd_same] at n; cases n
  refine ⟨Hb1, e, s, f1, ?_, ?_, rp⟩
  · have := congrFun e r
    rw [upd_same, upd_ne rp] at this
    exact this.symm
  · rw [upd_ne rp] at n
    exact n
section
variable {P : Program} {w : World} {K : PySem.W.Frag} {mg : Str → Option Value} {base : Heap} {CB CM : Addr}
abbrev sFfirst : Stmt := topS 63
def scFfirstN : List Str := []
theorem scFfirst : FnScope scFfirstN [] (defScope sFfirst) := ⟨rfl, rfl, rfl, by decide +kernel, rfl, by decide +kernel, by decide +kernel⟩
theorem ok_Ffirst {f : Addr} {fd : FuncData} (F : Fun K "first_registers" "first_registers" sFfirst f fd) (T : Tx K mg CB CM) : FnOk P w K mg base CX0 1 f fd [] (spFirst) := by
  refine F.ok scFfirst (fun vs H Q E h => by obtain ⟨rfl, _⟩ := h; rfl) (fun cdv A outer s H vs Q E hr h => ?_)
  have hu := hu_of hr
  obtain ⟨t_STACK_TOP, g_STACK_TOP⟩ := T.g_STACK_TOP
  obtain ⟨rfl, q⟩ := h
  refine ⟨_, (pss_one (ps_ret (pe_disp (pps_cons pe_str pe_int (pps_cons pe_str pe_int (pps_cons pe_str pe_int (pps_cons pe_str (pgI g_STACK_TOP) pps_nil)))) rfl rfl (by intro h; cases h) (by decide)))), ?_⟩
  intro r nr
  refine ⟨upd_same, [(Sum.inr "a", .int 0), (Sum.inr "b", .int 0), (Sum.inr "pc", .int 0), (Sum.inr "sp", .int 767)], rfl, (by decide), ?_⟩
  have em : mergeK [] [((Sum.inr "a" : Key), V.int 0), (Sum.inr "b", .int 0), (Sum.inr "pc", .int 0), (Sum.inr "sp", .int 767)] = regD 0 0 0 767 := by kernel_rfl
  rw [em, upd_upd]
  exact q _ r (same_upd' nr) nr upd_same
abbrev sCboard : Stmt := inClass (topS 64) 0
def scCboardN : List Str := ["self", "image", "line"]
theorem scCboard : FnScope scCboardN ["self", "image", "line"] (defScope sCboard) := ⟨rfl, rfl, rfl, by decide +kernel, rfl, by decide +kernel, by decide +kernel⟩
theorem ok_Cboard {f : Addr} {fd : FuncData} {fC_mem : Addr} {dC_mem : FuncData} {fF_first : Addr} {dF_first : FuncData} {fF_image : Addr} {dF_image : FuncData} {fF_line : Addr} {dF_line : FuncData} (F : Fun K "__init__" "Board.__init__" sCboard f fd) (T : Tx K mg CB CM)
    (C_mem : CalC P w K mg base CM 1 "Memory" ["self", "image"] (spMI CM) fC_mem dC_mem)
    (F_first : CalF P w K mg base 1 "first_registers" [] (spFirst) fF_first dF_first)
    (F_image : CalF P w K mg base 4 "is_image" ["thing"] (spImg) fF_image dF_image)
    (F_line : CalF P w K mg base 4 "is_line" ["thing"] (spLine) fF_line dF_line) : FnOk P w K mg base CX0 6 f fd ["self", "image", "line"] (spBI CB CM) := by
  refine F.ok scCboard (fun vs H Q E h => by obtain ⟨_, _, _, _, _, _, _, _, rfl, _⟩ := h; rfl) (fun cdv A outer s H vs Q E hr h => ?_)
  have hu := hu_of hr
  have z_list := T.z_list
  obtain ⟨H0, p, dx, im, ln, us, ns, ls, rfl, s0, f0, hp, him, hl, hw, hln, htu, hri, k⟩ := h
  refine ⟨_, (pss_cons (ps_if (PW.pt (pw_or (pt_not (pt_val (pe_call F_image.G (hr.mono (by decide)) (by rfl) F_image.g F_image.kp F_image.b .nil pass0 (pa_cons (pv 1) pa_nil)))) (pw_or1 (pt_not (pt_val (pe_call F_line.G (hr.mono (by decide)) (by rfl) F_line.g F_line.kp F_line.b .nil pass0 (pa_cons (pv 2) pa_nil))))))) (pss_one ps_never) pss_nil)
    (pss_cons (ps_fld (pv 0) (pe_call0 F_first.G (hr.mono (by decide)) (by rfl) F_first.g F_first.kp F_first.b .nil pass0) rfl)
    (pss_cons (ps_fld (pv 0) pe_bl rfl)
    (pss_cons (ps_fld (pv 0) pe_bl rfl)
    (pss_cons (ps_fld (pv 0) pe_bl rfl)
    (pss_cons (ps_fld (pv 0) pe_int rfl)
    (pss_cons (ps_fld (pv 0) pe_non rfl)
    (pss_cons (ps_fld (pv 0) (pe_lst pa_nil) rfl)
    (pss_cons (ps_fld (pv 0) (pe_make C_mem.M C_mem.I (hr.mono (by decide)) rfl C_mem.g C_mem.b .nil pass0 (pa_cons (pv 1) pa_nil)) rfl)
    (pss_cons (ps_fld (pv 0) (pe_callTy call_list_of (by rfl) z_list (by decide +kernel) (pa_cons (pv 2) pa_nil)) rfl)
    (pss_cons (ps_fld (pv 0) pe_int rfl)
    (pss_cons (ps_fld (pv 0) (pe_lst pa_nil) rfl)
    (pss_cons (ps_fld (pv 0) pe_non rfl)
    (pss_one (ps_fld (pv 0) pe_int rfl))))))))))))))), ?_⟩
  have ne1 : im ≠ p := ne_of him hp (by intro q; cases q)
  have ne2 : ln ≠ p := ne_of hln hp (by intro q; cases q)
  obtain ⟨Hb, eH, sb, fb⟩ : ∃ Hb, H = upd Hb p (.ins CB dx []) ∧ Same H0 Hb ∧ Hb p = none := by
    refine ⟨fun b => if b = p then none else H b, ?_, ?_, if_pos rfl⟩
    · funext b
      by_cases h : b = p
      · subst h
        rw [upd_same]
        exact hp
      · rw [upd_ne h]
        exact (if_neg h).symm
    · intro b x e
      have h : b ≠ p := ne_of_none e f0
      show (if b = p then none else H b) = some x
      rw [if_neg h]
      exact s0 _ _ e
  subst eH
  rw [upd_ne ne1] at him
  rw [upd_ne ne2] at hln
  have htu : TupsAt Hb us ls := htu.mono fun t xs e => by
    rw [upd_ne (ne_of e hp (by intro q; cases q))] at e
    exact e
  refine ⟨_, rfl, im, ns, rfl, (by rw [upd_ne ne1]; exact him), hl, hw, fun H1 s1 => ?_⟩
  obtain ⟨Hb1, rfl, sb1, fb1⟩ := pull s1 fb
  refine ⟨_, rfl, ifN (fun h => by cases h) (fun _ => ?_)⟩
  refine ⟨_, rfl, ln, us, ls, rfl, (by rw [upd_ne ne2]; exact sb1 _ _ hln), htu.mono (fun t xs e => ?_), hri, ?_⟩
  · have tp : t ≠ p := fun z => by rw [z, fb] at e; cases e
    rw [upd_ne tp]
    exact sb1 _ _ e
  refine ⟨_, rfl, ifN (fun h => by cases h) (fun _ => ?_)⟩
  have sB1 := sb.trans sb1
  have him1 := sb1 _ _ him
  have hln1 := sb1 _ _ hln
  have htu1 : TupsAt Hb1 us ls := htu.mono fun t xs e => sb1 _ _ e
  clear hln htu him s1 sb1 sb s0 hp
  refine ⟨rfl, fun H2 r s2' fr hr => ?_⟩
  obtain ⟨Hb3, rfl, s3, fb3⟩ := pull s2' fb1
  have rp : r ≠ p := fun z => by rw [z, upd_same] at fr; cases fr
  rw [upd_ne rp] at fr hr
  have fr0 := fr
  have hr3 := hr
  refine ⟨_, rfl, p, CB, dx, _, rfl, upd_same, T.cB, T.n_registers, (by show 0 < 1000; decide), ?_⟩
  rw [upd_upd]
  refine ⟨_, rfl, p, CB, dx, _, rfl, upd_same, T.cB, T.n_zero, (by show 1 < 1000; decide), ?_⟩
  rw [upd_upd]
  refine ⟨_, rfl, p, CB, dx, _, rfl, upd_same, T.cB, T.n_lets, (by show 2 < 1000; decide), ?_⟩
  rw [upd_upd]
  refine ⟨_, rfl, p, CB, dx, _, rfl, upd_same, T.cB, T.n_asleep, (by show 3 < 1000; decide), ?_⟩
  rw [upd_upd]
  refine ⟨_, rfl, p, CB, dx, _, rfl, upd_same, T.cB, T.n_beat, (by show 4 < 1000; decide), ?_⟩
  rw [upd_upd]
  refine ⟨_, rfl, p, CB, dx, _, rfl, upd_same, T.cB, T.n_stopped, (by show 5 < 1000; decide), ?_⟩
  rw [upd_upd]
  refine ⟨Nat.zero_le _, fun t nt => ?_⟩
  obtain ⟨Hb4, e4, s4, fb4, ht4, ft0, tp⟩ := newp (o' := .lst []) fb3 nt
  rw [e4]
  refine ⟨_, rfl, p, CB, dx, _, rfl, upd_same, T.cB, T.n_sent, (by show 6 < 1000; decide), ?_⟩
  rw [upd_upd]
  refine ⟨_, rfl, ?_⟩
  intro m dm nm ndm ndmm
  have mp : m ≠ p := fun z => by rw [z, upd_same] at nm; cases nm
  rw [upd_ne mp] at nm
  have dmp : dm ≠ p := fun z => by rw [z, upd_same] at ndm; cases ndm
  rw [upd_ne dmp] at ndm
  have him4 := s4 _ _ (s3 _ _ him1)
  have imm : im ≠ m := ne_of_none him4 nm
  have imd : im ≠ dm := ne_of_none him4 ndm
  refine ⟨m, dm, im, ns, rfl, upd_same, (by rw [upd_ne imm, upd_ne imd, upd_ne ne1]; exact him4), hl, fun H5 w_ s_ M5 fr5 fw5 fs5 => ⟨rfl, ?_⟩⟩
  have kp : ∀ b o, Hb4 b = some o → H5 b = some o := fun b o e => fr5 b o (ne_of_none e nm) (by
    rw [upd_ne (ne_of_none e nm), upd_ne (ne_of_none e ndm), upd_ne (ne_of_none e fb4)]
    exact e)
  have hp5 : ∃ fs, H5 p = some (.ins CB dx fs) ∧ fs = ([("registers", .ref r), ("zero", .bl false), ("lets", .bl false), ("asleep", .bl false), ("beat", .int 0), ("stopped", .non), ("sent", .ref t)] : List (Str × V)) := by
    refine ⟨_, fr5 p _ mp.symm (by rw [upd_ne mp.symm, upd_ne dmp.symm]; exact upd_same), ?_⟩
    kernel_rfl
  obtain ⟨fs, hp5, efs⟩ := hp5
  have wp : w_ ≠ p := fun z => by
    rw [z, upd_ne mp.symm, upd_ne dmp.symm, upd_same] at fw5
    cases fw5
  have wm : w_ ≠ m := ne_of M5.hw M5.hm (by intro q; cases q)
  have wd : w_ ≠ dm := fun z => by
    rw [z, upd_ne ndmm, upd_same] at fw5
    cases fw5
  have fw4 : Hb4 w_ = none := by rw [upd_ne wm, upd_ne wd, upd_ne wp] at fw5; exact fw5
  have sp_ : s_ ≠ p := fun z => by
    rw [z, upd_ne mp.symm, upd_ne dmp.symm, upd_same] at fs5
    cases fs5
  have sm_ : s_ ≠ m := ne_of M5.hs M5.hm (by intro q; cases q)
  have sd_ : s_ ≠ dm := fun z => by
    rw [z, upd_ne ndmm, upd_same] at fs5
    cases fs5
  have fs4 : Hb4 s_ = none := by rw [upd_ne sm_, upd_ne sd_, upd_ne sp_] at fs5; exact fs5
  obtain ⟨Hb5, rfl, kp5, fb5⟩ : ∃ Hb5 : Hp, H5 = upd Hb5 p (.ins CB dx fs) ∧ Same Hb4 Hb5 ∧ Hb5 p = none := by
    refine ⟨fun b => if b = p then none else H5 b, ?_, ?_, if_pos rfl⟩
    · funext b
      by_cases h : b = p
      · subst h
        rw [upd_same]
        exact hp5
      · rw [upd_ne h]
        exact (if_neg h).symm
    · intro b x e
      show (if b = p then none else H5 b) = some x
      rw [if_neg (ne_of_none e fb4)]
      exact kp _ _ e
  have hm5 : Hb5 m = some (.ins CM dm (mmF w_ s_)) := by have := M5.hm; rw [upd_ne mp] at this; exact this
  have hw5 : Hb5 w_ = some (.lst ((memOf ns).map V.int)) := by have := M5.hw; rw [upd_ne wp] at this; exact this
  have hs5 : Hb5 s_ = some (.dK []) := by have := M5.hs; rw [upd_ne sp_] at this; exact this
  have lm5 := M5.lm
  clear M5 fr5 kp hp5
  subst efs
  refine ⟨_, rfl, p, CB, dx, _, rfl, upd_same, T.cB, T.n_memory, (by show 7 < 1000; decide), ?_⟩
  rw [upd_upd]
  refine ⟨_, rfl, ln, us, rfl, .inl (SqL.of (by rw [upd_ne ne2]; exact kp5 _ _ (s4 _ _ (s3 _ _ hln1)))), fun l nl => ?_⟩
  obtain ⟨Hb6, e6, s6, fb6, hl6, fl0, lp⟩ := newp (o' := .lst us) fb5 nl
  rw [e6]
  refine ⟨_, rfl, p, CB, dx, _, rfl, upd_same, T.cB, T.n_line, (by show 8 < 1000; decide), ?_⟩
  rw [upd_upd]
  refine ⟨_, rfl, p, CB, dx, _, rfl, upd_same, T.cB, T.n_line_at, (by show 9 < 1000; decide), ?_⟩
  rw [upd_upd]
  refine ⟨Nat.zero_le _, fun q nq => ?_⟩
  obtain ⟨Hb7, e7, s7, fb7, hq7, -, qp⟩ := newp (o' := .lst []) fb6 nq
  rw [e7]
  refine ⟨_, rfl, p, CB, dx, _, rfl, upd_same, T.cB, T.n_touched, (by show 10 < 1000; decide), ?_⟩
  rw [upd_upd]
  refine ⟨_, rfl, p, CB, dx, _, rfl, upd_same, T.cB, T.n_did, (by show 11 < 1000; decide), ?_⟩
  rw [upd_upd]
  refine ⟨_, rfl, p, CB, dx, _, rfl, upd_same, T.cB, T.n_bend, (by show 12 < 1000; decide), ?_⟩
  rw [upd_upd]
  have s57 := s6.trans s7
  have s47 := kp5.trans s57
  have s17 : Same Hb1 Hb7 := (s3.trans s4).trans s47
  have hmh : Hb7 m = some (.ins CM dm (mmF w_ s_)) := s57 _ _ hm5
  refine k _ ⟨⟨dx, r, m, dm, w_, s_, t, l⟩, [], us, ?_⟩
  exact {
    sm := fun b x e => by
      rw [upd_ne (ne_of_none e f0)]
      exact s17 _ _ (sB1 _ _ e)
    fp := f0
    fr := sB1.free fr0
    fw := sB1.free ((s3.trans s4).free fw4)
    ft := sB1.free (s3.free ft0)
    fm := sB1.free ((s3.trans s4).free nm)
    fs := sB1.free ((s3.trans s4).free fs4)
    fl := sB1.free (s3.free (s4.free (kp5.free fl0)))
    hp := ⟨.non, .ref q, .non, (by rw [upd_same]; exact congrArg (fun z => some (HO.ins CB dx z)) (by kernel_rfl)), rfl⟩
    hr := by rw [upd_ne rp]; exact s47 _ _ (s4 _ _ hr3)
    hm := by rw [upd_ne mp]; exact hmh
    hw := by rw [upd_ne wp]; exact s57 _ _ hw5
    hs := by rw [upd_ne sp_]; exact s57 _ _ hs5
    ht := by rw [upd_ne tp]; exact s47 _ _ ht4
    hl := by rw [upd_ne lp]; exact s7 _ _ hl6
    pm := mp.symm
    rs := fun (z : r = s_) => by
      have h1 := s4 _ _ hr3
      rw [z, fs4] at h1
      cases h1
    wt := fun (z : w_ = t) => by rw [z, ht4] at fw4; cases fw4
    wl := fun (z : w_ = l) => by rw [← z, hw5] at fl0; cases fl0
    tl := fun (z : t = l) => by
      have h1 := kp5 _ _ ht4
      rw [z, fl0] at h1
      cases h1
    us := .nil
    ll := htu1.mono fun u xs e => by
      have up : u ≠ p := ne_of_none e fb1
      rw [upd_ne up]
      exact s17 _ _ e
    lm := lm5 }
end
end Bh

/-! A board that has no line, in a turn that is a deed. -/
namespace Bh
open PySem PySem.Spec PyProof.Rows L2
def timN : Nat → List Int → List Int
  | 0, m => m
  | n + 1, m => timN n (goTimerM m)
theorem come_nil {x : Bd} (h : x.line = []) : comeM x = x := by
  unfold comeM
  rw [h]
  exact if_neg fun z => by cases z.1
theorem passOne_nil {x : Bd} (h : x.line = []) : passOneM x = { x with beat := x.beat + 1, mem := goTimerM x.mem } := by
  have e : comeM { x with beat := x.beat + 1 } = { x with beat := x.beat + 1 } := come_nil h
  show { comeM { x with beat := x.beat + 1 } with mem := goTimerM (comeM { x with beat := x.beat + 1 }).mem } = _
  rw [e]
theorem pass_nil : ∀ (n : Nat) (x : Bd), x.line = [] → passM n x = { x with beat := x.beat + n, mem := timN n x.mem }
  | 0, x, _ => by
    show x = _
    cases x
    simp [timN]
  | n + 1, x, h => by
    show passM n (passOneM x) = _
    rw [passOne_nil h]
    rw [pass_nil n { x with beat := x.beat + 1, mem := goTimerM x.mem } h]
    show ({ x with beat := x.beat + 1 + (n : Int), mem := timN n (goTimerM x.mem) } : Bd) = { x with beat := x.beat + ((n + 1 : Nat) : Int), mem := timN (n + 1) x.mem }
    have : x.beat + 1 + (n : Int) = x.beat + ((n + 1 : Nat) : Int) := by omega
    rw [this]
    rfl
theorem timN_len : ∀ (n : Nat) (m : List Int), (timN n m).length = m.length
  | 0, _ => rfl
  | n + 1, m => by
    show (timN n (goTimerM m)).length = _
    rw [timN_len n, goTimerM_len]
theorem goTimerM_far {m : List Int} {j : Int} (h0 : 0 ≤ j) (h1 : j ≠ 768) (h2 : j ≠ 770) : rd (goTimerM m) j = rd m j := by
  unfold goTimerM
  split
  · rfl
  · split
    · rw [rd_stM_ne (by decide) h0 (Ne.symm h1), rd_stM_ne (by decide) h0 (Ne.symm h2)]
    · rw [rd_stM_ne (by decide) h0 (Ne.symm h1)]
theorem timN_far : ∀ (n : Nat) (m : List Int) {j : Int}, 0 ≤ j → j ≠ 768 → j ≠ 770 → rd (timN n m) j = rd m j
  | 0, _, _, _, _, _ => rfl
  | n + 1, m, j, h0, h1, h2 => by
    show rd (timN n (goTimerM m)) j = _
    rw [timN_far n _ h0 h1 h2, goTimerM_far h0 h1 h2]
/-- nothing keeps a deed from being done -/
structure Calm (x : Bd) : Prop where
  st : x.stop = none
  as : x.asleep = false
  le : x.lets = false
  ln : x.line = []
  p0 : 0 ≤ x.pc
  p1 : x.pc < 768
theorem turn_deed {x : Bd} (h : Calm x) {op : Nat} {n : Int} (hw : rd x.mem x.pc = 1024 * op + n) (n0 : 0 ≤ n) (n1 : n < 1024) (o1 : 1 ≤ op) (o2 : op < 23) (hb : firstBad (touM op n x.b x.sp) = none) :
    turnM x = (("deed" : Str), passM (1 + (touM op n x.b x.sp).length) (doM op n (readsM x.mem (touM op n x.b x.sp)) { x with pc := x.pc + 1 })) := by
  have eo : opM x = op := by
    unfold opM
    rw [hw]
    omega
  have en : xM x = n := by
    unfold xM
    rw [hw]
    omega
  have et : toM x = touM op n x.b x.sp := by
    unfold toM
    rw [eo, en]
  have ea : ({ x with asleep := false } : Bd) = x := by
    have := h.as
    cases x
    cases this
    rfl
  unfold turnM
  rw [if_neg (fun z => z h.st), if_neg (fun z => by rw [h.as] at z; cases z.1), if_neg (fun z => by rw [h.le] at z; cases z.1), ea]
  unfold deedM
  rw [if_neg (fun z => z ⟨h.p0, h.p1⟩), eo, if_neg (by omega), if_neg (by omega), et, hb]
  unfold doneM
  rw [et, eo, en]
theorem memOf_rd {ns : List Int} (hl : ns.length ≤ 512) {j : Nat} (hj : j < ns.length) : rd (memOf ns) j = rd ns j := by
  unfold rd memOf
  rw [List.getD_eq_getElem?_getD, List.getD_eq_getElem?_getD, List.append_assoc, List.getElem?_append_left (by show j < _; exact hj)]
theorem memOf_ram {ns : List Int} (hl : ns.length ≤ 512) {j : Nat} (h0 : 512 ≤ j) (h1 : j < 774) : rd (memOf ns) j = 0 := by
  unfold rd memOf
  rw [List.getD_eq_getElem?_getD, List.getElem?_append_right (by rw [List.length_append, List.length_replicate]; show _ ≤ j; omega), List.getElem?_replicate]
  rw [List.length_append, List.length_replicate]
  have : ((j : Int).toNat - (ns.length + (512 - ns.length))) < 262 := by
    show j - _ < 262
    omega
  rw [if_pos this]
  rfl
end Bh

/-! The law's own defs. -/
namespace Bh
open PySem PySem.Spec PyProof.Rows L2
def DigOk (ds : List Int) : Prop := ∀ d ∈ ds, 0 ≤ d ∧ d ≤ 1008
theorem digOk_snoc {ds : List Int} {d : Int} (h : DigOk ds) (h0 : 0 ≤ d) (h1 : d ≤ 1008) : DigOk (ds ++ [d]) := fun x hx => by
  rcases List.mem_append.mp hx with q | q
  · exact h x q
  · rw [List.mem_singleton.mp q]
    exact ⟨h0, h1⟩
theorem atN {ds : List Int} (hd : DigOk ds) {j : Int} (h0 : 0 ≤ j) (h1 : j < ds.length) : ∃ d, atI (ds.map V.int) j = some (.int d) ∧ 0 ≤ d ∧ d ≤ 1008 := by
  have hj : j.toNat < ds.length := by omega
  refine ⟨rd ds j, atI_rd h0 h1, ?_⟩
  unfold rd
  rw [List.getD_eq_getElem?_getD, List.getElem?_eq_getElem hj]
  exact hd _ (List.getElem_mem hj)
def spDig : Sp := fun vs H Q _ => ∃ (c : Int) (m : Nat), vs = [.int c, .int (m : Int)] ∧ m ≤ 1000 ∧ ∀ (H' : Hp) (p : Addr) (ds : List Int), ds.length = m → DigOk ds → Same H H' → H p = none → H' p = some (.lst (ds.map V.int)) → Q (.ref p) H'
section
variable {P : Program} {w : World} {K : PySem.W.Frag} {mg : Str → Option Value} {base : Heap} {CB CM : Addr}
abbrev sLdig : Stmt := topS 67
def scLdigN : List Str := ["_law_cell_here", "_law_many", "_law_row", "_law_rest", "_law_number", "_law_k"]
theorem scLdig : FnScope scLdigN ["_law_cell_here", "_law_many"] (defScope sLdig) := ⟨rfl, rfl, rfl, by decide +kernel, rfl, by decide +kernel, by decide +kernel⟩
theorem ok_Ldig {f : Addr} {fd : FuncData} (F : Fun K "_law_digits" "_law_digits" sLdig f fd) (T : Tx K mg CB CM) : FnOk P w K mg base CX0 1 f fd ["_law_cell_here", "_law_many"] (spDig) := by
  refine F.ok scLdig (fun vs H Q E h => by obtain ⟨_, _, rfl, _⟩ := h; rfl) (fun cdv A outer s H vs Q E hr h => ?_)
  have hu := hu_of hr
  have z_range := T.z_range
  obtain ⟨c, m, rfl, hm, q⟩ := h
  refine ⟨_, (pss_cons (ps_set (i := 2) scLdig.nd rfl (.inl rfl) (pe_lst pa_nil))
    (pss_cons (ps_set (i := 3) scLdig.nd rfl (.inl rfl) pe_int)
    (pss_cons (ps_if (pt_cmpR op_ge (pv 0) (pe_op op_pow pe_int pe_int) (nomark _)) (pss_one (ps_set (i := 3) scLdig.nd rfl (.inl rfl) (pv 0))) pss_nil)
    (pss_cons (ps_set (i := 4) scLdig.nd rfl (.inl rfl) (pe_op op_mod (pv 0) pe_int))
    (pss_cons (ps_for PassesOwn.never rfl (pi_range1 (by rfl) z_range (pa_cons (pv 1) pa_nil)) (pg_name (i := 5) scLdig.nd rfl (.inl rfl))
      (pss_cons (ps_set (i := 4) scLdig.nd rfl (.inl rfl) (pe_op op_mod (pe_op op_add (pe_op op_add (pe_op op_mul (pv 4) pe_int) (pe_op op_mul pe_int (pv 5))) pe_int) pe_int))
    (pss_cons (ps_set (i := 4) scLdig.nd rfl (.inl rfl) (pe_op op_mod (pe_op op_mul (pv 4) (pe_op op_add (pe_op op_fdiv (pv 4) pe_int) pe_int)) pe_int))
    (pss_one (ps_if (pt_cmpR op_gt (pv 3) pe_int (nomark _)) (pss_cons (ps_expr (pe_bm PySem.F.plainAttrs_list PySem.F.slot_list_append PySem.F.type_list_append mt_append (pv 2) (pa_cons (pe_op op_mod (pv 3) pe_int) pa_nil)))
    (pss_one (ps_set (i := 3) scLdig.nd rfl (.inl rfl) (pe_op op_fdiv (pv 3) pe_int)))) (pss_one (ps_expr (pe_bm PySem.F.plainAttrs_list PySem.F.slot_list_append PySem.F.type_list_append mt_append (pv 2) (pa_cons (pe_op op_mod (pe_op op_fdiv (pv 4) pe_int) pe_int) pa_nil)))))))))
    (pss_one (ps_ret (pv 2)))))))), ?_⟩
  refine ⟨Nat.zero_le _, fun p np => ?_⟩
  refine ⟨_, rfl, _, _, rfl, rfl, ⟨by decide, by decide, by decide⟩, _, _, rfl, rfl, _, rfl, ite2 (fun _ => ⟨_, rfl, ?_⟩) (fun _ => ?_)⟩
  all_goals
    refine ⟨_, rfl, _, _, rfl, rfl, (by show (0 : Int) < 2147483647; decide), ?_⟩
    refine ⟨_, rfl, (m : Int), rfl, by omega, by omega, ?_⟩
    refine for_range (lo := 0) (n := ((m : Int)).toNat) (fun i σ H' => ∃ (rest num : Int) (y : Option V) (ds : List Int), σ = [some (.int c), some (.int (m : Int)), some (.ref p), some (.int rest), some (.int num), y] ∧ 0 ≤ num ∧ num < 2147483647 ∧ ds.length = i ∧ DigOk ds ∧ Same H H' ∧ H' p = some (.lst (ds.map V.int)))
      ⟨_, _, none, [], rfl, Int.emod_nonneg _ (by decide), Int.emod_lt_of_pos _ (by decide), rfl, (fun _ h => by cases h), same_upd' np, upd_same⟩ ?_ ?_
    · rintro i σ H' hi ⟨rest, num, y, ds, rfl, n0, n1, hl, hd, sm, hp⟩
      have him : i < 1000 := by omega
      refine ⟨_, rfl, _, _, rfl, rfl, .inl ⟨by omega, by omega⟩, _, rfl, _, _, rfl, rfl, .inl ⟨by decide, by decide⟩, _, _, rfl, rfl, _, _, rfl, rfl, _, _, rfl, rfl, (by show (0 : Int) < 2147483647; decide), ?_⟩
      have a0 := Int.emod_nonneg (num * 48271 + 30103 * (0 + (i : Int)) + 11) (show (2147483647 : Int) ≠ 0 by decide)
      have a1 := Int.emod_lt_of_pos (num * 48271 + 30103 * (0 + (i : Int)) + 11) (show (0 : Int) < 2147483647 by decide)
      refine ⟨_, rfl, _, rfl, _, _, rfl, rfl, ⟨by decide, by decide⟩, _, _, rfl, rfl, _, _, rfl, rfl, .inl ⟨by omega, by omega⟩, _, _, rfl, rfl, (by show (0 : Int) < 2147483629; decide), ?_⟩
      have b0 := Int.emod_nonneg (((num * 48271 + 30103 * (0 + (i : Int)) + 11) % 2147483647) * (((num * 48271 + 30103 * (0 + (i : Int)) + 11) % 2147483647) / 1009 + 69621)) (show (2147483629 : Int) ≠ 0 by decide)
      have b1 := Int.emod_lt_of_pos (((num * 48271 + 30103 * (0 + (i : Int)) + 11) % 2147483647) * (((num * 48271 + 30103 * (0 + (i : Int)) + 11) % 2147483647) / 1009 + 69621)) (show (0 : Int) < 2147483629 by decide)
      have hlen : (ds.map V.int).length < sizeLine := by
        rw [List.length_map]
        exact small1000 (by omega)
      have upd_ok : ∀ (d : Int), Same H (upd H' p (.lst (ds.map V.int ++ [.int d]))) ∧ upd H' p (.lst (ds.map V.int ++ [.int d])) p = some (.lst ((ds ++ [d]).map V.int)) := fun d => by
        refine ⟨same_of sm np, ?_⟩
        rw [upd_same, List.map_append]
        rfl
      refine ⟨_, rfl, _, _, rfl, rfl, _, rfl, ite2 (fun _ => ?_) (fun _ => ?_)⟩
      · refine ⟨_, rfl, .inl ⟨rfl, _, SqL.of hp⟩, _, rfl, _, _, rfl, rfl, (by show (0 : Int) < 1009; decide), p, _, _, rfl, rfl, hp, hlen, ?_⟩
        refine ⟨_, rfl, _, _, rfl, rfl, ⟨by decide, by decide⟩, ?_⟩
        have c0 := Int.emod_nonneg rest (show (1009 : Int) ≠ 0 by decide)
        have c1 := Int.emod_lt_of_pos rest (show (0 : Int) < 1009 by decide)
        exact ⟨_, _, _, ds ++ [rest % 1009], rfl, b0, by omega, by rw [List.length_append, hl]; rfl, digOk_snoc hd c0 (by omega), (upd_ok _).1, (upd_ok _).2⟩
      · refine ⟨_, rfl, .inl ⟨rfl, _, SqL.of hp⟩, _, rfl, _, _, rfl, rfl, ⟨by decide, by decide⟩, _, _, rfl, rfl, (by show (0 : Int) < 1009; decide), p, _, _, rfl, rfl, hp, hlen, ?_⟩
        have c0 := Int.emod_nonneg (((((num * 48271 + 30103 * (0 + (i : Int)) + 11) % 2147483647) * (((num * 48271 + 30103 * (0 + (i : Int)) + 11) % 2147483647) / 1009 + 69621)) % 2147483629) / 7) (show (1009 : Int) ≠ 0 by decide)
        have c1 := Int.emod_lt_of_pos (((((num * 48271 + 30103 * (0 + (i : Int)) + 11) % 2147483647) * (((num * 48271 + 30103 * (0 + (i : Int)) + 11) % 2147483647) / 1009 + 69621)) % 2147483629) / 7) (show (0 : Int) < 1009 by decide)
        exact ⟨_, _, _, ds ++ [((((num * 48271 + 30103 * (0 + (i : Int)) + 11) % 2147483647) * (((num * 48271 + 30103 * (0 + (i : Int)) + 11) % 2147483647) / 1009 + 69621)) % 2147483629) / 7 % 1009], rfl, b0, by omega, by rw [List.length_append, hl]; rfl, digOk_snoc hd c0 (by omega), (upd_ok _).1, (upd_ok _).2⟩
    · rintro σ H' ⟨rest, num, y, ds, rfl, n0, n1, hl, hd, sm, hp⟩
      exact ⟨_, rfl, q H' p ds (by omega) hd sm np hp⟩
end
end Bh

/-! Lists of ints told; a law's frame. -/
namespace Bh
open PySem PySem.Spec PyProof.Rows L2
theorem can_ints : ∀ ns : List Int, PyData.canLayAll0 (ns.map PyData.int) = true
  | [] => rfl
  | n :: r => by
    show (PyData.canLay0 (.int n) && PyData.canLayAll0 (r.map PyData.int)) = true
    rw [can_ints r]
    rfl
theorem dep_ints : ∀ ns : List Int, PyData.depthAll (ns.map PyData.int) ≤ 1
  | [] => by decide
  | n :: r => by
    have ih := dep_ints r
    show max (PyData.depth (.int n)) (PyData.depthAll (r.map PyData.int)) ≤ 1
    exact Nat.max_le.mpr ⟨Nat.zero_le _, ih⟩
theorem dp_ints {K : PySem.W.Frag} {H : Hp} : ∀ ns : List Int, DpAll K H (ns.map V.int) (ns.map PyData.int)
  | [] => .nil
  | n :: r => .cons (.int n) (dp_ints r)
theorem shaped_ints (ns : List Int) : SeqAt.shaped (.list (ns.map PyData.int)) = true := by
  show (PyData.canLayAll0 (ns.map PyData.int) && decide (PyData.depthAll (ns.map PyData.int) + 1 ≤ 64)) = true
  rw [can_ints, decide_eq_true (by have := dep_ints ns; omega)]
  rfl
theorem cut_ints (ns : List Int) (lo hi : Option Int) : ∃ ms : List Int, cutV (ns.map V.int) lo hi = ms.map V.int ∧ ms.length ≤ ns.length := by
  unfold cutV
  rw [← List.map_drop, ← List.map_take]
  refine ⟨_, rfl, ?_⟩
  rw [List.length_take, List.length_drop]
  omega

def spLaw (K : PySem.W.Frag) : Sp := fun vs H Q _ => ∃ (a : Addr) (ns : List Int), vs = [.ref a] ∧ SqL K H a (ns.map V.int) ∧ ns.length ≤ 63 ∧ ∀ H', Q (.bl true) H'
/-- an object of the base that is not the board's changes -/
theorem Bp.mut {CB CM p q : Addr} {Hb H : Hp} {A : Ad} {ts ls : List V} {x : Bd} (h : Bp CB CM Hb H p A ts ls x) {o o0 : HO} (hq : Hb q = some o0) (nt : ∀ xs, o0 ≠ .tup xs) : Bp CB CM (upd Hb q o) (upd H q o) p A ts ls x := by
  have qp : q ≠ p := ne_of_none hq h.fp
  have qr : q ≠ A.r := ne_of_none hq h.fr
  have qw : q ≠ A.w := ne_of_none hq h.fw
  have qt : q ≠ A.t := ne_of_none hq h.ft
  have nm : q ≠ A.m := ne_of_none hq h.fm
  have ns : q ≠ A.s := ne_of_none hq h.fs
  have nl : q ≠ A.l := ne_of_none hq h.fl
  have hH := h.sm _ _ hq
  have tk : ∀ t xs, H t = some (.tup xs) → upd H q o t = some (.tup xs) := fun t xs e => by
    rw [upd_ne (fun z => by rw [z, hH] at e; exact nt xs (Option.some.inj e))]
    exact e
  obtain ⟨sv, tv, dv, hp, hz⟩ := h.hp
  exact {
    sm := fun b y e => by
      by_cases z : b = q
      · subst z
        rw [upd_same] at e ⊢
        exact e
      · rw [upd_ne z] at e ⊢
        exact h.sm _ _ e
    fp := by rw [upd_ne qp.symm]; exact h.fp
    fr := by rw [upd_ne qr.symm]; exact h.fr
    fw := by rw [upd_ne qw.symm]; exact h.fw
    ft := by rw [upd_ne qt.symm]; exact h.ft
    fm := by rw [upd_ne nm.symm]; exact h.fm
    fs := by rw [upd_ne ns.symm]; exact h.fs
    fl := by rw [upd_ne nl.symm]; exact h.fl
    hp := ⟨sv, tv, dv, by rw [upd_ne qp.symm]; exact hp, hz.mono tk⟩
    hr := by rw [upd_ne qr.symm]; exact h.hr
    hm := by rw [upd_ne nm.symm]; exact h.hm
    hw := by rw [upd_ne qw.symm]; exact h.hw
    hs := by rw [upd_ne ns.symm]; exact h.hs
    ht := by rw [upd_ne qt.symm]; exact h.ht
    hl := by rw [upd_ne nl.symm]; exact h.hl
    pm := h.pm
    rs := h.rs
    wt := h.wt
    wl := h.wl
    tl := h.tl
    us := h.us.mono tk
    ll := h.ll.mono tk
    lm := h.lm }
theorem sqL_upd {K : PySem.W.Frag} {H : Hp} {a q : Addr} {xs : List V} {o o0 : HO} (h : SqL K H a xs) (hq : H q = some o0) (n1 : ∀ xs, o0 ≠ .lst xs) (n2 : ∀ o xs, o0 ≠ .frz o (.lst xs)) : SqL K (upd H q o) a xs := by
  rcases h with (e | ⟨od, e⟩) | h
  · exact .inl (.inl (by rw [upd_ne (fun z => by rw [z, hq] at e; exact n1 _ (Option.some.inj e))]; exact e))
  · exact .inl (.inr ⟨od, by rw [upd_ne (fun z => by rw [z, hq] at e; exact n2 _ _ (Option.some.inj e))]; exact e⟩)
  · exact .inr h
theorem take_snoc {F : List Int} {j : Nat} {v : Int} (h : F[j]? = some v) : (F.take (j + 1)).map V.int = (F.take j).map V.int ++ [.int v] := by
  rw [List.take_succ, h, List.map_append]
  rfl
theorem getI {L : List Int} {j : Nat} {v : V} (h : (L.map V.int)[j]? = some v) : ∃ a, L[j]? = some a ∧ v = .int a := by
  rw [List.getElem?_map] at h
  cases e : L[j]? with
  | none => rw [e] at h; cases h
  | some a => rw [e] at h; exact ⟨a, rfl, (Option.some.inj h).symm⟩
end Bh

/-! The law's own board, in plain words: it goes as the program's does. -/
namespace Bh
open PySem PySem.Spec PyProof.Rows L2
/-! ### bits -/
theorem and_nat (x y : Nat) : Builtin.bitAnd (x : Int) (y : Int) = ((x &&& y : Nat) : Int) := by
  unfold Builtin.bitAnd
  rw [decide_eq_true (Int.natCast_nonneg x), decide_eq_true (Int.natCast_nonneg y)]
  rfl
theorem or_nat (x y : Nat) : Builtin.bitOr (x : Int) (y : Int) = ((x ||| y : Nat) : Int) := by
  unfold Builtin.bitOr Builtin.bitAnd Builtin.bitNot
  have h1 : ¬ (0 : Int) ≤ -(x : Int) - 1 := by omega
  have h2 : ¬ (0 : Int) ≤ -(y : Int) - 1 := by omega
  rw [decide_eq_false h1, decide_eq_false h2]
  have e1 : (-(-(x : Int) - 1) - 1).toNat = x := by omega
  have e2 : (-(-(y : Int) - 1) - 1).toNat = y := by omega
  simp only [e1, e2]
  omega
def W16 (v : Int) : Prop := 0 ≤ v ∧ v ≤ 65535
theorem w16_nat {v : Int} (h : W16 v) : ∃ n : Nat, v = n ∧ n < 2 ^ 16 := ⟨v.toNat, by have := h.1; omega, by have := h.1; have := h.2; show v.toNat < 65536; omega⟩
theorem and16 {x y : Int} (hx : W16 x) (hy : W16 y) : W16 (Builtin.bitAnd x y) := by
  obtain ⟨a, rfl, ha⟩ := w16_nat hx
  obtain ⟨b, rfl, hb⟩ := w16_nat hy
  rw [and_nat]
  have := Nat.and_lt_two_pow a hb
  have e : (2 : Nat) ^ 16 = 65536 := rfl
  exact ⟨by omega, by omega⟩
theorem or16 {x y : Int} (hx : W16 x) (hy : W16 y) : W16 (Builtin.bitOr x y) := by
  obtain ⟨a, rfl, ha⟩ := w16_nat hx
  obtain ⟨b, rfl, hb⟩ := w16_nat hy
  rw [or_nat]
  have := Nat.or_lt_two_pow ha hb
  have e : (2 : Nat) ^ 16 = 65536 := rfl
  exact ⟨by omega, by omega⟩
theorem and_sub_le (a b : Nat) : a &&& b ≤ a := Nat.and_le_left
theorem and_or_sum (a b : Nat) : (a &&& b) + (a ||| b) = a + b := by
  induction a using Nat.strongRecOn generalizing b with
  | ind a ih =>
    by_cases h : a = 0
    · subst h
      simp
    · have i := ih (a / 2) (by omega) (b / 2)
      have e1 := Nat.div_add_mod (a &&& b) 2
      have e2 := Nat.div_add_mod (a ||| b) 2
      have e3 := Nat.div_add_mod a 2
      have e4 := Nat.div_add_mod b 2
      rw [Nat.and_div_two] at e1
      rw [Nat.or_div_two] at e2
      have f1 : (a &&& b) % 2 = (a % 2) &&& (b % 2) := by
        have := Nat.and_mod_two_pow (a := a) (b := b) (n := 1)
        simpa using this
      have f2 : (a ||| b) % 2 = (a % 2) ||| (b % 2) := by
        have := Nat.or_mod_two_pow (a := a) (b := b) (n := 1)
        simpa using this
      rw [f1] at e1
      rw [f2] at e2
      rcases Nat.mod_two_eq_zero_or_one a with c1 | c1 <;> rcases Nat.mod_two_eq_zero_or_one b with c2 | c2 <;> rw [c1, c2] at e1 e2 <;> simp at e1 e2 <;> omega
theorem xor_nat (x y : Nat) : W16 (x : Int) → W16 (y : Int) → W16 (Builtin.bitXor (x : Int) (y : Int)) := fun hx hy => by
  unfold Builtin.bitXor
  have h1 := or16 hx hy
  rw [or_nat] at h1 ⊢
  rw [and_nat]
  have h2 : x &&& y ≤ x ||| y := Nat.le_trans Nat.and_le_left Nat.left_le_or
  exact ⟨by omega, by have := h1.2; omega⟩
theorem xor16 {x y : Int} (hx : W16 x) (hy : W16 y) : W16 (Builtin.bitXor x y) := by
  obtain ⟨a, rfl, ha⟩ := w16_nat hx
  obtain ⟨b, rfl, hb⟩ := w16_nat hy
  exact xor_nat a b hx hy
theorem clear16 {x y : Int} (hx : W16 x) (hy : W16 y) : Builtin.bitAnd x (65535 - y) = x - Builtin.bitAnd x y := by
  obtain ⟨a, rfl, ha⟩ := w16_nat hx
  obtain ⟨b, rfl, hb⟩ := w16_nat hy
  have e : (65535 : Int) - (b : Int) = ((2 ^ 16 - (b + 1) : Nat) : Int) := by
    have e : (2 : Nat) ^ 16 = 65536 := rfl
    omega
  rw [e, and_nat, and_nat]
  have h1 : a &&& (2 ^ 16 - (b + 1)) = a - (a &&& b) := by
    have hs := and_or_sum (a &&& (2 ^ 16 - (b + 1))) (a &&& b)
    have z1 : (a &&& (2 ^ 16 - (b + 1))) &&& (a &&& b) = 0 := by
      apply Nat.eq_of_testBit_eq
      intro i
      rw [Nat.testBit_and, Nat.testBit_and, Nat.testBit_and, Nat.testBit_two_pow_sub_succ hb, Nat.zero_testBit]
      cases a.testBit i <;> cases b.testBit i <;> simp
    have z2 : (a &&& (2 ^ 16 - (b + 1))) ||| (a &&& b) = a := by
      apply Nat.eq_of_testBit_eq
      intro i
      rw [Nat.testBit_or, Nat.testBit_and, Nat.testBit_and, Nat.testBit_two_pow_sub_succ hb]
      by_cases hi : i < 16
      · rw [decide_eq_true hi]
        cases a.testBit i <;> cases b.testBit i <;> simp
      · have : a.testBit i = false := Nat.testBit_lt_two_pow (Nat.lt_of_lt_of_le ha (Nat.pow_le_pow_right (by decide) (by omega)))
        rw [this]
        simp
    rw [z1, z2] at hs
    omega
  rw [h1]
  have := @Nat.and_le_left a b
  omega
theorem and1_mod {x : Int} (hx : W16 x) : Builtin.bitAnd x 1 = x % 2 := by
  obtain ⟨a, rfl, ha⟩ := w16_nat hx
  have := and_nat a 1
  rw [show ((1 : Nat) : Int) = 1 from rfl] at this
  rw [this, Nat.and_one_is_mod]
  omega
/-! ### words -/
def MemOk (m : List Int) : Prop := ∀ v ∈ m, W16 v
theorem MemOk.rd {m : List Int} (h : MemOk m) (i : Int) : W16 (rd m i) := by
  unfold Bh.rd
  rw [List.getD_eq_getElem?_getD]
  cases e : m[i.toNat]? with
  | none => exact ⟨by decide, by decide⟩
  | some v => exact h v (List.mem_of_getElem? e)
theorem MemOk.st {m : List Int} (h : MemOk m) {i v : Int} (hv : W16 v) : MemOk (stM m i v) := fun w hw => by
  rcases List.mem_or_eq_of_mem_set hw with q | q
  · exact h w q
  · rw [q]
    exact hv
theorem st_self {m : List Int} {i : Int} (h0 : 0 ≤ i) (h1 : i < m.length) : stM m i (rd m i) = m := by
  unfold stM rd
  have h2 : i.toNat < m.length := by omega
  apply List.ext_getElem?
  intro j
  rw [List.getElem?_set]
  split
  · rename_i e
    subst e
    rw [List.getD_eq_getElem?_getD, List.getElem?_eq_getElem h2]
    rfl
  · rfl
theorem st_st {m : List Int} {i v w : Int} : stM (stM m i v) i w = stM m i w := by
  unfold stM
  rw [List.set_set]
theorem st_comm {m : List Int} {i j v w : Int} (hi : 0 ≤ i) (hj : 0 ≤ j) (h : i ≠ j) : stM (stM m i v) j w = stM (stM m j w) i v := by
  unfold stM
  exact List.set_comm _ _ (by omega)
/-! ### the line -/
structure LnOk (ls : List (Int × Int)) (la : Nat) (bt : Int) : Prop where
  le : la ≤ ls.length
  lo : ∀ (i : Nat) (r : Int × Int), i < la → ls[i]? = some r → r.1 ≤ bt
  hi : ∀ (i : Nat) (r : Int × Int), la ≤ i → ls[i]? = some r → bt < r.1
  mo : ∀ (i j : Nat) (r s : Int × Int), i < j → ls[i]? = some r → ls[j]? = some s → r.1 < s.1
  v : ∀ (i : Nat) (r : Int × Int), ls[i]? = some r → 0 ≤ r.2 ∧ r.2 ≤ 3
theorem rise_mem : ∀ {ls : List (Int × Int)} {n : Int}, riseM n ls → ∀ (i : Nat) (r : Int × Int), ls[i]? = some r → n < r.1 ∧ 0 ≤ r.2 ∧ r.2 ≤ 3
  | [], _, _, i, r, h => by cases h
  | l :: ls, n, h, 0, r, e => by
    cases e
    exact ⟨h.1, h.2.1, h.2.2.1⟩
  | l :: ls, n, h, i + 1, r, e => by
    have h2 := rise_mem h.2.2.2 i r e
    exact ⟨Int.lt_trans h.1 h2.1, h2.2⟩
theorem rise_mono : ∀ {ls : List (Int × Int)} {n : Int}, riseM n ls → ∀ (i j : Nat) (r s : Int × Int), i < j → ls[i]? = some r → ls[j]? = some s → r.1 < s.1
  | [], _, _, i, j, r, s, _, h, _ => by cases h
  | l :: ls, n, h, 0, j + 1, r, s, _, e, e2 => by
    cases e
    exact (rise_mem h.2.2.2 j s e2).1
  | l :: ls, n, h, i + 1, j + 1, r, s, hij, e, e2 => rise_mono h.2.2.2 i j r s (by omega) e e2
theorem ln_new {ls : List (Int × Int)} (h : riseM 0 ls) : LnOk ls 0 0 where
  le := Nat.zero_le _
  lo := fun i r h => by cases h
  hi := fun i r _ e => (rise_mem h i r e).1
  mo := rise_mono h
  v := fun i r e => (rise_mem h i r e).2
def lnD (ls : List (Int × Int)) : List (Key × V) := ls.map fun r => (Sum.inl r.1, V.int r.2)
theorem ln_at {ls : List (Int × Int)} {la : Nat} {bt : Int} (h : LnOk ls la bt) {i : Nat} {r : Int × Int} (e : ls[i]? = some r) (hr : r.1 = bt + 1) : i = la := by
  have h1 : ¬ i < la := fun z => by
    have := h.lo i r z e
    omega
  have h2 : ¬ la < i := fun z => by
    have hl : la < ls.length := Nat.lt_trans z (List.getElem?_eq_some_iff.mp e).1
    have e2 := List.getElem?_eq_getElem hl
    have a1 := h.hi la _ (Nat.le_refl _) e2
    have a2 := h.mo la i _ _ z e2 e
    omega
  omega
theorem ln_get {ls : List (Int × Int)} {la : Nat} {bt : Int} (h : LnOk ls la bt) : valV (lnD ls) (Sum.inl (bt + 1)) = if la < ls.length ∧ (ls.getD la (0, 0)).1 = bt + 1 then some (.int (ls.getD la (0, 0)).2) else none := by
  unfold valV lnD
  rw [List.find?_map, Option.map_map]
  cases e : ls.find? ((fun kv : Key × V => decide (kv.1 = Sum.inl (bt + 1))) ∘ fun r : Int × Int => (Sum.inl r.1, V.int r.2)) with
  | none =>
    rw [if_neg]
    · rfl
    · rintro ⟨h1, h2⟩
      have e2 := List.getElem?_eq_getElem h1
      rw [List.getD_eq_getElem?_getD, e2] at h2
      have := List.find?_eq_none.mp e ls[la] (List.getElem_mem h1)
      apply this
      show decide ((Sum.inl ls[la].1 : Key) = Sum.inl (bt + 1)) = true
      exact decide_eq_true (congrArg Sum.inl h2)
  | some r =>
    have hp := List.find?_some e
    have hr : r.1 = bt + 1 := Sum.inl.inj (of_decide_eq_true (show decide ((Sum.inl r.1 : Key) = Sum.inl (bt + 1)) = true from hp))
    obtain ⟨i, hi⟩ := List.getElem?_of_mem (List.mem_of_find?_eq_some e)
    have := ln_at h hi hr
    subst this
    have e3 : ls.getD i (0, 0) = r := by rw [List.getD_eq_getElem?_getD, hi]; rfl
    rw [e3, if_pos ⟨(List.getElem?_eq_some_iff.mp hi).1, hr⟩]
    rfl
theorem ln_step {ls : List (Int × Int)} {la : Nat} {bt : Int} (h : LnOk ls la bt) : LnOk ls (if la < ls.length ∧ (ls.getD la (0, 0)).1 = bt + 1 then la + 1 else la) (bt + 1) := by
  by_cases c : la < ls.length ∧ (ls.getD la (0, 0)).1 = bt + 1
  · rw [if_pos c]
    have e2 := List.getElem?_eq_getElem c.1
    have e3 : ls.getD la (0, 0) = ls[la] := by rw [List.getD_eq_getElem?_getD, e2]; rfl
    have c2 := c.2
    rw [e3] at c2
    exact {
      le := c.1
      lo := fun i r hi e => by
        by_cases z : i = la
        · subst z
          rw [e2] at e
          cases e
          omega
        · have := h.lo i r (by omega) e
          omega
      hi := fun i r hi e => by
        have := h.mo la i _ _ (by omega) e2 e
        omega
      mo := h.mo
      v := h.v }
  · rw [if_neg c]
    exact {
      le := h.le
      lo := fun i r hi e => by
        have := h.lo i r hi e
        omega
      hi := fun i r hi e => by
        have h1 := h.hi i r hi e
        by_cases z : r.1 = bt + 1
        · have := ln_at h e z
          subst this
          refine absurd ⟨(List.getElem?_eq_some_iff.mp e).1, ?_⟩ c
          rw [List.getD_eq_getElem?_getD, e]
          exact z
        · omega
      mo := h.mo
      v := h.v }
/-! ### a board as it must be -/
structure Ok (x : Bd) : Prop where
  lm : x.mem.length = 774
  w : MemOk x.mem
  a : W16 x.a
  b : W16 x.b
  pc : W16 x.pc
  ln : LnOk x.line x.la x.beat
/-- line in becomes a value: the law's way -/
def lawLine (lv : Int) (m : List Int) : List Int := stM (if lv % 2 = 1 ∧ rd m 772 % 2 = 0 then stM m 770 (Builtin.bitOr (rd m 770) 2) else m) 772 lv
def lawTim (m : List Int) : List Int :=
  if 0 < rd m 769 then
    if rd (stM m 768 (rd m 768 + 1)) 769 ≤ rd (stM m 768 (rd m 768 + 1)) 768 then stM (stM (stM m 768 (rd m 768 + 1)) 768 0) 770 (Builtin.bitOr (rd (stM (stM m 768 (rd m 768 + 1)) 768 0) 770) 1)
    else stM m 768 (rd m 768 + 1)
  else m
theorem lawLine_eq {lv : Int} {m : List Int} (h0 : 0 ≤ lv) (hm : MemOk m) : lawLine lv m = takeLineM lv m := by
  unfold lawLine takeLineM
  have h1 := (hm.rd 772).1
  by_cases c : rd m 772 % 2 < lv % 2
  · rw [if_pos c, if_pos ⟨by omega, by omega⟩, rd_stM_ne (by decide) (by decide) (by decide)]
    exact st_comm (by decide) (by decide) (by decide)
  · rw [if_neg c, if_neg (fun z => c (by omega))]
theorem lawLine_none {m : List Int} (hl : m.length = 774) : lawLine (rd m 772) m = m := by
  unfold lawLine
  rw [if_neg (fun z => by omega)]
  exact st_self (by decide) (by rw [hl]; decide)
theorem lawTim_eq {m : List Int} (hl : m.length = 774) (hm : MemOk m) : lawTim m = goTimerM m := by
  unfold lawTim goTimerM
  have h1 := (hm.rd 769).1
  by_cases c : rd m 769 = 0
  · rw [if_pos c, if_neg (by omega)]
  · rw [if_neg c, if_pos (by omega), rd_stM_ne (by decide) (by decide) (by decide), rd_stM_same (by decide) (by rw [hl]; decide)]
    by_cases c2 : rd m 769 ≤ rd m 768 + 1
    · rw [if_pos c2, if_pos c2, st_st, rd_stM_ne (by decide) (by decide) (by decide)]
      exact st_comm (by decide) (by decide) (by decide)
    · rw [if_neg c2, if_neg c2]
theorem take_ok {lv : Int} {m : List Int} (h : W16 lv) (hm : MemOk m) : MemOk (takeLineM lv m) := by
  unfold takeLineM
  split
  · refine (hm.st h).st (or16 ((hm.st h).rd _) ⟨by decide, by decide⟩)
  · exact hm.st h
theorem tim_ok {m : List Int} (hm : MemOk m) : MemOk (goTimerM m) := by
  unfold goTimerM
  have h1 := hm.rd 769
  have h2 := hm.rd 768
  split
  · exact hm
  · split
    · exact (hm.st (or16 (hm.rd _) ⟨by decide, by decide⟩)).st ⟨by decide, by decide⟩
    · rename_i c
      exact hm.st ⟨by have := h2.1; omega, by have := h1.2; omega⟩
/-- what line in becomes at the next beat -/
def lvM (x : Bd) : Int := if x.la < x.line.length ∧ (x.line.getD x.la (0, 0)).1 = x.beat + 1 then (x.line.getD x.la (0, 0)).2 else rd x.mem 772
theorem come_eq {x : Bd} (h : Ok x) : comeM { x with beat := x.beat + 1 } = { x with beat := x.beat + 1, mem := lawLine (lvM x) x.mem, la := if x.la < x.line.length ∧ (x.line.getD x.la (0, 0)).1 = x.beat + 1 then x.la + 1 else x.la } := by
  unfold comeM lvM
  by_cases c : x.la < x.line.length ∧ (x.line.getD x.la (0, 0)).1 = x.beat + 1
  · rw [if_pos c, if_pos c, if_pos c]
    have e : x.line[x.la]? = some (x.line.getD x.la (0, 0)) := by rw [List.getD_eq_getElem?_getD, List.getElem?_eq_getElem c.1]; rfl
    rw [lawLine_eq (h.ln.v _ _ e).1 h.w]
  · rw [if_neg c, if_neg c, if_neg c, lawLine_none h.lm]
theorem lv16 {x : Bd} (h : Ok x) : W16 (lvM x) := by
  unfold lvM
  split
  · rename_i c
    have e : x.line[x.la]? = some (x.line.getD x.la (0, 0)) := by rw [List.getD_eq_getElem?_getD, List.getElem?_eq_getElem c.1]; rfl
    have := h.ln.v _ _ e
    exact ⟨this.1, by omega⟩
  · exact h.w.rd _
theorem lawLine_ok {lv : Int} {m : List Int} (h : W16 lv) (hm : MemOk m) : MemOk (lawLine lv m) := by
  rw [lawLine_eq h.1 hm]
  exact take_ok h hm
theorem lawLine_len (lv : Int) (m : List Int) : (lawLine lv m).length = m.length := by
  unfold lawLine
  rw [stM_len]
  split
  · rw [stM_len]
  · rfl
theorem one_eq {x : Bd} (h : Ok x) : passOneM x = { x with beat := x.beat + 1, mem := lawTim (lawLine (lvM x) x.mem), la := if x.la < x.line.length ∧ (x.line.getD x.la (0, 0)).1 = x.beat + 1 then x.la + 1 else x.la } := by
  unfold passOneM
  rw [come_eq h]
  rw [lawTim_eq (by rw [lawLine_len]; exact h.lm) (lawLine_ok (lv16 h) h.w)]
theorem Ok.one {x : Bd} (h : Ok x) : Ok (passOneM x) := by
  have e := one_eq h
  rw [e]
  exact {
    lm := by
      show (lawTim _).length = 774
      rw [lawTim_eq (by rw [lawLine_len]; exact h.lm) (lawLine_ok (lv16 h) h.w), goTimerM_len, lawLine_len]
      exact h.lm
    w := by
      show MemOk (lawTim _)
      rw [lawTim_eq (by rw [lawLine_len]; exact h.lm) (lawLine_ok (lv16 h) h.w)]
      exact tim_ok (lawLine_ok (lv16 h) h.w)
    a := h.a
    b := h.b
    pc := h.pc
    ln := ln_step h.ln }
theorem Ok.pass : ∀ {n : Nat} {x : Bd}, Ok x → Ok (passM n x)
  | 0, _, h => h
  | n + 1, _, h => Ok.pass (n := n) h.one
theorem Ok.putM {x : Bd} (h : Ok x) {a v : Int} (hv : W16 v) : Ok (putWM a v x) := by
  have hm : MemOk (putMM a v x.mem) := by
    unfold putMM
    split
    · exact h.w.st (and16 (h.w.rd _) ⟨by have := hv.2; omega, by have := hv.1; omega⟩)
    · exact h.w.st hv
  have hl : (putMM a v x.mem).length = 774 := by rw [putMM_len]; exact h.lm
  unfold putWM sendM
  split
  · exact ⟨hl, hm, h.a, h.b, h.pc, h.ln⟩
  · exact ⟨hl, hm, h.a, h.b, h.pc, h.ln⟩
theorem Ok.give {x : Bd} (h : Ok x) {v : Int} (hv : W16 v) : Ok (giveM v x) := ⟨h.lm, h.w, hv, h.b, h.pc, h.ln⟩
theorem putWM_regs (a v : Int) (x : Bd) : (putWM a v x).a = x.a ∧ (putWM a v x).b = x.b ∧ (putWM a v x).pc = x.pc ∧ (putWM a v x).sp = x.sp ∧ (putWM a v x).zero = x.zero ∧ (putWM a v x).lets = x.lets ∧ (putWM a v x).asleep = x.asleep ∧ (putWM a v x).beat = x.beat ∧ (putWM a v x).stop = x.stop ∧ (putWM a v x).line = x.line ∧ (putWM a v x).la = x.la := by
  unfold putWM sendM
  split <;> exact ⟨rfl, rfl, rfl, rfl, rfl, rfl, rfl, rfl, rfl, rfl, rfl⟩
theorem Ok.doM {x : Bd} (h : Ok x) {op : Nat} {n : Int} {ws : List Int} (n0 : 0 ≤ n) (n1 : n < 1024) (hw : ∀ w ∈ ws, W16 w) (o : op < 23) : Ok (doM op n ws x) := by
  have wg : ∀ i : Nat, W16 (ws.getD i 0) := fun i => by
    rw [List.getD_eq_getElem?_getD]
    cases e : ws[i]? with
    | none => exact ⟨by decide, by decide⟩
    | some v => exact hw v (List.mem_of_getElem? e)
  have n16 : W16 n := ⟨n0, by omega⟩
  have w0 := wg 0
  match op, o with
  | 0, _ => exact h
  | 1, _ => exact h.give n16
  | 2, _ => exact h.give w0
  | 3, _ => exact h.putM h.a
  | 4, _ => exact h.give ⟨Int.emod_nonneg _ (by decide), by have := Int.emod_lt_of_pos (x.a + ws.getD 0 0) (show (0 : Int) < 65536 by decide); omega⟩
  | 5, _ => exact h.give ⟨Int.emod_nonneg _ (by decide), by have := Int.emod_lt_of_pos (x.a - ws.getD 0 0) (show (0 : Int) < 65536 by decide); omega⟩
  | 6, _ => exact h.give (and16 h.a w0)
  | 7, _ => exact h.give (xor16 h.a w0)
  | 8, _ => exact h.give w0
  | 9, _ => exact h.putM h.a
  | 10, _ => exact ⟨h.lm, h.w, h.a, h.a, h.pc, h.ln⟩
  | 11, _ => exact ⟨h.lm, h.w, h.b, h.a, h.pc, h.ln⟩
  | 12, _ => exact ⟨h.lm, h.w, h.a, h.b, n16, h.ln⟩
  | 13, _ =>
    show Ok (if x.zero = true then { x with pc := n } else x)
    split
    · exact ⟨h.lm, h.w, h.a, h.b, n16, h.ln⟩
    · exact h
  | 14, _ =>
    show Ok (if 32768 ≤ x.a then { x with pc := n } else x)
    split
    · exact ⟨h.lm, h.w, h.a, h.b, n16, h.ln⟩
    · exact h
  | 15, _ =>
    have k := h.putM (a := x.sp) h.pc
    exact ⟨k.lm, k.w, k.a, k.b, n16, k.ln⟩
  | 16, _ => exact ⟨h.lm, h.w, h.a, h.b, w0, h.ln⟩
  | 17, _ =>
    have k := h.putM (a := x.sp) h.a
    exact ⟨k.lm, k.w, k.a, k.b, k.pc, k.ln⟩
  | 18, _ => exact ⟨h.lm, h.w, w0, h.b, h.pc, h.ln⟩
  | 19, _ => exact ⟨h.lm, h.w, h.a, h.b, h.pc, h.ln⟩
  | 20, _ => exact ⟨h.lm, h.w, h.a, h.b, h.pc, h.ln⟩
  | 21, _ => exact ⟨h.lm, h.w, h.a, h.b, wg 1, h.ln⟩
  | 22, _ => exact h.give ⟨Int.ediv_nonneg h.a.1 (by decide), by have := h.a; unfold W16 at this; omega⟩
  | n + 23, z => exact absurd z (by omega)
theorem reads16 {m : List Int} (h : MemOk m) (ts : List (Bool × Int)) : ∀ w ∈ readsM m ts, W16 w := fun w hw => by
  obtain ⟨t, _, rfl⟩ := List.mem_map.mp hw
  exact h.rd _
theorem Ok.deed {x : Bd} (h : Ok x) : Ok (deedM x).2 := by
  unfold deedM
  split
  · exact ⟨h.lm, h.w, h.a, h.b, h.pc, h.ln⟩
  · split
    · exact ⟨h.lm, h.w, h.a, h.b, h.pc, h.ln⟩
    · split
      · exact ⟨h.lm, h.w, h.a, h.b, h.pc, h.ln⟩
      · split
        · exact ⟨h.lm, h.w, h.a, h.b, h.pc, h.ln⟩
        · rename_i c1 c2 c3 _ _
          have hp := h.pc
          have k : Ok { x with pc := x.pc + 1 } := ⟨h.lm, h.w, h.a, h.b, ⟨by have := hp.1; show 0 ≤ x.pc + 1; omega, by have := Classical.not_not.mp c1; show x.pc + 1 ≤ 65535; omega⟩, h.ln⟩
          refine (k.doM ?_ ?_ (reads16 h.w _) (by omega)).pass
          · exact Int.emod_nonneg _ (by decide)
          · exact Int.emod_lt_of_pos _ (by decide)
theorem Ok.int {x : Bd} (h : Ok x) : Ok (intM x).2 := by
  unfold intM
  split
  · exact ⟨h.lm, h.w, h.a, h.b, h.pc, h.ln⟩
  · unfold begunM
    have k := (h.putM (a := x.sp) h.pc).putM (a := x.sp - 1) (v := b2n x.zero) (by unfold b2n; split <;> exact ⟨by decide, by decide⟩)
    refine Ok.pass ?_
    exact ⟨k.lm, k.w, k.a, k.b, by show W16 (if _ then _ else _); split <;> exact ⟨by decide, by decide⟩, k.ln⟩
theorem Ok.turn {x : Bd} (h : Ok x) : Ok (turnM x).2 := by
  have k : Ok { x with asleep := false } := ⟨h.lm, h.w, h.a, h.b, h.pc, h.ln⟩
  unfold turnM
  split
  · exact h
  · split
    · exact h.pass (n := 1)
    · split
      · exact k.int
      · exact k.deed
theorem Ok.pcok {x : Bd} (h : Ok x) : PcOk x := fun _ _ => (h.w.rd _).1
theorem pass_sent : ∀ (n : Nat) (x : Bd), (passM n x).sent = x.sent
  | 0, _ => rfl
  | n + 1, x => by
    show (passM n (passOneM x)).sent = _
    rw [pass_sent n]
    show (comeM { x with beat := x.beat + 1 }).sent = _
    unfold comeM
    split <;> rfl
theorem do_sent {op : Nat} {n : Int} {ws : List Int} {x : Bd} (o : op < 23) : (doM op n ws x).sent.length ≤ x.sent.length + 1 := by
  match op, o with
  | 0, _ => exact Nat.le_succ _
  | 1, _ => exact Nat.le_succ _
  | 2, _ => exact Nat.le_succ _
  | 3, _ => exact putWM_sent _ _ _
  | 4, _ => exact Nat.le_succ _
  | 5, _ => exact Nat.le_succ _
  | 6, _ => exact Nat.le_succ _
  | 7, _ => exact Nat.le_succ _
  | 8, _ => exact Nat.le_succ _
  | 9, _ => exact putWM_sent _ _ _
  | 10, _ => exact Nat.le_succ _
  | 11, _ => exact Nat.le_succ _
  | 12, _ => exact Nat.le_succ _
  | 13, _ =>
    show (if x.zero = true then { x with pc := n } else x).sent.length ≤ _
    split <;> exact Nat.le_succ _
  | 14, _ =>
    show (if 32768 ≤ x.a then { x with pc := n } else x).sent.length ≤ _
    split <;> exact Nat.le_succ _
  | 15, _ => exact putWM_sent _ _ _
  | 16, _ => exact Nat.le_succ _
  | 17, _ => exact putWM_sent _ _ _
  | 18, _ => exact Nat.le_succ _
  | 19, _ => exact Nat.le_succ _
  | 20, _ => exact Nat.le_succ _
  | 21, _ => exact Nat.le_succ _
  | 22, _ => exact Nat.le_succ _
  | n + 23, z => exact absurd z (by omega)
theorem deed_sent (x : Bd) : (deedM x).2.sent.length ≤ x.sent.length + 2 := by
  unfold deedM
  split
  · exact Nat.le_succ_of_le (Nat.le_succ _)
  · split
    · exact Nat.le_succ_of_le (Nat.le_succ _)
    · split
      · exact Nat.le_succ_of_le (Nat.le_succ _)
      · split
        · exact Nat.le_succ_of_le (Nat.le_succ _)
        · show (passM _ _).sent.length ≤ _
          rw [pass_sent]
          exact Nat.le_succ_of_le (do_sent (by omega))
theorem turn_sent (x : Bd) : (turnM x).2.sent.length ≤ x.sent.length + 2 := by
  unfold turnM
  split
  · exact Nat.le_succ_of_le (Nat.le_succ _)
  · split
    · show (passM 1 x).sent.length ≤ _
      rw [pass_sent]
      exact Nat.le_succ_of_le (Nat.le_succ _)
    · split
      · unfold intM
        split
        · exact Nat.le_succ_of_le (Nat.le_succ _)
        · show (passM 3 _).sent.length ≤ _
          rw [pass_sent]
          have h1 := putWM_sent x.sp x.pc { x with asleep := false }
          have h2 := putWM_sent (x.sp - 1) (b2n x.zero) (putWM x.sp x.pc { x with asleep := false })
          exact Nat.le_trans h2 (Nat.succ_le_succ h1)
      · exact deed_sent _
theorem memOf_ok {ns : List Int} (h : WordsOk ns) : MemOk (memOf ns) := fun v hv => by
  unfold memOf at hv
  rcases List.mem_append.mp hv with q | q
  · rcases List.mem_append.mp q with q | q
    · exact h v q
    · rw [(List.mem_replicate.mp q).2]
      exact ⟨by decide, by decide⟩
  · rw [(List.mem_replicate.mp q).2]
    exact ⟨by decide, by decide⟩
end Bh

/-! The law's own board in the heap. -/
namespace Bh
open PySem PySem.Spec PyProof.Rows L2
/-- a step that may be skipped: both ways go on alike -/
theorem ifG {c : Bool} {R : Hp → Prop} {H : Hp} {A : Prop} (I : Hp → Prop) (h3 : ∀ H', I H' → R H') (h2 : c = false → I H) (h1 : c = true → (∀ H', I H' → R H') → A) : if c = true then A else R H := by
  cases c with
  | true => exact h1 rfl h3
  | false => exact h3 H (h2 rfl)
/-- the law's own board: its dict -/
def stD (m t ln : Addr) (x : Bd) (sv : V) : List (Key × V) :=
  [(Sum.inr "m", .ref m), (Sum.inr "a", .int x.a), (Sum.inr "b", .int x.b), (Sum.inr "pc", .int x.pc), (Sum.inr "sp", .int x.sp), (Sum.inr "zero", .bl x.zero), (Sum.inr "lets", .bl x.lets), (Sum.inr "asleep", .bl x.asleep), (Sum.inr "beat", .int x.beat), (Sum.inr "stopped", sv), (Sum.inr "sent", .ref t), (Sum.inr "line", .ref ln)]
section
variable {m t ln : Addr} {x : Bd} {sv v : V} {n : Int} {c : Bool}
theorem lG_m : valV (stD m t ln x sv) (Sum.inr "m") = some (.ref m) := by kernel_rfl
theorem lG_a : valV (stD m t ln x sv) (Sum.inr "a") = some (.int x.a) := by kernel_rfl
theorem lG_b : valV (stD m t ln x sv) (Sum.inr "b") = some (.int x.b) := by kernel_rfl
theorem lG_pc : valV (stD m t ln x sv) (Sum.inr "pc") = some (.int x.pc) := by kernel_rfl
theorem lG_sp : valV (stD m t ln x sv) (Sum.inr "sp") = some (.int x.sp) := by kernel_rfl
theorem lG_zero : valV (stD m t ln x sv) (Sum.inr "zero") = some (.bl x.zero) := by kernel_rfl
theorem lG_lets : valV (stD m t ln x sv) (Sum.inr "lets") = some (.bl x.lets) := by kernel_rfl
theorem lG_asleep : valV (stD m t ln x sv) (Sum.inr "asleep") = some (.bl x.asleep) := by kernel_rfl
theorem lG_beat : valV (stD m t ln x sv) (Sum.inr "beat") = some (.int x.beat) := by kernel_rfl
theorem lG_stopped : valV (stD m t ln x sv) (Sum.inr "stopped") = some sv := by kernel_rfl
theorem lG_sent : valV (stD m t ln x sv) (Sum.inr "sent") = some (.ref t) := by kernel_rfl
theorem lG_line : valV (stD m t ln x sv) (Sum.inr "line") = some (.ref ln) := by kernel_rfl
theorem lP_a : putK (stD m t ln x sv) (Sum.inr "a") (.int n) = stD m t ln { x with a := n } sv := by kernel_rfl
theorem lP_b : putK (stD m t ln x sv) (Sum.inr "b") (.int n) = stD m t ln { x with b := n } sv := by kernel_rfl
theorem lP_pc : putK (stD m t ln x sv) (Sum.inr "pc") (.int n) = stD m t ln { x with pc := n } sv := by kernel_rfl
theorem lP_sp : putK (stD m t ln x sv) (Sum.inr "sp") (.int n) = stD m t ln { x with sp := n } sv := by kernel_rfl
theorem lP_zero : putK (stD m t ln x sv) (Sum.inr "zero") (.bl c) = stD m t ln { x with zero := c } sv := by kernel_rfl
theorem lP_lets : putK (stD m t ln x sv) (Sum.inr "lets") (.bl c) = stD m t ln { x with lets := c } sv := by kernel_rfl
theorem lP_asleep : putK (stD m t ln x sv) (Sum.inr "asleep") (.bl c) = stD m t ln { x with asleep := c } sv := by kernel_rfl
theorem lP_beat : putK (stD m t ln x sv) (Sum.inr "beat") (.int n) = stD m t ln { x with beat := n } sv := by kernel_rfl
theorem lP_stopped : putK (stD m t ln x sv) (Sum.inr "stopped") v = stD m t ln x v := by kernel_rfl
theorem lL_len : (stD m t ln x sv).length = 12 := rfl
theorem dpS {H : Hp} {r : Addr} {k : Key} {v : V} {kvs : List (Key × V)} (e : H r = some (.dK (stD m t ln x sv))) (h : putK (stD m t ln x sv) k v = kvs) : DPut H r (kV k) v (upd H r (.dK kvs)) := by
  subst h
  exact DPut.k e (by rw [lL_len]; exact small1000 (by decide))
end
structure Lw (H : Hp) (d m t ln : Addr) (us : List V) (x : Bd) : Prop where
  hd : ∃ sv, H d = some (.dK (stD m t ln x sv)) ∧ StopAt H sv x.stop
  hm : H m = some (.lst (x.mem.map V.int))
  ht : H t = some (.lst us)
  hl : H ln = some (.dK (lnD x.line))
  us : TupsAt H us x.sent
  lm : x.mem.length = 774
  mt : m ≠ t
  dl : d ≠ ln
/-- what else stands as it stood -/
def Fr (d m t : Addr) (H H' : Hp) : Prop := ∀ b o, b ≠ d → b ≠ m → b ≠ t → H b = some o → H' b = some o
section
variable {d m t ln : Addr} {us : List V} {x : Bd} {H H1 H2 : Hp}
theorem Fr.refl : Fr d m t H H := fun _ _ _ _ _ h => h
theorem Fr.trans (h1 : Fr d m t H H1) (h2 : Fr d m t H1 H2) : Fr d m t H H2 := fun b o a1 a2 a3 h => h2 b o a1 a2 a3 (h1 b o a1 a2 a3 h)
theorem Fr.of (h : Same H H1) : Fr d m t H H1 := fun b o _ _ _ e => h b o e
theorem Fr.ud {o : HO} : Fr d m t H (upd H d o) := fun b o a1 _ _ e => by rw [upd_ne a1]; exact e
theorem Fr.um {o : HO} : Fr d m t H (upd H m o) := fun b o _ a2 _ e => by rw [upd_ne a2]; exact e
theorem Fr.ut {o : HO} : Fr d m t H (upd H t o) := fun b o _ _ a3 e => by rw [upd_ne a3]; exact e
theorem Lw.same (L : Lw H d m t ln us x) (s : Same H H1) : Lw H1 d m t ln us x where
  hd := let ⟨sv, e, z⟩ := L.hd; ⟨sv, s _ _ e, z.mono fun t xs e => s _ _ e⟩
  hm := s _ _ L.hm
  ht := s _ _ L.ht
  hl := s _ _ L.hl
  us := L.us.mono fun t xs e => s _ _ e
  lm := L.lm
  mt := L.mt
  dl := L.dl
theorem Lw.dict (L : Lw H d m t ln us x) {y : Bd} {sv : V} (hz : StopAt H sv y.stop) (em : y.mem = x.mem) (es : y.sent = x.sent) (el : y.line = x.line) : Lw (upd H d (.dK (stD m t ln y sv))) d m t ln us y := by
  obtain ⟨sv0, hd, hz0⟩ := L.hd
  have k : ∀ q xs, H q = some (.tup xs) → upd H d (.dK (stD m t ln y sv)) q = some (.tup xs) := fun q xs e => by
    rw [upd_ne (ne_of e hd (by intro z; cases z))]
    exact e
  exact {
    hd := ⟨sv, upd_same, hz.mono k⟩
    hm := by rw [upd_ne (ne_of L.hm hd (by intro z; cases z)), em]; exact L.hm
    ht := by rw [upd_ne (ne_of L.ht hd (by intro z; cases z))]; exact L.ht
    hl := by rw [upd_ne L.dl.symm, el]; exact L.hl
    us := by rw [es]; exact L.us.mono k
    lm := by rw [em]; exact L.lm
    mt := L.mt
    dl := L.dl }
theorem Lw.word (L : Lw H d m t ln us x) {M : List Int} (hM : M.length = 774) : Lw (upd H m (.lst (M.map V.int))) d m t ln us { x with mem := M } := by
  obtain ⟨sv0, hd, hz0⟩ := L.hd
  have k : ∀ q xs, H q = some (.tup xs) → upd H m (.lst (M.map V.int)) q = some (.tup xs) := fun q xs e => by
    rw [upd_ne (ne_of e L.hm (by intro z; cases z))]
    exact e
  exact {
    hd := ⟨sv0, by rw [upd_ne (ne_of hd L.hm (by intro z; cases z))]; exact hd, hz0.mono k⟩
    hm := upd_same
    ht := by rw [upd_ne L.mt.symm]; exact L.ht
    hl := by rw [upd_ne (ne_of L.hl L.hm (by intro z; cases z))]; exact L.hl
    us := L.us.mono k
    lm := hM
    mt := L.mt
    dl := L.dl }
theorem Lw.send (L : Lw H d m t ln us x) {q : Addr} {u : Int × Int} (hq : H q = some (.tup [.int u.1, .int u.2])) : Lw (upd H t (.lst (us ++ [.ref q]))) d m t ln (us ++ [.ref q]) { x with sent := x.sent ++ [u] } := by
  obtain ⟨sv0, hd, hz0⟩ := L.hd
  have k : ∀ q' xs, H q' = some (.tup xs) → upd H t (.lst (us ++ [.ref q])) q' = some (.tup xs) := fun q' xs e => by
    rw [upd_ne (ne_of e L.ht (by intro z; cases z))]
    exact e
  exact {
    hd := ⟨sv0, by rw [upd_ne (ne_of hd L.ht (by intro z; cases z))]; exact hd, hz0.mono k⟩
    hm := by rw [upd_ne L.mt]; exact L.hm
    ht := upd_same
    hl := by rw [upd_ne (ne_of L.hl L.ht (by intro z; cases z))]; exact L.hl
    us := TupsAt.snoc (k _ _ hq) (L.us.mono k)
    lm := L.lm
    mt := L.mt
    dl := L.dl }
end
/-! ### what is promised -/
def spGoBy : Sp := fun vs H Q _ => ∃ (d m t ln : Addr) (us : List V) (x : Bd) (n : Nat), vs = [.ref d, .int (n : Int)] ∧ Lw H d m t ln us x ∧ Ok x ∧ n ≤ 1000 ∧ ∀ H', Fr d m t H H' → Lw H' d m t ln us (passM n x) → Q .non H'
def allT (rs ps : List Int) : List (Bool × Int) := rs.map (fun a => (false, a)) ++ ps.map fun a => (true, a)
def barV (x : Bd) (rs ps : List Int) : Option (Str × List Int) := (firstBad (allT rs ps)).map fun r => (r.1, [x.pc, r.2])
def spBarred : Sp := fun vs H Q _ => ∃ (d m t ln lr lp : Addr) (us : List V) (x : Bd) (rs ps : List Int), vs = [.ref d, .ref lr, .ref lp] ∧ Lw H d m t ln us x ∧ H lr = some (.lst (rs.map V.int)) ∧ H lp = some (.lst (ps.map V.int)) ∧ ∀ H' v, Same H H' → StopAt H' v (barV x rs ps) → Q v H'
def spLay : Sp := fun vs H Q _ => ∃ (d m t ln : Addr) (us : List V) (x : Bd) (a v : Int), vs = [.ref d, .int a, .int v] ∧ Lw H d m t ln us x ∧ Ok x ∧ 0 ≤ a ∧ a < 774 ∧ W16 v ∧ x.sent.length < 1000000 ∧ ∀ H' us', Fr d m t H H' → Lw H' d m t ln us' (putWM a v x) → Q .non H'
def spHalts : Sp := fun vs H Q _ => ∃ (d m t ln : Addr) (us : List V) (x : Bd) (v : V) (s : Str × List Int), vs = [.ref d, v] ∧ Lw H d m t ln us x ∧ StopAt H v (some s) ∧ ∀ H', Fr d m t H H' → Lw H' d m t ln us { x with stop := some s } → Q (.str "stopped") H'
def spDone : Sp := fun vs H Q _ => ∃ (d m t ln lw lp : Addr) (us : List V) (x : Bd) (op : Nat) (n : Int) (ws ps : List Int), vs = [.ref d, .int (op : Int), .int n, .ref lw, .ref lp] ∧ Lw H d m t ln us x ∧ Ok x ∧ H lw = some (.lst (ws.map V.int)) ∧ H lp = some (.lst (ps.map V.int)) ∧ 1 ≤ op ∧ op < 23 ∧ 0 ≤ n ∧ n < 1024 ∧
  lw ≠ m ∧ lw ≠ t ∧ lp ≠ m ∧ lp ≠ t ∧ ws.length = nR op ∧ (∀ w ∈ ws, W16 w) ∧ ps = ((touM op n x.b x.sp).filter fun t => t.1).map (fun t => t.2) ∧ (∀ t ∈ touM op n x.b x.sp, 0 ≤ t.2 ∧ t.2 < 774) ∧ x.sent.length < 1000000 ∧ ∀ H' us', Fr d m t H H' → Lw H' d m t ln us' (doM op n ws x) → Q .non H'
def spLDeed : Sp := fun vs H Q _ => ∃ (d m t ln : Addr) (us : List V) (x : Bd), vs = [.ref d] ∧ Lw H d m t ln us x ∧ Ok x ∧ x.sent.length < 900000 ∧ ∀ H' us', Fr d m t H H' → Lw H' d m t ln us' (deedM x).2 → Q (.str (deedM x).1) H'
def spOnce : Sp := fun vs H Q _ => ∃ (d m t ln : Addr) (us : List V) (x : Bd), vs = [.ref d] ∧ Lw H d m t ln us x ∧ Ok x ∧ x.sent.length < 900000 ∧ ∀ H' us', Fr d m t H H' → Lw H' d m t ln us' (turnM x).2 → Q (.str (turnM x).1) H'
end Bh

/-! The law's own board: beats, bars, what is laid. -/
namespace Bh
open PySem PySem.Spec PyProof.Rows L2
section
variable {X : Cx}
/-- d.update(e) -/
def rDUpd : V → List V → Hp → VK → Prop := fun x vs H Q => ∃ (a b : Addr) (ks ls : List (Key × V)), x = .ref a ∧ vs = [.ref b] ∧ a ≠ b ∧ H a = some (.dK ks) ∧ H b = some (.dK ls) ∧ ks.length + ls.length ≤ sizeLine ∧ Q .non (upd H a (.dK (mergeK ks ls)))
theorem mtd_update : MtR X "dict.update" rDUpd := by
  intro pins s σ H x vs v us Q I rx rv h
  obtain ⟨a, b, ks, ls, rfl, rfl, hab, ha, hb, hsz, q⟩ := h
  cases rx
  cases rv with
  | cons r1 rr =>
    cases rr
    cases r1
    obtain ⟨z1, d1, va, ra, da⟩ := dk_of I.hok ha
    obtain ⟨z2, d2, vb, rb, db⟩ := dk_of I.hok hb
    refine call_meetsIn PySem.F.slot_dict_update da.typeIs PySem.F.entry_dict_update (PySem.F.args_dict_update_2 _ _) (meets_dict_update (mixKind X.prog X.w) a b hab d2) ⟨va, vb, da, db, by rw [← ra.length, ← rb.length]; exact hsz, fun h' da' db' hs => ?_⟩
    have he : ∃ q, h'.get? a = some q := let ⟨q, _, _, hq, _⟩ := da'; ⟨q, hq⟩
    exact ⟨.non, _, d_write (t' := s.toks) I (by rw [ha]; exact True.intro) hs he (dk_new (Nat.le_trans (length_mergeK ls ks) hsz) d1 (KV.merge rb ra) da'), rfl, q⟩
end
theorem Lw.la {H : Hp} {d m t ln : Addr} {us : List V} {x : Bd} (L : Lw H d m t ln us x) {k : Nat} : Lw H d m t ln us { x with la := k } := ⟨L.hd, L.hm, L.ht, L.hl, L.us, L.lm, L.mt, L.dl⟩
theorem kSF (c : Bool) : atI [V.str "still", V.str "flash"] (if c = true then 1 else 0) = some (.str (if c = true then "flash" else "still")) := by cases c <;> rfl
theorem bar_far {k : Bool} {a : Int} (h : ¬ (0 ≤ a ∧ a < 774)) : barM (k, a) = some "far" := if_pos h
theorem bar_rd {a : Int} (h : 0 ≤ a ∧ a < 774) : barM (false, a) = none := by
  unfold barM
  rw [if_neg (fun z => z h)]
  rfl
theorem bar_wr {a : Int} (h : 0 ≤ a ∧ a < 774) : barM (true, a) = if a < 512 then some ("flash" : Str) else if a = 772 then some ("still" : Str) else none := by
  unfold barM
  rw [if_neg (fun z => z h), if_neg (by intro z; cases z)]
theorem allT_r (r : Int) (rs ps : List Int) : allT (r :: rs) ps = (false, r) :: allT rs ps := rfl
theorem allT_p (p : Int) (ps : List Int) : allT [] (p :: ps) = (true, p) :: allT [] ps := rfl
theorem drop_at {L : List Int} {j : Nat} {a : Int} (h : L[j]? = some a) : L.drop j = a :: L.drop (j + 1) := by
  have hj := (List.getElem?_eq_some_iff.mp h).1
  rw [List.drop_eq_getElem_cons hj, (List.getElem?_eq_some_iff.mp h).2]
section
variable {P : Program} {w : World} {K : PySem.W.Frag} {mg : Str → Option Value} {base : Heap} {CB CM : Addr}
abbrev sLgoby : Stmt := topS 69
def scLgobyN : List Str := ["_law_stand", "_law_many", "_law_m", "_law_k", "_law_level"]
theorem scLgoby : FnScope scLgobyN ["_law_stand", "_law_many"] (defScope sLgoby) := ⟨rfl, rfl, rfl, by decide +kernel, rfl, by decide +kernel, by decide +kernel⟩
theorem ok_Lgoby {f : Addr} {fd : FuncData} (F : Fun K "_law_go_by" "_law_go_by" sLgoby f fd) (T : Tx K mg CB CM) : FnOk P w K mg base CX0 1 f fd ["_law_stand", "_law_many"] (spGoBy) := by
  refine F.ok scLgoby (fun vs H Q E h => by obtain ⟨_, _, _, _, _, _, _, rfl, _⟩ := h; rfl) (fun cdv A outer s H vs Q E hr h => ?_)
  have hu := hu_of hr
  have z_range := T.z_range
  obtain ⟨d, m, t, ln, us, x, n, rfl, L0, O0, hn, q⟩ := h
  obtain ⟨sv0, hd0, hz0⟩ := L0.hd
  refine ⟨_, (pss_cons (ps_set (i := 2) scLgoby.nd rfl (.inl rfl) (pe_dget hu (pv 0) pe_str (fun _ _ => rfl)))
    (pss_one (ps_for PassesOwn.never rfl (pi_range1 (by rfl) z_range (pa_cons (pv 1) pa_nil)) (pg_name (i := 3) scLgoby.nd rfl (.inl rfl))
      (pss_cons (ps_dput hu (pv 0) pe_str (pe_op op_add (pe_dget hu (pv 0) pe_str (fun _ _ => rfl)) pe_int) rfl)
    (pss_cons (ps_set (i := 4) scLgoby.nd rfl (.inl rfl) (pe_dget2 hu (pe_dget hu (pv 0) pe_str (fun _ _ => rfl)) (pe_dget hu (pv 0) pe_str (fun _ _ => rfl)) (pe_ix ix_list (pv 2) pe_int (fun _ _ => rfl)) ⟨rfl, rfl, rfl, rfl⟩))
    (pss_cons (ps_if (PW.pt (pw_and (pt_cmpR op_eq (pe_op op_mod (pv 4) pe_int) pe_int (nomark _)) (pw_and1 (pt_cmpR op_eq (pe_op op_mod (pe_ix ix_list (pv 2) pe_int (fun _ _ => rfl)) pe_int) pe_int (nomark _))))) (pss_one (ps_asg (pe_op op_or (pe_ix ix_list (pv 2) pe_int (fun _ _ => rfl)) pe_int) (pg_sub (pv 2) pe_int set_list))) pss_nil)
    (pss_cons (ps_asg (pv 4) (pg_sub (pv 2) pe_int set_list))
    (pss_one (ps_if (pt_cmpR op_gt (pe_ix ix_list (pv 2) pe_int (fun _ _ => rfl)) pe_int (nomark _)) (pss_cons (ps_asg (pe_op op_add (pe_ix ix_list (pv 2) pe_int (fun _ _ => rfl)) pe_int) (pg_sub (pv 2) pe_int set_list))
    (pss_one (ps_if (pt_cmpR op_ge (pe_ix ix_list (pv 2) pe_int (fun _ _ => rfl)) (pe_ix ix_list (pv 2) pe_int (fun _ _ => rfl)) (nomark _)) (pss_cons (ps_asg pe_int (pg_sub (pv 2) pe_int set_list))
    (pss_one (ps_asg (pe_op op_or (pe_ix ix_list (pv 2) pe_int (fun _ _ => rfl)) pe_int) (pg_sub (pv 2) pe_int set_list)))) pss_nil))) pss_nil))))))))), ?_⟩
  refine ⟨_, rfl, d, _, rfl, dg (k := Sum.inr "m") hd0 lG_m, ?_⟩
  refine ⟨_, rfl, (n : Int), rfl, by omega, by omega, ?_⟩
  refine for_range (lo := 0) (n := ((n : Int)).toNat) (fun i σ H' => ∃ (y3 y4 : Option V) (z : Bd), σ = [some (.ref d), some (.int (n : Int)), some (.ref m), y3, y4] ∧ Fr d m t H H' ∧ Lw H' d m t ln us z ∧ Ok z ∧ passM (n - i) z = passM n x) ⟨none, none, x, rfl, Fr.refl, L0, O0, rfl⟩ ?_ ?_
  · rintro i σ H1 hi ⟨y3, y4, z, rfl, F1, L, O, e⟩
    have hin : i < n := by omega
    obtain ⟨sv, hd, hz⟩ := L.hd
    refine ⟨_, rfl, d, _, rfl, dg (k := Sum.inr "beat") hd lG_beat, _, _, rfl, rfl, _, rfl, d, _, rfl, dpS (k := Sum.inr "beat") hd lP_beat, ?_⟩
    have L1 : Lw (upd H1 d (.dK (stD m t ln { z with beat := z.beat + 1 } sv))) d m t ln us { z with beat := z.beat + 1 } := L.dict hz rfl rfl rfl
    have F2 := F1.trans (Fr.ud (o := .dK (stD m t ln { z with beat := z.beat + 1 } sv)))
    clear F1 hd hz
    generalize upd H1 d (.dK (stD m t ln { z with beat := z.beat + 1 } sv)) = H2 at *
    obtain ⟨sv1, hd1, hz1⟩ := L1.hd
    refine ⟨_, rfl, d, _, rfl, dg (k := Sum.inr "line") hd1 lG_line, ln, rfl, .inl ⟨_, .inl L1.hl⟩, _, rfl, d, _, rfl, dg (k := Sum.inr "beat") hd1 lG_beat, _, rfl, m, _, _, _, rfl, rfl, SqL.of L1.hm, atI_rd (by decide) (by rw [L1.lm]; decide), _, DGet.k (k := Sum.inl (z.beat + 1)) L1.hl, ?_⟩
    have elv : (valV (lnD z.line) (Sum.inl (z.beat + 1))).getD (.int (rd z.mem 772)) = .int (lvM z) := by
      rw [ln_get O.ln]
      unfold lvM
      split <;> rfl
    rw [elv]
    have fin : ∀ H5 M5, M5 = lawTim (lawLine (lvM z) z.mem) → Fr d m t H H5 → Lw H5 d m t ln us { z with beat := z.beat + 1, mem := M5 } → ∃ z', Fr d m t H H5 ∧ Lw H5 d m t ln us z' ∧ Ok z' ∧ passM (n - (i + 1)) z' = passM n x := fun H5 M5 eM F5 L5 => by
      subst eM
      have e1 := one_eq O
      refine ⟨passOneM z, F5, ?_, O.one, ?_⟩
      · rw [e1]
        exact L5.la
      · rw [← e]
        have e3 : n - i = (n - (i + 1)) + 1 := by omega
        rw [e3]
        rfl
    refine ⟨_, rfl, _, _, rfl, rfl, (by show (0 : Int) < 2; decide), rfl, _, rfl, ?_⟩
    apply ifG (H := H2) (fun H' => Fr d m t H H' ∧ Lw H' d m t ln us { z with beat := z.beat + 1, mem := if lvM z % 2 = 1 ∧ rd z.mem 772 % 2 = 0 then stM z.mem 770 (Builtin.bitOr (rd z.mem 770) 2) else z.mem })
    case h2 =>
      intro h
      rw [if_neg (fun y => of_decide_eq_false h (congrArg V.int y.1))]
      exact ⟨F2, L1⟩
    case h1 =>
      intro h1 k
      refine ⟨_, rfl, m, _, _, _, rfl, rfl, SqL.of L1.hm, atI_rd (by decide) (by rw [L1.lm]; decide), _, _, rfl, rfl, (by show (0 : Int) < 2; decide), rfl, _, rfl, ifB (fun h2 => ?_) (fun h2 => k _ ?_)⟩
      · refine ⟨_, rfl, m, _, _, _, rfl, rfl, SqL.of L1.hm, atI_rd (by decide) (by rw [L1.lm]; decide), _, _, rfl, rfl, _, rfl, m, _, _, _, rfl, rfl, L1.hm, ixN_in (by decide) (by rw [List.length_map, L1.lm]; decide), ?_⟩
        rw [set_map]
        refine k _ ⟨F2.trans Fr.um, ?_⟩
        rw [if_pos ⟨V.int.inj (of_decide_eq_true h1), V.int.inj (of_decide_eq_true h2)⟩]
        exact L1.word (by rw [stM_len]; exact L1.lm)
      · rw [if_neg (fun y => of_decide_eq_false h2 (congrArg V.int y.2))]
        exact ⟨F2, L1⟩
    rintro H3 ⟨F3, L3⟩
    clear F2 L1 hd1 hz1 elv
    refine ⟨_, rfl, _, rfl, m, _, _, _, rfl, rfl, L3.hm, ixN_in (by decide) (by rw [List.length_map, L3.lm]; decide), ?_⟩
    rw [set_map]
    have L4 := L3.word (M := lawLine (lvM z) z.mem) (by rw [lawLine_len]; exact O.lm)
    have F4 := F3.trans (Fr.um (o := .lst ((lawLine (lvM z) z.mem).map V.int)))
    have eM : stM (if lvM z % 2 = 1 ∧ rd z.mem 772 % 2 = 0 then stM z.mem 770 (Builtin.bitOr (rd z.mem 770) 2) else z.mem) 772 (lvM z) = lawLine (lvM z) z.mem := rfl
    rw [eM]
    clear F3 L3 eM
    generalize upd H3 m (.lst ((lawLine (lvM z) z.mem).map V.int)) = H4 at *
    generalize eM4 : lawLine (lvM z) z.mem = M4 at *
    refine ⟨_, rfl, m, _, _, _, rfl, rfl, SqL.of L4.hm, atI_rd (by decide) (by rw [L4.lm]; decide), _, _, rfl, rfl, _, rfl, ifB (fun h => ?_) (fun h => ?_)⟩
    · have h := of_decide_eq_true h
      refine ⟨_, rfl, m, _, _, _, rfl, rfl, SqL.of L4.hm, atI_rd (by decide) (by rw [L4.lm]; decide), _, _, rfl, rfl, _, rfl, m, _, _, _, rfl, rfl, L4.hm, ixN_in (by decide) (by rw [List.length_map, L4.lm]; decide), ?_⟩
      rw [set_map]
      have L5 := L4.word (M := stM M4 768 (rd M4 768 + 1)) (by rw [stM_len]; exact L4.lm)
      have F5 := F4.trans (Fr.um (o := .lst ((stM M4 768 (rd M4 768 + 1)).map V.int)))
      generalize upd H4 m (.lst ((stM M4 768 (rd M4 768 + 1)).map V.int)) = H5 at *
      refine ⟨_, rfl, m, _, _, _, rfl, rfl, SqL.of L5.hm, atI_rd (by decide) (by rw [L5.lm]; decide), _, rfl, m, _, _, _, rfl, rfl, SqL.of L5.hm, atI_rd (by decide) (by rw [L5.lm]; decide), _, _, rfl, rfl, _, rfl, ifB (fun h2 => ?_) (fun h2 => ?_)⟩
      · have h2 := of_decide_eq_true h2
        refine ⟨_, rfl, m, _, _, _, rfl, rfl, L5.hm, ixN_in (by decide) (by rw [List.length_map, L5.lm]; decide), ?_⟩
        rw [set_map]
        have L6 := L5.word (M := stM (stM M4 768 (rd M4 768 + 1)) 768 0) (by rw [stM_len]; exact L5.lm)
        have F6 := F5.trans (Fr.um (o := .lst ((stM (stM M4 768 (rd M4 768 + 1)) 768 0).map V.int)))
        generalize upd H5 m (.lst ((stM (stM M4 768 (rd M4 768 + 1)) 768 0).map V.int)) = H6 at *
        refine ⟨_, rfl, m, _, _, _, rfl, rfl, SqL.of L6.hm, atI_rd (by decide) (by rw [L6.lm]; decide), _, _, rfl, rfl, _, rfl, m, _, _, _, rfl, rfl, L6.hm, ixN_in (by decide) (by rw [List.length_map, L6.lm]; decide), ?_⟩
        rw [set_map]
        obtain ⟨z', a1, a2, a3, a4⟩ := fin _ _ (by unfold lawTim; rw [if_pos h, if_pos h2]) (F6.trans Fr.um) (L6.word (M := stM (stM (stM M4 768 (rd M4 768 + 1)) 768 0) 770 (Builtin.bitOr (rd (stM (stM M4 768 (rd M4 768 + 1)) 768 0) 770) 1)) (by rw [stM_len]; exact L6.lm))
        exact ⟨_, _, z', rfl, a1, a2, a3, a4⟩
      · obtain ⟨z', a1, a2, a3, a4⟩ := fin _ _ (by unfold lawTim; rw [if_pos h, if_neg (of_decide_eq_false h2)]) F5 L5
        exact ⟨_, _, z', rfl, a1, a2, a3, a4⟩
    · obtain ⟨z', a1, a2, a3, a4⟩ := fin _ _ (by unfold lawTim; rw [if_neg (of_decide_eq_false h)]) F4 L4
      exact ⟨_, _, z', rfl, a1, a2, a3, a4⟩
  · rintro σ H1 ⟨y3, y4, z, rfl, F1, L, O, e⟩
    have e0 : n - ((n : Int)).toNat = 0 := by omega
    rw [e0] at e
    refine q _ F1 ?_
    rw [← e]
    exact L
abbrev sLbar : Stmt := topS 70
def scLbarN : List Str := ["_law_stand", "_law_reads", "_law_puts", "_law_address"]
theorem scLbar : FnScope scLbarN ["_law_stand", "_law_reads", "_law_puts"] (defScope sLbar) := ⟨rfl, rfl, rfl, by decide +kernel, rfl, by decide +kernel, by decide +kernel⟩
theorem ok_Lbar {f : Addr} {fd : FuncData} (F : Fun K "_law_barred" "_law_barred" sLbar f fd) (T : Tx K mg CB CM) : FnOk P w K mg base CX0 1 f fd ["_law_stand", "_law_reads", "_law_puts"] (spBarred) := by
  refine F.ok scLbar (fun vs H Q E h => by obtain ⟨_, _, _, _, _, _, _, _, _, _, rfl, _⟩ := h; rfl) (fun cdv A outer s H vs Q E hr h => ?_)
  have hu := hu_of hr
  have z_int := T.z_int
  obtain ⟨d, m, t, ln, lr, lp, us, x, rs, ps, rfl, L, hr1, hp1, k⟩ := h
  obtain ⟨sv, hd, hz⟩ := L.hd
  refine ⟨_, (pss_cons (ps_for PassesOwn.never rfl (pi_list (pv 1)) (pg_name (i := 3) scLbar.nd rfl (.inl rfl))
      (pss_one (ps_if (PW.pt (pw_or (pt_cmpR op_gt (pv 3) pe_int (nomark _)) (pw_or1 (pt_cmpR op_lt (pv 3) pe_int (nomark _))))) (pss_one (ps_ret (pe_tup (pa_cons pe_str (pa_cons (pe_dget hu (pv 0) pe_str (fun _ _ => rfl)) (pa_cons (pv 3) pa_nil)))))) pss_nil)))
    (pss_cons (ps_for PassesOwn.never rfl (pi_list (pv 2)) (pg_name (i := 3) scLbar.nd rfl (.inl rfl))
      (pss_cons (ps_if (PW.pt (pw_or (pt_cmpR op_gt (pv 3) pe_int (nomark _)) (pw_or1 (pt_cmpR op_lt (pv 3) pe_int (nomark _))))) (pss_one (ps_ret (pe_tup (pa_cons pe_str (pa_cons (pe_dget hu (pv 0) pe_str (fun _ _ => rfl)) (pa_cons (pv 3) pa_nil)))))) pss_nil)
    (pss_one (ps_if (PW.pt (pw_or (pt_cmpR op_lt (pv 3) pe_int (nomark _)) (pw_or1 (pt_cmpR op_eq (pv 3) pe_int (nomark _))))) (pss_one (ps_ret (pe_tup (pa_cons (pe_ix ix_list (pe_lst (pa_cons pe_str (pa_cons pe_str pa_nil))) (pe_callTy call_int1 (by rfl) z_int (by decide +kernel) (pa_cons (pe_cmpR op_lt (pv 3) pe_int (nomark _)) pa_nil)) (fun _ _ => rfl)) (pa_cons (pe_dget hu (pv 0) pe_str (fun _ _ => rfl)) (pa_cons (pv 3) pa_nil)))))) pss_nil))))
    (pss_one (ps_ret pe_non)))), ?_⟩
  have out : ∀ (a : Int) (rest : List (Bool × Int)) (c : Bool), ¬ (0 ≤ a ∧ a < 774) → firstBad ((c, a) :: rest) = firstBad (allT rs ps) → barV x rs ps = some (("far" : Str), [x.pc, a]) := fun a rest c hf hb => by
    unfold barV
    rw [← hb, firstBad_cons, bar_far hf]
    rfl
  refine ⟨_, rfl, lr, rfl, ⟨_, SqL.of hr1⟩, ?_⟩
  refine for_list (K := K) (a := lr) (xs := rs.map V.int) (fun i σ H' => H' = H ∧ firstBad (allT (rs.drop i) ps) = firstBad (allT rs ps) ∧ ∃ y3, σ = [some (.ref d), some (.ref lr), some (.ref lp), y3]) ⟨rfl, rfl, none, rfl⟩ (fun i σ H' _ h => by obtain ⟨rfl, _⟩ := h; exact SqL.of hr1) ?_ ?_
  · rintro i v σ H' hv ⟨rfl, hf, y3, rfl⟩
    obtain ⟨a, ha, rfl⟩ := getI hv
    rw [drop_at ha, allT_r] at hf
    refine ⟨_, rfl, _, _, rfl, rfl, _, rfl, ifB (fun h1 => ?_) (fun h1 => ⟨_, rfl, _, _, rfl, rfl, _, rfl, ifB (fun h2 => ?_) (fun h2 => ?_)⟩)⟩
    · have eb := out a _ false (fun z => by have := of_decide_eq_true h1; omega) hf
      rw [eb] at k
      exact ⟨_, rfl, d, _, rfl, dg (k := Sum.inr "pc") hd lG_pc, _, rfl, (by show 3 ≤ sizeLine; decide), fun z nz => k _ _ (same_upd' nz) ⟨z, rfl, upd_same⟩⟩
    · have eb := out a _ false (fun z => by have := of_decide_eq_true h2; omega) hf
      rw [eb] at k
      exact ⟨_, rfl, d, _, rfl, dg (k := Sum.inr "pc") hd lG_pc, _, rfl, (by show 3 ≤ sizeLine; decide), fun z nz => k _ _ (same_upd' nz) ⟨z, rfl, upd_same⟩⟩
    · have g1 := of_decide_eq_false h1
      have g2 := of_decide_eq_false h2
      rw [firstBad_cons, bar_rd ⟨by omega, by omega⟩] at hf
      exact ⟨rfl, hf, _, rfl⟩
  rintro σ H' ⟨rfl, hf, y3, rfl⟩
  rw [List.length_map, List.drop_length] at hf
  refine ⟨_, rfl, lp, rfl, ⟨_, SqL.of hp1⟩, ?_⟩
  refine for_list (K := K) (a := lp) (xs := ps.map V.int) (fun i σ H1 => H1 = H' ∧ firstBad (allT [] (ps.drop i)) = firstBad (allT rs ps) ∧ ∃ y3, σ = [some (.ref d), some (.ref lr), some (.ref lp), y3]) ⟨rfl, hf, _, rfl⟩ (fun i σ H1 _ h => by obtain ⟨rfl, _⟩ := h; exact SqL.of hp1) ?_ ?_
  · rintro i v σ H1 hv ⟨rfl, hf, y3, rfl⟩
    obtain ⟨a, ha, rfl⟩ := getI hv
    rw [drop_at ha, allT_p] at hf
    refine ⟨_, rfl, _, _, rfl, rfl, _, rfl, ifB (fun h1 => ?_) (fun h1 => ⟨_, rfl, _, _, rfl, rfl, _, rfl, ifB (fun h2 => ?_) (fun h2 => ?_)⟩)⟩
    · have eb := out a _ true (fun z => by have := of_decide_eq_true h1; omega) hf
      rw [eb] at k
      exact ⟨_, rfl, d, _, rfl, dg (k := Sum.inr "pc") hd lG_pc, _, rfl, (by show 3 ≤ sizeLine; decide), fun z nz => k _ _ (same_upd' nz) ⟨z, rfl, upd_same⟩⟩
    · have eb := out a _ true (fun z => by have := of_decide_eq_true h2; omega) hf
      rw [eb] at k
      exact ⟨_, rfl, d, _, rfl, dg (k := Sum.inr "pc") hd lG_pc, _, rfl, (by show 3 ≤ sizeLine; decide), fun z nz => k _ _ (same_upd' nz) ⟨z, rfl, upd_same⟩⟩
    · have g1 := of_decide_eq_false h1
      have g2 := of_decide_eq_false h2
      rw [firstBad_cons, bar_wr ⟨by omega, by omega⟩] at hf
      have still : (a < 512 ∨ a = 772) → barV x rs ps = some ((if decide (a < 512) = true then ("flash" : Str) else ("still" : Str)), [x.pc, a]) := fun hor => by
        unfold barV
        rw [← hf]
        by_cases c : a < 512
        · rw [if_pos c, decide_eq_true c]
          rfl
        · rw [if_neg c, if_pos (hor.resolve_left c), decide_eq_false c]
          rfl
      have tell : (a < 512 ∨ a = 772) → ∀ Q' : V → Hp → Prop, True := fun _ _ => True.intro
      refine ⟨_, rfl, _, _, rfl, rfl, _, rfl, ifB (fun h3 => ?_) (fun h3 => ⟨_, rfl, rfl, _, rfl, ifB (fun h4 => ?_) (fun h4 => ?_)⟩)⟩
      · have eb := still (.inl (of_decide_eq_true h3))
        rw [eb] at k
        refine ⟨(by show 2 ≤ sizeLine; decide), fun l nl => ?_⟩
        obtain ⟨sv2, hd2, hz2⟩ := (L.same (same_upd' (o := .lst [V.str "still", V.str "flash"]) nl)).hd
        refine ⟨_, rfl, _, _, rfl, rfl, .inr ⟨_, rfl, l, _, _, _, rfl, rfl, SqL.of upd_same, kSF _, ?_⟩⟩
        exact ⟨_, rfl, d, _, rfl, dg (k := Sum.inr "pc") hd2 lG_pc, _, rfl, (by show 3 ≤ sizeLine; decide), fun z nz => k _ _ ((same_upd' nl).trans (same_upd' nz)) ⟨z, rfl, upd_same⟩⟩
      · have eb := still (.inr (V.int.inj (of_decide_eq_true h4)))
        rw [eb] at k
        refine ⟨(by show 2 ≤ sizeLine; decide), fun l nl => ?_⟩
        obtain ⟨sv2, hd2, hz2⟩ := (L.same (same_upd' (o := .lst [V.str "still", V.str "flash"]) nl)).hd
        refine ⟨_, rfl, _, _, rfl, rfl, .inr ⟨_, rfl, l, _, _, _, rfl, rfl, SqL.of upd_same, kSF _, ?_⟩⟩
        exact ⟨_, rfl, d, _, rfl, dg (k := Sum.inr "pc") hd2 lG_pc, _, rfl, (by show 3 ≤ sizeLine; decide), fun z nz => k _ _ ((same_upd' nl).trans (same_upd' nz)) ⟨z, rfl, upd_same⟩⟩
      · rw [if_neg (of_decide_eq_false h3), if_neg (fun z => of_decide_eq_false h4 (congrArg V.int z))] at hf
        exact ⟨rfl, hf, _, rfl⟩
  rintro σ H1 ⟨rfl, hf, y3, rfl⟩
  rw [List.length_map, List.drop_length] at hf
  have eb : barV x rs ps = none := by
    unfold barV
    rw [← hf]
    rfl
  rw [eb] at k
  exact k _ _ (Same.refl _) rfl
abbrev sLlay : Stmt := topS 71
def scLlayN : List Str := ["_law_stand", "_law_address", "_law_word", "_law_m"]
theorem scLlay : FnScope scLlayN ["_law_stand", "_law_address", "_law_word"] (defScope sLlay) := ⟨rfl, rfl, rfl, by decide +kernel, rfl, by decide +kernel, by decide +kernel⟩
theorem ok_Llay {f : Addr} {fd : FuncData} (F : Fun K "_law_lay" "_law_lay" sLlay f fd) (T : Tx K mg CB CM) : FnOk P w K mg base CX0 1 f fd ["_law_stand", "_law_address", "_law_word"] (spLay) := by
  refine F.ok scLlay (fun vs H Q E h => by obtain ⟨_, _, _, _, _, _, _, _, rfl, _⟩ := h; rfl) (fun cdv A outer s H vs Q E hr h => ?_)
  have hu := hu_of hr
  obtain ⟨d, m, t, ln, us, x, a, v, rfl, L, O, a0, a1, v16, hsl, k⟩ := h
  obtain ⟨sv, hd, hz⟩ := L.hd
  refine ⟨_, (pss_cons (ps_set (i := 3) scLlay.nd rfl (.inl rfl) (pe_dget hu (pv 0) pe_str (fun _ _ => rfl)))
    (pss_cons (ps_if (pt_cmpR op_eq (pv 1) pe_int (nomark _)) (pss_one (ps_asg (pe_op op_sub (pe_ix ix_list (pv 3) pe_int (fun _ _ => rfl)) (pe_op op_and (pe_ix ix_list (pv 3) pe_int (fun _ _ => rfl)) (pv 2))) (pg_sub (pv 3) pe_int set_list))) (pss_one (ps_asg (pv 2) (pg_sub (pv 3) (pv 1) set_list))))
    (pss_one (ps_if (pt_cmpR op_eq (pv 1) pe_int (nomark _)) (pss_one (ps_expr (pe_bm PySem.F.plainAttrs_list PySem.F.slot_list_append PySem.F.type_list_append mt_append (pe_dget hu (pv 0) pe_str (fun _ _ => rfl)) (pa_cons (pe_tup (pa_cons (pe_dget hu (pv 0) pe_str (fun _ _ => rfl)) (pa_cons (pv 2) pa_nil))) pa_nil)))) pss_nil)))), ?_⟩
  refine ⟨_, rfl, d, _, rfl, dg (k := Sum.inr "m") hd lG_m, ?_⟩
  refine ⟨_, rfl, rfl, _, rfl, ifB (fun h => ?_) (fun h => ?_)⟩
  · have ea : a = 770 := V.int.inj (of_decide_eq_true h)
    subst ea
    refine ⟨_, rfl, m, _, _, _, rfl, rfl, SqL.of L.hm, atI_rd (by decide) (by rw [L.lm]; decide), _, rfl, m, _, _, _, rfl, rfl, SqL.of L.hm, atI_rd (by decide) (by rw [L.lm]; decide), _, rfl, _, _, rfl, rfl, _, _, rfl, rfl, _, rfl, m, _, _, _, rfl, rfl, L.hm, ixN_in (by decide) (by rw [List.length_map, L.lm]; decide), ?_⟩
    rw [set_map]
    refine ⟨_, rfl, rfl, _, rfl, ifB (fun h2 => absurd (V.int.inj (of_decide_eq_true h2)) (by decide)) (fun _ => ?_)⟩
    refine k _ us (Fr.um (o := .lst ((stM x.mem 770 (rd x.mem 770 - Builtin.bitAnd (rd x.mem 770) v)).map V.int))) ?_
    have ep : putWM 770 v x = { x with mem := stM x.mem 770 (rd x.mem 770 - Builtin.bitAnd (rd x.mem 770) v) } := by
      unfold putWM
      have es : sendM 770 v x = x := if_neg (by decide)
      have em : putMM 770 v x.mem = stM x.mem 770 (rd x.mem 770 - Builtin.bitAnd (rd x.mem 770) v) := by
        unfold putMM
        rw [if_pos rfl, clear16 (O.w.rd _) v16]
      rw [es, em]
    rw [ep]
    exact L.word (by rw [stM_len]; exact L.lm)
  · have ea : ¬ a = 770 := fun z => of_decide_eq_false h (congrArg V.int z)
    refine ⟨_, rfl, _, rfl, _, rfl, m, _, _, _, rfl, rfl, L.hm, ixN_in a0 (by rw [List.length_map, L.lm]; exact a1), ?_⟩
    rw [set_map]
    have L1 := L.word (M := stM x.mem a v) (by rw [stM_len]; exact L.lm)
    have F1 : Fr d m t H (upd H m (.lst ((stM x.mem a v).map V.int))) := Fr.um
    generalize upd H m (.lst ((stM x.mem a v).map V.int)) = H1 at *
    obtain ⟨sv1, hd1, hz1⟩ := L1.hd
    have em : putMM a v x.mem = stM x.mem a v := if_neg ea
    refine ⟨_, rfl, rfl, _, rfl, ifB (fun h2 => ?_) (fun h2 => ?_)⟩
    · have e3 := V.int.inj (of_decide_eq_true h2)
      refine ⟨_, rfl, d, _, rfl, dg (k := Sum.inr "sent") hd1 lG_sent, .inl ⟨rfl, _, SqL.of L1.ht⟩, _, rfl, d, _, rfl, dg (k := Sum.inr "beat") hd1 lG_beat, _, rfl, (by show 2 ≤ sizeLine; decide), fun q nq => ?_⟩
      have L2 := L1.same (same_upd' (o := .tup [V.int x.beat, V.int v]) nq)
      refine ⟨t, us, _, rfl, rfl, L2.ht, (by rw [TupsAt.len L1.us]; exact Nat.lt_of_lt_of_le hsl (by decide)), ?_⟩
      refine k _ (us ++ [.ref q]) ((F1.trans (Fr.of (same_upd' nq))).trans Fr.ut) ?_
      have ep : putWM a v x = { x with sent := x.sent ++ [(x.beat, v)], mem := stM x.mem a v } := by
        unfold putWM sendM
        rw [if_pos e3, em]
      rw [ep]
      exact L2.send (u := (x.beat, v)) upd_same
    · have e3 : ¬ a = 773 := fun z => of_decide_eq_false h2 (congrArg V.int z)
      refine k _ us F1 ?_
      have ep : putWM a v x = { x with mem := stM x.mem a v } := by
        unfold putWM sendM
        rw [if_neg e3, em]
      rw [ep]
      exact L1
abbrev sLhalts : Stmt := topS 72
def scLhaltsN : List Str := ["_law_stand", "_law_cause"]
theorem scLhalts : FnScope scLhaltsN ["_law_stand", "_law_cause"] (defScope sLhalts) := ⟨rfl, rfl, rfl, by decide +kernel, rfl, by decide +kernel, by decide +kernel⟩
theorem ok_Lhalts {f : Addr} {fd : FuncData} (F : Fun K "_law_halts" "_law_halts" sLhalts f fd) (T : Tx K mg CB CM) : FnOk P w K mg base CX0 1 f fd ["_law_stand", "_law_cause"] (spHalts) := by
  refine F.ok scLhalts (fun vs H Q E h => by obtain ⟨_, _, _, _, _, _, _, _, rfl, _⟩ := h; rfl) (fun cdv A outer s H vs Q E hr h => ?_)
  have hu := hu_of hr
  obtain ⟨d, m, t, ln, us, x, v, s_, rfl, L, hv, k⟩ := h
  obtain ⟨sv, hd, hz⟩ := L.hd
  refine ⟨_, (pss_cons (ps_dput hu (pv 0) pe_str (pv 1) rfl)
    (pss_one (ps_ret pe_str))), ?_⟩
  exact ⟨_, rfl, _, rfl, d, _, rfl, dpS (k := Sum.inr "stopped") hd lP_stopped, k _ Fr.ud (L.dict (y := { x with stop := some s_ }) hv rfl rfl rfl)⟩
end
end Bh

/-! The law's own board: what a deed does. -/
namespace Bh
open PySem PySem.Spec PyProof.Rows L2
/-- many ways go on alike -/
theorem joinR {Goal : Prop} {I : Hp → Prop} (R : Hp → Prop) (body : (∀ G', I G' → R G') → Goal) (key : ∀ G', I G' → R G') : Goal := body key
theorem joinA {Goal : Prop} {I : Hp → Addr → Prop} (R : Hp → Addr → Prop) (body : (∀ G' a, I G' a → R G' a) → Goal) (key : ∀ G' a, I G' a → R G' a) : Goal := body key
theorem in_ints (z : Int) : ∀ ys : List Int, inV (.int z) (ys.map V.int) = decide (z ∈ ys)
  | [] => rfl
  | y :: ys => by
    have ih := in_ints z ys
    unfold inV at ih ⊢
    rw [List.map_cons, List.any_cons, ih]
    show ((y == z) || decide (z ∈ ys)) = decide (z ∈ y :: ys)
    by_cases e : y = z
    · subst e
      simp
    · have e2 : ¬ z = y := fun q => e q.symm
      have : (y == z) = false := by simpa using e
      rw [this]
      simp [e2]
theorem flat_ints (ys : List Int) : (ys.map V.int).all flatV = true := by
  rw [List.all_eq_true]
  intro v hv
  obtain ⟨y, _, rfl⟩ := List.mem_map.mp hv
  rfl
def dn1 (op p0 : Int) (x : Bd) : Bd := if op ∈ ([3, 9, 17] : List Int) then putWM p0 x.a x else x
def dn2 (op p0 : Int) (y : Bd) : Bd := if op = 15 then putWM p0 y.pc y else y
def dn3 (op : Int) (y : Bd) : Bd := if op ∈ ([15, 17] : List Int) then { y with sp := y.sp - 1 } else y
def dn4 (op k : Int) (y : Bd) : Bd := if op ∈ ([16, 18, 21] : List Int) then { y with sp := y.sp + k } else y
def dn5 (op n a : Int) (y : Bd) : Bd := if op ∈ ([12, 15] : List Int) ∨ (op = 13 ∧ y.zero = true) ∨ (op = 14 ∧ 32768 ≤ a) then { y with pc := n } else y
def dn6 (op l : Int) (y : Bd) : Bd := if op ∈ ([16, 21] : List Int) then { y with pc := l } else y
def dn7 (op w0 : Int) (y : Bd) : Bd := if op = 21 then { y with zero := decide (w0 % 2 = 1), lets := true } else y
def dn8 (op : Int) (y : Bd) : Bd := if op = 19 then { y with asleep := true } else y
def dn9 (op n : Int) (y : Bd) : Bd := if op = 20 then { y with lets := decide (n % 2 = 1) } else y
def dn10 (op a : Int) (y : Bd) : Bd := if op ∈ ([10, 11] : List Int) then { y with b := a } else y
def gv1 (n a b : Int) : List (Key × V) := [(Sum.inl 1, .int n), (Sum.inl 11, .int b), (Sum.inl 22, .int (a / 2))]
def gv2 (n a b w0 : Int) : List (Key × V) := [(Sum.inl 1, .int n), (Sum.inl 11, .int b), (Sum.inl 22, .int (a / 2)), (Sum.inl 2, .int w0), (Sum.inl 8, .int w0), (Sum.inl 18, .int w0), (Sum.inl 4, .int ((a + w0) % 65536)), (Sum.inl 5, .int ((a - w0) % 65536)), (Sum.inl 6, .int (Builtin.bitAnd a w0)), (Sum.inl 7, .int (Builtin.bitXor a w0))]
def gvM (op : Nat) (n a b : Int) (ws : List Int) : Option Int :=
  match op with
  | 1 => some n
  | 11 => some b
  | 22 => some (a / 2)
  | 2 => some (ws.getD 0 0)
  | 8 => some (ws.getD 0 0)
  | 18 => some (ws.getD 0 0)
  | 4 => some ((a + ws.getD 0 0) % 65536)
  | 5 => some ((a - ws.getD 0 0) % 65536)
  | 6 => some (Builtin.bitAnd a (ws.getD 0 0))
  | 7 => some (Builtin.bitXor a (ws.getD 0 0))
  | _ => none
def dn11 (g : Option Int) (y : Bd) : Bd := match g with
  | none => y
  | some v => giveM v y
theorem gv1_at {op : Nat} (h : op < 23) {n a b : Int} (hw : nR op = 0) : valV (gv1 n a b) (Sum.inl (op : Int)) = (gvM op n a b []).map V.int := by
  match op, h with

  | 0, _ => kernel_rfl
  | 1, _ => kernel_rfl
  | 2, _ => cases hw
  | 3, _ => kernel_rfl
  | 4, _ => cases hw
  | 5, _ => cases hw
  | 6, _ => cases hw
  | 7, _ => cases hw
  | 8, _ => cases hw
  | 9, _ => kernel_rfl
  | 10, _ => kernel_rfl
  | 11, _ => kernel_rfl
  | 12, _ => kernel_rfl
  | 13, _ => kernel_rfl
  | 14, _ => kernel_rfl
  | 15, _ => kernel_rfl
  | 16, _ => cases hw
  | 17, _ => kernel_rfl
  | 18, _ => cases hw
  | 19, _ => kernel_rfl
  | 20, _ => kernel_rfl
  | 21, _ => cases hw
  | 22, _ => kernel_rfl
  | n + 23, h => omega
theorem gv2_at {op : Nat} (h : op < 23) {n a b w0 : Int} {wr : List Int} (hw : nR op ≠ 0) : valV (gv2 n a b w0) (Sum.inl (op : Int)) = (gvM op n a b (w0 :: wr)).map V.int := by
  match op, h with
  | 0, _ => exact absurd rfl hw
  | 1, _ => exact absurd rfl hw
  | 2, _ => kernel_rfl
  | 3, _ => exact absurd rfl hw
  | 4, _ => kernel_rfl
  | 5, _ => kernel_rfl
  | 6, _ => kernel_rfl
  | 7, _ => kernel_rfl
  | 8, _ => kernel_rfl
  | 9, _ => exact absurd rfl hw
  | 10, _ => exact absurd rfl hw
  | 11, _ => exact absurd rfl hw
  | 12, _ => exact absurd rfl hw
  | 13, _ => exact absurd rfl hw
  | 14, _ => exact absurd rfl hw
  | 15, _ => exact absurd rfl hw
  | 16, _ => kernel_rfl
  | 17, _ => exact absurd rfl hw
  | 18, _ => kernel_rfl
  | 19, _ => exact absurd rfl hw
  | 20, _ => exact absurd rfl hw
  | 21, _ => kernel_rfl
  | 22, _ => exact absurd rfl hw
  | n + 23, h => omega
theorem done_eq {op : Nat} (o1 : 1 ≤ op) (o2 : op < 23) {n : Int} {ws ps : List Int} {x : Bd} (hw : ws.length = nR op) (hp : ps = ((touM op n x.b x.sp).filter fun t => t.1).map (fun t => t.2)) :
    dn11 (gvM op n x.a x.b ws) (dn10 op x.a (dn9 op n (dn8 op (dn7 op (ws.getD 0 0) (dn6 op (ws.getLastD 0) (dn5 op n x.a (dn4 op ws.length (dn3 op (dn2 op (ps.getD 0 0) (dn1 op (ps.getD 0 0) x)))))))))) = doM op n ws x := by
  subst hp
  match op, o1, o2 with
  | 1, _, _ => rfl
  | 2, _, _ => obtain ⟨v, rfl⟩ := len1 hw; rfl
  | 3, _, _ => rfl
  | 4, _, _ => obtain ⟨v, rfl⟩ := len1 hw; rfl
  | 5, _, _ => obtain ⟨v, rfl⟩ := len1 hw; rfl
  | 6, _, _ => obtain ⟨v, rfl⟩ := len1 hw; rfl
  | 7, _, _ => obtain ⟨v, rfl⟩ := len1 hw; rfl
  | 8, _, _ => obtain ⟨v, rfl⟩ := len1 hw; rfl
  | 9, _, _ => rfl
  | 10, _, _ => rfl
  | 11, _, _ => rfl
  | 12, _, _ => rfl
  | 13, _, _ =>
    show (if ((13 : Nat) : Int) ∈ ([12, 15] : List Int) ∨ (((13 : Nat) : Int) = 13 ∧ x.zero = true) ∨ (((13 : Nat) : Int) = 14 ∧ 32768 ≤ x.a) then ({ x with pc := n } : Bd) else x) = if x.zero = true then { x with pc := n } else x
    by_cases h : x.zero = true
    · rw [if_pos h, if_pos (.inr (.inl ⟨rfl, h⟩))]
    · rw [if_neg h, if_neg (fun z => by rcases z with z | z | z; exact absurd z (by decide); exact h z.2; exact absurd z.1 (by decide))]
  | 14, _, _ =>
    show (if ((14 : Nat) : Int) ∈ ([12, 15] : List Int) ∨ (((14 : Nat) : Int) = 13 ∧ x.zero = true) ∨ (((14 : Nat) : Int) = 14 ∧ 32768 ≤ x.a) then ({ x with pc := n } : Bd) else x) = if 32768 ≤ x.a then { x with pc := n } else x
    by_cases h : 32768 ≤ x.a
    · rw [if_pos h, if_pos (.inr (.inr ⟨rfl, h⟩))]
    · rw [if_neg h, if_neg (fun z => by rcases z with z | z | z; exact absurd z (by decide); exact absurd z.1 (by decide); exact h z.2)]
  | 15, _, _ =>
    show ({ putWM x.sp x.pc x with sp := (putWM x.sp x.pc x).sp - 1, pc := n } : Bd) = { putWM x.sp x.pc x with sp := x.sp - 1, pc := n }
    rw [(putWM_regs x.sp x.pc x).2.2.2.1]
  | 16, _, _ => obtain ⟨v, rfl⟩ := len1 hw; rfl
  | 17, _, _ =>
    show ({ putWM x.sp x.a x with sp := (putWM x.sp x.a x).sp - 1 } : Bd) = { putWM x.sp x.a x with sp := x.sp - 1 }
    rw [(putWM_regs x.sp x.a x).2.2.2.1]
  | 18, _, _ => obtain ⟨v, rfl⟩ := len1 hw; rfl
  | 19, _, _ => rfl
  | 20, _, _ => rfl
  | 21, _, _ => obtain ⟨v, v2, rfl⟩ := len2 hw; rfl
  | 22, _, _ => rfl
  | 0, h, _ => exact absurd h (by decide)
  | n + 23, _, h => exact absurd h (by omega)
theorem put_one {op : Nat} (h : (op : Int) ∈ ([3, 9, 17] : List Int) ∨ (op : Int) = 15) {n b sp : Int} : ∃ q, ((touM op n b sp).filter fun t => t.1).map (fun t => t.2) = [q] ∧ (true, q) ∈ touM op n b sp := by
  have e : op = 3 ∨ op = 9 ∨ op = 17 ∨ op = 15 := by
    simp only [List.mem_cons, List.not_mem_nil, or_false] at h
    omega
  rcases e with e | e | e | e <;> subst e
  · exact ⟨n, rfl, List.mem_singleton.mpr rfl⟩
  · exact ⟨n + b, rfl, List.mem_singleton.mpr rfl⟩
  · exact ⟨sp, rfl, List.mem_singleton.mpr rfl⟩
  · exact ⟨sp, rfl, List.mem_singleton.mpr rfl⟩
/-- what is kept between the steps -/
structure Dn (H G : Hp) (d m t ln lw lp : Addr) (ws ps : List Int) (y : Bd) : Prop where
  fr : Fr d m t H G
  law : ∃ us, Lw G d m t ln us y
  hw : G lw = some (.lst (ws.map V.int))
  hp : G lp = some (.lst (ps.map V.int))
  n1 : lw ≠ m
  n2 : lw ≠ t
  n3 : lp ≠ m
  n4 : lp ≠ t
section
variable {H G G1 : Hp} {d m t ln lw lp : Addr} {ws ps : List Int} {y y1 : Bd} {us : List V}
theorem Dn.same (D : Dn H G d m t ln lw lp ws ps y) (s : Same G G1) : Dn H G1 d m t ln lw lp ws ps y := ⟨D.fr.trans (.of s), let ⟨us, L⟩ := D.law; ⟨us, L.same s⟩, s _ _ D.hw, s _ _ D.hp, D.n1, D.n2, D.n3, D.n4⟩
theorem Dn.go (D : Dn H G d m t ln lw lp ws ps y) (f : Fr d m t G G1) (L : Lw G1 d m t ln us y1) : Dn H G1 d m t ln lw lp ws ps y1 := by
  obtain ⟨us0, L0⟩ := D.law
  obtain ⟨sv, hd, _⟩ := L0.hd
  exact ⟨D.fr.trans f, ⟨us, L⟩, f _ _ (ne_of D.hw hd (by intro z; cases z)) D.n1 D.n2 D.hw, f _ _ (ne_of D.hp hd (by intro z; cases z)) D.n3 D.n4 D.hp, D.n1, D.n2, D.n3, D.n4⟩
theorem Dn.put (D : Dn H G d m t ln lw lp ws ps y) {sv : V} {us : List V} (L : Lw G d m t ln us y) (hz : StopAt G sv y1.stop) (em : y1.mem = y.mem) (es : y1.sent = y.sent) (el : y1.line = y.line) : Dn H (upd G d (.dK (stD m t ln y1 sv))) d m t ln lw lp ws ps y1 := D.go Fr.ud (L.dict hz em es el)
end
theorem dI (i j : Int) : decide (V.int i = V.int j) = decide (i = j) := by
  by_cases h : i = j
  · rw [decide_eq_true h, h]; exact decide_eq_true rfl
  · rw [decide_eq_false h]; exact decide_eq_false fun z => h (V.int.inj z)
section
variable {P : Program} {w : World} {K : PySem.W.Frag} {mg : Str → Option Value} {base : Heap} {CB CM : Addr}
abbrev sLdone : Stmt := topS 75
def scLdoneN : List Str := ["_law_stand", "_law_op", "_law_x", "_law_words", "_law_puts", "_law_a", "_law_b", "_law_given", "_law_w"]
theorem scLdone : FnScope scLdoneN ["_law_stand", "_law_op", "_law_x", "_law_words", "_law_puts"] (defScope sLdone) := ⟨rfl, rfl, rfl, by decide +kernel, rfl, by decide +kernel, by decide +kernel⟩
theorem ok_Ldone {f : Addr} {fd : FuncData} {fL_lay : Addr} {dL_lay : FuncData} (F : Fun K "_law_done" "_law_done" sLdone f fd) (T : Tx K mg CB CM)
    (L_lay : CalF P w K mg base 1 "_law_lay" ["_law_stand", "_law_address", "_law_word"] (spLay) fL_lay dL_lay) : FnOk P w K mg base CX0 2 f fd ["_law_stand", "_law_op", "_law_x", "_law_words", "_law_puts"] (spDone) := by
  refine F.ok scLdone (fun vs H Q E h => by obtain ⟨_, _, _, _, _, _, _, _, _, _, _, _, rfl, _⟩ := h; rfl) (fun cdv A outer s H vs Q E hr h => ?_)
  have hu := hu_of hr
  have z_len := T.z_len
  obtain ⟨d, m, t, ln, lw, lp, us, x, op, n, ws, ps, rfl, L, O, hw, hp, o1, o2, m0, m1, n1, n2, n3, n4, hwl, hws, hps, hto, hsl, kk⟩ := h
  obtain ⟨sv, hd, hz⟩ := L.hd
  have hu64 := hr.units
  refine ⟨_, (pss_cons (ps_par (i := 5) (j := 6) (by rfl) scLdone.nd rfl rfl (by decide) rfl rfl (pa_cons (pe_dget hu (pv 0) pe_str (fun _ _ => rfl)) (pa_cons (pe_dget hu (pv 0) pe_str (fun _ _ => rfl)) pa_nil)) (by rfl))
    (pss_cons (ps_if (pt_cmpR op_in_seq (pv 1) (pe_lst (pa_cons pe_int (pa_cons pe_int (pa_cons pe_int pa_nil)))) (by rfl)) (pss_one (ps_expr (pe_call L_lay.G (hr.mono (by decide)) (by rfl) L_lay.g L_lay.kp L_lay.b .nil pass0 (pa_cons (pv 0) (pa_cons (pe_ix ix_list (pv 4) pe_int (fun _ _ => rfl)) (pa_cons (pv 5) pa_nil)))))) pss_nil)
    (pss_cons (ps_if (pt_cmpR op_eq (pv 1) pe_int (nomark _)) (pss_one (ps_expr (pe_call L_lay.G (hr.mono (by decide)) (by rfl) L_lay.g L_lay.kp L_lay.b .nil pass0 (pa_cons (pv 0) (pa_cons (pe_ix ix_list (pv 4) pe_int (fun _ _ => rfl)) (pa_cons (pe_dget hu (pv 0) pe_str (fun _ _ => rfl)) pa_nil)))))) pss_nil)
    (pss_cons (ps_if (pt_cmpR op_in_seq (pv 1) (pe_lst (pa_cons pe_int (pa_cons pe_int pa_nil))) (by rfl)) (pss_one (ps_dput hu (pv 0) pe_str (pe_op op_sub (pe_dget hu (pv 0) pe_str (fun _ _ => rfl)) pe_int) rfl)) pss_nil)
    (pss_cons (ps_if (pt_cmpR op_in_seq (pv 1) (pe_lst (pa_cons pe_int (pa_cons pe_int (pa_cons pe_int pa_nil)))) (by rfl)) (pss_one (ps_dput hu (pv 0) pe_str (pe_op op_add (pe_dget hu (pv 0) pe_str (fun _ _ => rfl)) (pe_callB call_len_seq (by rfl) z_len PySem.boot_len (pa_cons (pv 3) pa_nil))) rfl)) pss_nil)
    (pss_cons (ps_if (PW.pt (pw_or (pt_cmpR op_in_seq (pv 1) (pe_lst (pa_cons pe_int (pa_cons pe_int pa_nil))) (by rfl)) (pw_or (PW.pt (pw_and (pt_cmpR op_eq (pv 1) pe_int (nomark _)) (pw_and1 (pt_val (pe_dget hu (pv 0) pe_str (fun _ _ => rfl)))))) (pw_or1 (PW.pt (pw_and (pt_cmpR op_eq (pv 1) pe_int (nomark _)) (pw_and1 (pt_cmpR op_ge (pv 5) pe_int (nomark _))))))))) (pss_one (ps_dput hu (pv 0) pe_str (pv 2) rfl)) pss_nil)
    (pss_cons (ps_if (pt_cmpR op_in_seq (pv 1) (pe_lst (pa_cons pe_int (pa_cons pe_int pa_nil))) (by rfl)) (pss_one (ps_dput hu (pv 0) pe_str (pe_ix ix_list (pv 3) (pe_un un_neg pe_int) (fun _ _ => rfl)) rfl)) pss_nil)
    (pss_cons (ps_if (pt_cmpR op_eq (pv 1) pe_int (nomark _)) (pss_one (ps_expr (pe_bm PySem.F.plainAttrs_dict PySem.F.slot_dict_update PySem.F.type_dict_update mtd_update (pv 0) (pa_cons (pe_disp (pps_cons pe_str (pe_cmpR op_eq (pe_op op_mod (pe_ix ix_list (pv 3) pe_int (fun _ _ => rfl)) pe_int) pe_int (nomark _)) (pps_cons pe_str pe_bl pps_nil)) rfl rfl (by intro h; cases h) (by decide)) pa_nil)))) pss_nil)
    (pss_cons (ps_if (pt_cmpR op_eq (pv 1) pe_int (nomark _)) (pss_one (ps_dput hu (pv 0) pe_str pe_bl rfl)) pss_nil)
    (pss_cons (ps_if (pt_cmpR op_eq (pv 1) pe_int (nomark _)) (pss_one (ps_dput hu (pv 0) pe_str (pe_cmpR op_eq (pe_op op_mod (pv 2) pe_int) pe_int (nomark _)) rfl)) pss_nil)
    (pss_cons (ps_if (pt_cmpR op_in_seq (pv 1) (pe_lst (pa_cons pe_int (pa_cons pe_int pa_nil))) (by rfl)) (pss_one (ps_dput hu (pv 0) pe_str (pv 5) rfl)) pss_nil)
    (pss_cons (ps_set (i := 7) scLdone.nd rfl (.inl rfl) (pe_disp (pps_cons pe_int (pv 2) (pps_cons pe_int (pv 6) (pps_cons pe_int (pe_op op_fdiv (pv 5) pe_int) pps_nil))) rfl rfl (by intro h; cases h) (by decide)))
    (pss_cons (ps_if (pt_cmpR (op_neD hu64) (pv 3) (pe_lst pa_nil) (nomark _)) (pss_cons (ps_set (i := 8) scLdone.nd rfl (.inl rfl) (pe_ix ix_list (pv 3) pe_int (fun _ _ => rfl)))
    (pss_one (ps_expr (pe_bm PySem.F.plainAttrs_dict PySem.F.slot_dict_update PySem.F.type_dict_update mtd_update (pv 7) (pa_cons (pe_disp (pps_cons pe_int (pv 8) (pps_cons pe_int (pv 8) (pps_cons pe_int (pv 8) (pps_cons pe_int (pe_op op_mod (pe_op op_add (pv 5) (pv 8)) pe_int) (pps_cons pe_int (pe_op op_mod (pe_op op_sub (pv 5) (pv 8)) pe_int) (pps_cons pe_int (pe_op op_and (pv 5) (pv 8)) (pps_cons pe_int (pe_op op_xor (pv 5) (pv 8)) pps_nil))))))) rfl rfl (by intro h; cases h) (by decide)) pa_nil))))) pss_nil)
    (pss_one (ps_if (pt_cmp (pc_din hu (pv 1) (pv 7))) (pss_cons (ps_dput hu (pv 0) pe_str (pe_dget hu (pv 7) (pv 1) (fun _ _ => rfl)) rfl)
    (pss_one (ps_dput hu (pv 0) pe_str (pe_cmpR op_eq (pe_dget hu (pv 7) (pv 1) (fun _ _ => rfl)) pe_int (nomark _)) rfl))) pss_nil))))))))))))))), ?_⟩
  have D0 : Dn H H d m t ln lw lp ws ps x := ⟨Fr.refl, ⟨us, L⟩, hw, hp, n1, n2, n3, n4⟩
  have w0g : ∀ i, W16 (ws.getD i 0) := fun i => by
    rw [List.getD_eq_getElem?_getD]
    cases e : ws[i]? with
    | none => exact ⟨by decide, by decide⟩
    | some v => exact hws v (List.mem_of_getElem? e)
  refine ⟨_, rfl, d, _, rfl, dg (k := Sum.inr "a") hd lG_a, _, rfl, d, _, rfl, dg (k := Sum.inr "b") hd lG_b, .int x.a, .int x.b, rfl, ?_⟩
  clear hd hz
  apply joinR (I := fun G => Dn H G d m t ln lw lp ws ps (dn1 op (ps.getD 0 0) x))
  case body =>
    intro k
    refine ⟨_, rfl, (by show 3 ≤ sizeLine; decide), fun l1 n1 => ?_⟩
    have D1 := D0.same (same_upd' (o := .lst [V.int 3, V.int 9, V.int 17]) n1)
    have e1 : upd H l1 (.lst [V.int 3, V.int 9, V.int 17]) l1 = some (.lst (([3, 9, 17] : List Int).map V.int)) := upd_same
    generalize upd H l1 (.lst [V.int 3, V.int 9, V.int 17]) = G1 at *
    refine ⟨l1, _, rfl, .inl (SqL.of e1), rfl, flat_ints _, _, rfl, ?_⟩
    rw [if_neg Bool.false_ne_true, in_ints]
    refine ifB (fun h => ?_) (fun h => ?_)
    · have h := of_decide_eq_true h
      obtain ⟨q, eq, qm⟩ := put_one (n := n) (b := x.b) (sp := x.sp) (.inl h)
      rw [← hps] at eq
      obtain ⟨q0, q1⟩ := hto _ qm
      have eY : dn1 op (ps.getD 0 0) x = putWM q x.a x := by
        rw [eq]
        exact if_pos h
      rw [eY] at k
      obtain ⟨us1, L1⟩ := D1.law
      have hp1 := D1.hp
      rw [eq] at hp1
      refine ⟨_, rfl, _, rfl, lp, _, 0, _, rfl, rfl, SqL.of hp1, atI_nat (j := 0) rfl, _, rfl, d, m, t, ln, us1, x, q, x.a, rfl, L1, O, q0, q1, O.a, hsl, fun G2 us2 F2 L2 => ?_⟩
      exact k G2 (D1.go F2 L2)
    · have h := of_decide_eq_false h
      have eY : dn1 op (ps.getD 0 0) x = x := if_neg h
      rw [eY] at k
      exact k _ D1
  case key =>
  rintro G2 D2
  have O2 : Ok (dn1 op (ps.getD 0 0) x) := by
    unfold dn1
    split
    · exact O.putM O.a
    · exact O
  have s2 : (op : Int) = 15 → dn1 op (ps.getD 0 0) x = x := fun z => if_neg (by rw [z]; decide)
  generalize hy1 : dn1 op (ps.getD 0 0) x = y1 at *
  apply joinR (I := fun G => Dn H G d m t ln lw lp ws ps (dn2 op (ps.getD 0 0) y1))
  case body =>
    intro k
    obtain ⟨G3, eG⟩ : ∃ G3, G3 = G2 := ⟨_, rfl⟩
    rw [← eG] at D2 ⊢
    clear eG
    refine ⟨_, rfl, rfl, _, rfl, ifB (fun h => ?_) (fun h => ?_)⟩
    · have h := V.int.inj (of_decide_eq_true h)
      obtain ⟨q, eq, qm⟩ := put_one (n := n) (b := x.b) (sp := x.sp) (.inr h)
      rw [← hps] at eq
      obtain ⟨q0, q1⟩ := hto _ qm
      have ex := s2 h
      have eY : dn2 op (ps.getD 0 0) y1 = putWM q y1.pc y1 := by
        rw [eq]
        exact if_pos h
      rw [eY] at k
      obtain ⟨us1, L1⟩ := D2.law
      obtain ⟨sv1, hd1, hz1⟩ := L1.hd
      have hp1 := D2.hp
      rw [eq] at hp1
      refine ⟨_, rfl, _, rfl, lp, _, 0, _, rfl, rfl, SqL.of hp1, atI_nat (j := 0) rfl, _, rfl, d, _, rfl, dg (k := Sum.inr "pc") hd1 lG_pc, d, m, t, ln, us1, y1, q, y1.pc, rfl, L1, O2, q0, q1, O2.pc, (by rw [ex]; exact hsl), fun G4 us2 F2 L2 => ?_⟩
      exact k G4 (D2.go F2 L2)
    · have h : ¬ (op : Int) = 15 := fun z => of_decide_eq_false h (congrArg V.int z)
      have eY : dn2 op (ps.getD 0 0) y1 = y1 := if_neg h
      rw [eY] at k
      exact k _ D2
  case key =>
  rintro G3 D3
  generalize hy2 : dn2 op (ps.getD 0 0) y1 = y2 at *
  apply joinR (I := fun G => Dn H G d m t ln lw lp ws ps (dn3 op y2))
  case body =>
    intro k
    refine ⟨_, rfl, (by show 2 ≤ sizeLine; decide), fun l103 n103 => ?_⟩
    have D103 := D3.same (same_upd' (o := .lst [V.int 15, V.int 17]) n103)
    have e103 : upd G3 l103 (.lst [V.int 15, V.int 17]) l103 = some (.lst (([15, 17] : List Int).map V.int)) := upd_same
    generalize upd G3 l103 (.lst [V.int 15, V.int 17]) = G103 at *
    refine ⟨l103, _, rfl, .inl (SqL.of e103), rfl, flat_ints _, _, rfl, ?_⟩
    rw [if_neg Bool.false_ne_true, in_ints]
    refine ifB (fun h => ?_) (fun h => ?_)
    rotate_left
    · have h := of_decide_eq_false h
      have eY : dn3 op y2 = y2 := if_neg h
      rw [eY] at k
      exact k G103 D103
    · have h := of_decide_eq_true h
      have eY : dn3 op y2 = { y2 with sp := y2.sp - 1 } := if_pos h
      rw [eY] at k
      obtain ⟨us1, L1⟩ := D103.law
      obtain ⟨sv1, hd1, hz1⟩ := L1.hd
      refine ⟨_, rfl, d, _, rfl, dg (k := Sum.inr "sp") hd1 lG_sp, _, _, rfl, rfl, _, rfl, d, _, rfl, dpS (k := Sum.inr "sp") hd1 lP_sp, ?_⟩
      exact k _ (D103.put L1 (sv := sv1) (y1 := { y2 with sp := y2.sp - 1 }) hz1 rfl rfl rfl)
  case key =>
  rintro G4 D4
  generalize hy3 : dn3 op y2 = y3 at *
  apply joinR (I := fun G => Dn H G d m t ln lw lp ws ps (dn4 op ws.length y3))
  case body =>
    intro k
    refine ⟨_, rfl, (by show 3 ≤ sizeLine; decide), fun l104 n104 => ?_⟩
    have D104 := D4.same (same_upd' (o := .lst [V.int 16, V.int 18, V.int 21]) n104)
    have e104 : upd G4 l104 (.lst [V.int 16, V.int 18, V.int 21]) l104 = some (.lst (([16, 18, 21] : List Int).map V.int)) := upd_same
    generalize upd G4 l104 (.lst [V.int 16, V.int 18, V.int 21]) = G104 at *
    refine ⟨l104, _, rfl, .inl (SqL.of e104), rfl, flat_ints _, _, rfl, ?_⟩
    rw [if_neg Bool.false_ne_true, in_ints]
    refine ifB (fun h => ?_) (fun h => ?_)
    rotate_left
    · have h := of_decide_eq_false h
      have eY : dn4 op ws.length y3 = y3 := if_neg h
      rw [eY] at k
      exact k G104 D104
    · have h := of_decide_eq_true h
      have eY : dn4 op ws.length y3 = { y3 with sp := y3.sp + ws.length } := if_pos h
      rw [eY] at k
      obtain ⟨us1, L1⟩ := D104.law
      obtain ⟨sv1, hd1, hz1⟩ := L1.hd
      refine ⟨_, rfl, d, _, rfl, dg (k := Sum.inr "sp") hd1 lG_sp, _, rfl, lw, _, rfl, .inl (SqL.of D104.hw), _, _, rfl, rfl, _, rfl, d, _, rfl, dpS (k := Sum.inr "sp") hd1 lP_sp, ?_⟩
      rw [List.length_map]
      exact k _ (D104.put L1 (sv := sv1) (y1 := { y3 with sp := y3.sp + ws.length }) hz1 rfl rfl rfl)
  case key =>
  rintro G5 D5
  generalize hy4 : dn4 op ws.length y3 = y4 at *
  apply joinR (I := fun G => Dn H G d m t ln lw lp ws ps (dn5 op n x.a y4))
  case body =>
    intro k
    refine ⟨_, rfl, (by show 2 ≤ sizeLine; decide), fun l105 n105 => ?_⟩
    have D105 := D5.same (same_upd' (o := .lst [V.int 12, V.int 15]) n105)
    have e105 : upd G5 l105 (.lst [V.int 12, V.int 15]) l105 = some (.lst (([12, 15] : List Int).map V.int)) := upd_same
    generalize upd G5 l105 (.lst [V.int 12, V.int 15]) = G105 at *
    refine ⟨l105, _, rfl, .inl (SqL.of e105), rfl, flat_ints _, _, rfl, ?_⟩
    rw [if_neg Bool.false_ne_true, in_ints]
    have skip : ¬ ((op : Int) ∈ ([12, 15] : List Int) ∨ ((op : Int) = 13 ∧ y4.zero = true) ∨ ((op : Int) = 14 ∧ 32768 ≤ x.a)) → Dn H G105 d m t ln lw lp ws ps (dn5 op n x.a y4) := fun z => by
      have eY : dn5 op n x.a y4 = y4 := if_neg z
      rw [eY]
      exact D105
    have take : ((op : Int) ∈ ([12, 15] : List Int) ∨ ((op : Int) = 13 ∧ y4.zero = true) ∨ ((op : Int) = 14 ∧ 32768 ≤ x.a)) → dn5 op n x.a y4 = { y4 with pc := n } := fun z => if_pos z
    have i13 : (op : Int) = 13 → ¬ (op : Int) ∈ ([12, 15] : List Int) := fun z => by rw [z]; decide
    obtain ⟨us1, L1⟩ := D105.law
    obtain ⟨sv1, hd1, hz1⟩ := L1.hd
    refine ifB (fun h => ?_) (fun h => ?_)
    rotate_left
    · have h := of_decide_eq_false h
      refine ⟨_, rfl, rfl, _, rfl, ?_⟩
      rw [dI]
      refine ifB (fun h2 => ?_) (fun h2 => ?_)
      · have h2 := of_decide_eq_true h2
        refine ⟨_, rfl, d, _, rfl, dg (k := Sum.inr "zero") hd1 lG_zero, _, rfl, ifB (fun h3 => ?_) (fun h3 => ?_)⟩
        rotate_left
        · refine ⟨_, rfl, rfl, _, rfl, ?_⟩
          rw [dI]
          refine ifB (fun h4 => ?_) (fun h4 => ?_)
          · have h4 := of_decide_eq_true h4
            exfalso
            omega
          · exact k G105 (skip fun z => by
              rcases z with z | z | z
              · exact h z
              · rw [h3] at z
                cases z.2
              · exact of_decide_eq_false h4 z.1)
        · have eY := take (.inr (.inl ⟨h2, h3⟩))
          rw [eY] at k
          refine ⟨_, rfl, _, rfl, d, _, rfl, dpS (k := Sum.inr "pc") hd1 lP_pc, ?_⟩
          exact k _ (D105.put L1 (sv := sv1) (y1 := { y4 with pc := n }) hz1 rfl rfl rfl)
      · have h2 := of_decide_eq_false h2
        refine ⟨_, rfl, rfl, _, rfl, ?_⟩
        rw [dI]
        refine ifB (fun h4 => ?_) (fun h4 => ?_)
        · have h4 := of_decide_eq_true h4
          refine ⟨_, rfl, _, _, rfl, rfl, _, rfl, ifB (fun h5 => ?_) (fun h5 => ?_)⟩
          · have eY := take (.inr (.inr ⟨h4, of_decide_eq_true h5⟩))
            rw [eY] at k
            refine ⟨_, rfl, _, rfl, d, _, rfl, dpS (k := Sum.inr "pc") hd1 lP_pc, ?_⟩
            exact k _ (D105.put L1 (sv := sv1) (y1 := { y4 with pc := n }) hz1 rfl rfl rfl)
          · exact k _ (skip fun z => by
              rcases z with z | z | z
              · exact h z
              · exact h2 z.1
              · exact of_decide_eq_false h5 z.2)
        · exact k _ (skip fun z => by
            rcases z with z | z | z
            · exact h z
            · exact h2 z.1
            · exact of_decide_eq_false h4 z.1)
    · have h := of_decide_eq_true h
      have eY := take (.inl h)
      rw [eY] at k
      refine ⟨_, rfl, _, rfl, d, _, rfl, dpS (k := Sum.inr "pc") hd1 lP_pc, ?_⟩
      exact k _ (D105.put L1 (sv := sv1) (y1 := { y4 with pc := n }) hz1 rfl rfl rfl)
  case key =>
  rintro G6 D6
  generalize hy5 : dn5 op n x.a y4 = y5 at *
  apply joinR (I := fun G => Dn H G d m t ln lw lp ws ps (dn6 op (ws.getLastD 0) y5))
  case body =>
    intro k
    refine ⟨_, rfl, (by show 2 ≤ sizeLine; decide), fun l106 n106 => ?_⟩
    have D106 := D6.same (same_upd' (o := .lst [V.int 16, V.int 21]) n106)
    have e106 : upd G6 l106 (.lst [V.int 16, V.int 21]) l106 = some (.lst (([16, 21] : List Int).map V.int)) := upd_same
    generalize upd G6 l106 (.lst [V.int 16, V.int 21]) = G106 at *
    refine ⟨l106, _, rfl, .inl (SqL.of e106), rfl, flat_ints _, _, rfl, ?_⟩
    rw [if_neg Bool.false_ne_true, in_ints]
    refine ifB (fun h => ?_) (fun h => ?_)
    rotate_left
    · have h := of_decide_eq_false h
      have eY : dn6 op (ws.getLastD 0) y5 = y5 := if_neg h
      rw [eY] at k
      exact k G106 D106
    · have h := of_decide_eq_true h
      have eY : dn6 op (ws.getLastD 0) y5 = { y5 with pc := ws.getLastD 0 } := if_pos h
      rw [eY] at k
      obtain ⟨us1, L1⟩ := D106.law
      obtain ⟨sv1, hd1, hz1⟩ := L1.hd
      have hat : atI (ws.map V.int) (-1) = some (.int (ws.getLastD 0)) := by
        have e : op = 16 ∨ op = 21 := by
          simp only [List.mem_cons, List.not_mem_nil, or_false] at h
          omega
        rcases e with e | e
        · rw [e] at hwl
          obtain ⟨v, rfl⟩ := len1 hwl
          rfl
        · rw [e] at hwl
          obtain ⟨v, v2, rfl⟩ := len2 hwl
          rfl
      refine ⟨_, rfl, _, rfl, lw, _, _, _, rfl, rfl, SqL.of D106.hw, hat, _, rfl, d, _, rfl, dpS (k := Sum.inr "pc") hd1 lP_pc, ?_⟩
      exact k _ (D106.put L1 (sv := sv1) (y1 := { y5 with pc := ws.getLastD 0 }) hz1 rfl rfl rfl)
  case key =>
  rintro G7 D7
  generalize hy6 : dn6 op (ws.getLastD 0) y5 = y6 at *
  apply joinR (I := fun G => Dn H G d m t ln lw lp ws ps (dn7 op (ws.getD 0 0) y6))
  case body =>
    intro k
    obtain ⟨G107, eG⟩ : ∃ G107, G107 = G7 := ⟨_, rfl⟩
    have D107 := D7
    rw [← eG] at D107 ⊢
    clear eG
    refine ⟨_, rfl, rfl, _, rfl, ?_⟩
    rw [dI]
    refine ifB (fun h => ?_) (fun h => ?_)
    rotate_left
    · have h := of_decide_eq_false h
      have eY : dn7 op (ws.getD 0 0) y6 = y6 := if_neg h
      rw [eY] at k
      exact k G107 D107
    · have h := of_decide_eq_true h
      have eY : dn7 op (ws.getD 0 0) y6 = { y6 with zero := decide (ws.getD 0 0 % 2 = 1), lets := true } := if_pos h
      rw [eY] at k
      obtain ⟨v, v2, ews⟩ : ∃ v v2, ws = [v, v2] := by
        have e : op = 21 := by omega
        rw [e] at hwl
        exact len2 hwl
      obtain ⟨us1, L1⟩ := D107.law
      obtain ⟨sv1, hd1, hz1⟩ := L1.hd
      refine ⟨_, rfl, .inr (.inr (.inl ⟨rfl, .inl ⟨_, hd1⟩⟩)), ?_⟩
      intro l1 nl1
      have D1 := D107.same (same_upd' (o := .dK []) nl1)
      have hd2 := same_upd' (o := .dK []) nl1 _ _ hd1
      have hl1 : upd G107 l1 (.dK []) l1 = some (.dK []) := upd_same
      have fl1 : l1 ≠ d := fun z => by rw [z, hd1] at nl1; cases nl1
      have hz2 := hz1.mono fun t xs e => same_upd' (o := .dK []) nl1 _ _ e
      have hw2 := D1.hw
      rw [ews] at hw2
      refine ⟨_, rfl, lw, _, 0, _, rfl, rfl, SqL.of hw2, atI_nat (j := 0) rfl, _, _, rfl, rfl, (by show (0 : Int) < 2; decide), rfl, ?_⟩
      refine ⟨hl1, [(Sum.inr "zero", .bl (decide (V.int (v % 2) = V.int 1))), (Sum.inr "lets", .bl true)], rfl, (by show 2 ≤ 15; decide), ?_⟩
      have em : mergeK [] [((Sum.inr "zero" : Key), V.bl (decide (V.int (v % 2) = V.int 1))), (Sum.inr "lets", .bl true)] = [((Sum.inr "zero" : Key), V.bl (decide (V.int (v % 2) = V.int 1))), (Sum.inr "lets", .bl true)] := by kernel_rfl
      rw [em, upd_upd]
      have D2 := D107.same (same_upd' (o := .dK [((Sum.inr "zero" : Key), V.bl (decide (V.int (v % 2) = V.int 1))), (Sum.inr "lets", .bl true)]) nl1)
      have hd3 := same_upd' (o := .dK [((Sum.inr "zero" : Key), V.bl (decide (V.int (v % 2) = V.int 1))), (Sum.inr "lets", .bl true)]) nl1 _ _ hd1
      have hz3 := hz1.mono fun t xs e => same_upd' (o := .dK [((Sum.inr "zero" : Key), V.bl (decide (V.int (v % 2) = V.int 1))), (Sum.inr "lets", .bl true)]) nl1 _ _ e
      have L3 := L1.same (same_upd' (o := .dK [((Sum.inr "zero" : Key), V.bl (decide (V.int (v % 2) = V.int 1))), (Sum.inr "lets", .bl true)]) nl1)
      refine ⟨d, l1, _, _, rfl, rfl, fl1.symm, hd3, upd_same, (by show 12 + 2 ≤ sizeLine; decide), ?_⟩
      have em2 : mergeK (stD m t ln y6 sv1) [((Sum.inr "zero" : Key), V.bl (decide (V.int (v % 2) = V.int 1))), (Sum.inr "lets", .bl true)] = stD m t ln { y6 with zero := decide (V.int (v % 2) = V.int 1), lets := true } sv1 := by kernel_rfl
      rw [em2]
      have e3 : ({ y6 with zero := decide (ws.getD 0 0 % 2 = 1), lets := true } : Bd) = { y6 with zero := decide (V.int (v % 2) = V.int 1), lets := true } := by
        rw [dI, ews]
        rfl
      rw [e3] at k
      exact k _ (D2.put L3 (sv := sv1) (y1 := { y6 with zero := decide (V.int (v % 2) = V.int 1), lets := true }) hz3 rfl rfl rfl)
  case key =>
  rintro G8 D8
  generalize hy7 : dn7 op (ws.getD 0 0) y6 = y7 at *
  apply joinR (I := fun G => Dn H G d m t ln lw lp ws ps (dn8 op y7))
  case body =>
    intro k
    obtain ⟨G108, eG⟩ : ∃ G108, G108 = G8 := ⟨_, rfl⟩
    have D108 := D8
    rw [← eG] at D108 ⊢
    clear eG
    refine ⟨_, rfl, rfl, _, rfl, ?_⟩
    rw [dI]
    refine ifB (fun h => ?_) (fun h => ?_)
    rotate_left
    · have h := of_decide_eq_false h
      have eY : dn8 op y7 = y7 := if_neg h
      rw [eY] at k
      exact k G108 D108
    · have h := of_decide_eq_true h
      have eY : dn8 op y7 = { y7 with asleep := true } := if_pos h
      rw [eY] at k
      obtain ⟨us1, L1⟩ := D108.law
      obtain ⟨sv1, hd1, hz1⟩ := L1.hd
      refine ⟨_, rfl, d, _, rfl, dpS (k := Sum.inr "asleep") hd1 lP_asleep, ?_⟩
      exact k _ (D108.put L1 (sv := sv1) (y1 := { y7 with asleep := true }) hz1 rfl rfl rfl)
  case key =>
  rintro G9 D9
  generalize hy8 : dn8 op y7 = y8 at *
  apply joinR (I := fun G => Dn H G d m t ln lw lp ws ps (dn9 op n y8))
  case body =>
    intro k
    obtain ⟨G109, eG⟩ : ∃ G109, G109 = G9 := ⟨_, rfl⟩
    have D109 := D9
    rw [← eG] at D109 ⊢
    clear eG
    refine ⟨_, rfl, rfl, _, rfl, ?_⟩
    rw [dI]
    refine ifB (fun h => ?_) (fun h => ?_)
    rotate_left
    · have h := of_decide_eq_false h
      have eY : dn9 op n y8 = y8 := if_neg h
      rw [eY] at k
      exact k G109 D109
    · have h := of_decide_eq_true h
      have eY : dn9 op n y8 = { y8 with lets := decide (n % 2 = 1) } := if_pos h
      rw [eY] at k
      obtain ⟨us1, L1⟩ := D109.law
      obtain ⟨sv1, hd1, hz1⟩ := L1.hd
      refine ⟨_, rfl, _, _, rfl, rfl, (by show (0 : Int) < 2; decide), rfl, _, rfl, d, _, rfl, dpS (k := Sum.inr "lets") hd1 lP_lets, ?_⟩
      rw [dI]
      exact k _ (D109.put L1 (sv := sv1) (y1 := { y8 with lets := decide (n % 2 = 1) }) hz1 rfl rfl rfl)
  case key =>
  rintro G10 D10
  generalize hy9 : dn9 op n y8 = y9 at *
  apply joinR (I := fun G => Dn H G d m t ln lw lp ws ps (dn10 op x.a y9))
  case body =>
    intro k
    refine ⟨_, rfl, (by show 2 ≤ sizeLine; decide), fun l110 n110 => ?_⟩
    have D110 := D10.same (same_upd' (o := .lst [V.int 10, V.int 11]) n110)
    have e110 : upd G10 l110 (.lst [V.int 10, V.int 11]) l110 = some (.lst (([10, 11] : List Int).map V.int)) := upd_same
    generalize upd G10 l110 (.lst [V.int 10, V.int 11]) = G110 at *
    refine ⟨l110, _, rfl, .inl (SqL.of e110), rfl, flat_ints _, _, rfl, ?_⟩
    rw [if_neg Bool.false_ne_true, in_ints]
    refine ifB (fun h => ?_) (fun h => ?_)
    rotate_left
    · have h := of_decide_eq_false h
      have eY : dn10 op x.a y9 = y9 := if_neg h
      rw [eY] at k
      exact k G110 D110
    · have h := of_decide_eq_true h
      have eY : dn10 op x.a y9 = { y9 with b := x.a } := if_pos h
      rw [eY] at k
      obtain ⟨us1, L1⟩ := D110.law
      obtain ⟨sv1, hd1, hz1⟩ := L1.hd
      refine ⟨_, rfl, _, rfl, d, _, rfl, dpS (k := Sum.inr "b") hd1 lP_b, ?_⟩
      exact k _ (D110.put L1 (sv := sv1) (y1 := { y9 with b := x.a }) hz1 rfl rfl rfl)
  case key =>
  rintro G11 D11
  generalize hy10 : dn10 op x.a y9 = y10 at *
  have fin : ∀ G, Dn H G d m t ln lw lp ws ps (dn11 (gvM op n x.a x.b ws) y10) → Q .non G := fun G D => by
    obtain ⟨us1, L1⟩ := D.law
    refine kk _ us1 D.fr ?_
    have e := done_eq (n := n) (x := x) o1 o2 hwl hps
    rw [hy1, hy2, hy3, hy4, hy5, hy6, hy7, hy8, hy9, hy10] at e
    rw [← e]
    exact L1
  intro g1 ng1
  refine ⟨_, rfl, _, rfl, _, rfl, _, _, rfl, rfl, ⟨by decide, by decide⟩, ?_⟩
  refine ⟨upd_same, gv1 n x.a x.b, rfl, (by show 3 ≤ 15; decide), ?_⟩
  have em : mergeK [] (gv1 n x.a x.b) = gv1 n x.a x.b := by kernel_rfl
  rw [em, upd_upd]
  have Dg := D11.same (same_upd' (o := .dK (gv1 n x.a x.b)) ng1)
  have hg : upd G11 g1 (.dK (gv1 n x.a x.b)) g1 = some (.dK (gv1 n x.a x.b)) := upd_same
  have nd : g1 ≠ d := fun z => by
    obtain ⟨us1, L1⟩ := D11.law
    obtain ⟨sv1, hd1, hz1⟩ := L1.hd
    rw [z, hd1] at ng1
    cases ng1
  have gln : ln ≠ g1 := fun z => by
    obtain ⟨us1, L1⟩ := D11.law
    have := L1.hl
    rw [z, ng1] at this
    cases this
  have hnew : ∀ o, H g1 = some o → False := fun o e => by
    obtain ⟨us1, L1⟩ := D11.law
    by_cases z1 : g1 = m
    · have := L1.hm
      rw [← z1, ng1] at this
      cases this
    · by_cases z2 : g1 = t
      · have := L1.ht
        rw [← z2, ng1] at this
        cases this
      · have := D11.fr _ _ nd z1 z2 e
        rw [ng1] at this
        cases this
  generalize upd G11 g1 (.dK (gv1 n x.a x.b)) = Gg at *
  refine ⟨_, rfl, Nat.zero_le _, fun e0 ne0 => ?_⟩
  have De := Dg.same (same_upd' (o := .lst []) ne0)
  have hge := same_upd' (o := .lst []) ne0 _ _ hg
  have he0 : upd Gg e0 (.lst []) e0 = some (.lst []) := upd_same
  clear hg Dg
  generalize upd Gg e0 (.lst []) = Gz at *
  have hg := hge
  have Dz := De
  clear hge De
  refine ⟨_, _, .lst (SqL.of Dz.hw) (dp_ints ws), .lst (SqL.of he0) .nil, shaped_ints ws, shaped_ints [], _, rfl, ?_⟩
  cases ews : ws with
  | nil =>
    have hnR : nR op = 0 := by rw [← hwl, ews]; rfl
    rw [← ews]
    have eq0 : (PyData.eqv (.list (ws.map PyData.int)) (.list ([].map PyData.int))) = true := by rw [ews]; rfl
    show if (!(PyData.eqv (.list (ws.map PyData.int)) (.list ([].map PyData.int)))) = true then _ else _
    rw [eq0]
    refine ifB (fun h => by cases h) (fun _ => ?_)
    refine ⟨_, rfl, _, rfl, g1, _, rfl, DGet.k (k := Sum.inl (op : Int)) hg, _, rfl, ?_⟩
    have hat : valV (gv1 n x.a x.b) (Sum.inl (op : Int)) = (gvM op n x.a x.b ws).map V.int := by
      rw [ews]
      exact gv1_at o2 (n := n) (a := x.a) (b := x.b) hnR
    obtain ⟨us1, L1⟩ := Dz.law
    obtain ⟨sv1, hd1, hz1⟩ := L1.hd
    have gd : g1 ≠ d := fun z => nd z
    rw [hat]
    cases eg : gvM op n x.a x.b ws with
    | none =>
      rw [eg] at fin
      exact fin _ Dz
    | some v =>
      rw [eg] at fin hat
      refine ⟨_, rfl, _, rfl, g1, _, rfl, dg (k := Sum.inl (op : Int)) hg hat, _, rfl, d, _, rfl, dpS (k := Sum.inr "a") hd1 lP_a, ?_⟩
      have L2 := L1.dict (y := { y10 with a := v }) hz1 rfl rfl rfl
      have D2 := Dz.put L1 (sv := sv1) (y1 := { y10 with a := v }) hz1 rfl rfl rfl
      have hg2 : upd Gz d (.dK (stD m t ln { y10 with a := v } sv1)) g1 = some (.dK (gv1 n x.a x.b)) := by
        rw [upd_ne gd]
        exact hg
      generalize upd Gz d (.dK (stD m t ln { y10 with a := v } sv1)) = Gy at *
      obtain ⟨sv2, hd2, hz2⟩ := L2.hd
      refine ⟨_, rfl, _, rfl, g1, _, rfl, dg (k := Sum.inl (op : Int)) hg2 hat, rfl, _, rfl, d, _, rfl, dpS (k := Sum.inr "zero") hd2 lP_zero, ?_⟩
      rw [dI]
      exact fin _ (D2.put L2 (sv := sv2) (y1 := giveM v y10) hz2 rfl rfl rfl)
  | cons w0 wr =>
    have hnR : nR op ≠ 0 := by rw [← hwl, ews]; exact Nat.succ_ne_zero _
    rw [← ews]
    have eq0 : (PyData.eqv (.list (ws.map PyData.int)) (.list ([].map PyData.int))) = false := by rw [ews]; rfl
    show if (!(PyData.eqv (.list (ws.map PyData.int)) (.list ([].map PyData.int)))) = true then _ else _
    rw [eq0]
    refine ifB (fun _ => ?_) (fun h => by cases h)
    have hwz := Dz.hw
    rw [ews] at hwz
    refine ⟨_, rfl, lw, _, 0, _, rfl, rfl, SqL.of hwz, atI_nat (j := 0) rfl, ?_⟩
    refine ⟨_, rfl, .inr (.inr (.inl ⟨rfl, .inl ⟨_, hg⟩⟩)), ?_⟩
    intro u1 nu1
    refine ⟨_, rfl, _, rfl, _, rfl, _, rfl, _, rfl, _, _, rfl, rfl, _, _, rfl, rfl, (by show (0 : Int) < 65536; decide), _, rfl, _, rfl, _, _, rfl, rfl, _, _, rfl, rfl, (by show (0 : Int) < 65536; decide), _, rfl, _, rfl, _, _, rfl, rfl, _, rfl, _, rfl, _, _, rfl, rfl, ?_⟩
    refine ⟨upd_same, [(Sum.inl 2, .int w0), (Sum.inl 8, .int w0), (Sum.inl 18, .int w0), (Sum.inl 4, .int ((x.a + w0) % 65536)), (Sum.inl 5, .int ((x.a - w0) % 65536)), (Sum.inl 6, .int (Builtin.bitAnd x.a w0)), (Sum.inl 7, .int (Builtin.bitXor x.a w0))], rfl, (by show 7 ≤ 15; decide), ?_⟩
    have em7 : mergeK [] [((Sum.inl 2 : Key), V.int w0), (Sum.inl 8, .int w0), (Sum.inl 18, .int w0), (Sum.inl 4, .int ((x.a + w0) % 65536)), (Sum.inl 5, .int ((x.a - w0) % 65536)), (Sum.inl 6, .int (Builtin.bitAnd x.a w0)), (Sum.inl 7, .int (Builtin.bitXor x.a w0))] = [((Sum.inl 2 : Key), V.int w0), (Sum.inl 8, .int w0), (Sum.inl 18, .int w0), (Sum.inl 4, .int ((x.a + w0) % 65536)), (Sum.inl 5, .int ((x.a - w0) % 65536)), (Sum.inl 6, .int (Builtin.bitAnd x.a w0)), (Sum.inl 7, .int (Builtin.bitXor x.a w0))] := by kernel_rfl
    rw [em7, upd_upd]
    generalize eu : ([((Sum.inl 2 : Key), V.int w0), (Sum.inl 8, .int w0), (Sum.inl 18, .int w0), (Sum.inl 4, .int ((x.a + w0) % 65536)), (Sum.inl 5, .int ((x.a - w0) % 65536)), (Sum.inl 6, .int (Builtin.bitAnd x.a w0)), (Sum.inl 7, .int (Builtin.bitXor x.a w0))] : List (Key × V)) = kv7
    have Du := Dz.same (same_upd' (o := .dK kv7) nu1)
    have hgu := same_upd' (o := .dK kv7) nu1 _ _ hg
    have hu1 : upd Gz u1 (.dK kv7) u1 = some (.dK kv7) := upd_same
    have gu : g1 ≠ u1 := ne_of_none hg nu1
    clear hg Dz
    generalize upd Gz u1 (.dK kv7) = Gu at *
    refine ⟨g1, u1, _, _, rfl, rfl, gu, hgu, hu1, (by rw [← eu]; show 3 + 7 ≤ sizeLine; decide), ?_⟩
    have em8 : mergeK (gv1 n x.a x.b) kv7 = gv2 n x.a x.b w0 := by rw [← eu]; kernel_rfl
    rw [em8]
    obtain ⟨usu, Lu⟩ := Du.law
    obtain ⟨svu, hdu, hzu⟩ := Lu.hd
    have kl : ∀ b o, b ≠ g1 → Gu b = some o → upd Gu g1 (.dK (gv2 n x.a x.b w0)) b = some o := fun b o hb e => by rw [upd_ne hb]; exact e
    have Dz : Dn H (upd Gu g1 (.dK (gv2 n x.a x.b w0))) d m t ln lw lp ws ps y10 := by
      have nH : H g1 = none := by
        cases eH : H g1 with
        | none => rfl
        | some o => exact absurd eH (by
            intro eH
            have := hnew o eH
            exact this)
      exact {
        fr := fun b o a1 a2 a3 e => kl b o (fun z => by rw [z, nH] at e; cases e) (Du.fr b o a1 a2 a3 e)
        law := ⟨usu, {
          hd := ⟨svu, kl _ _ nd.symm hdu, hzu.mono fun t xs e => kl _ _ (ne_of e hgu (by intro z; cases z)) e⟩
          hm := kl _ _ (ne_of Lu.hm hgu (by intro z; cases z)) Lu.hm
          ht := kl _ _ (ne_of Lu.ht hgu (by intro z; cases z)) Lu.ht
          hl := kl _ _ gln Lu.hl
          us := Lu.us.mono fun t xs e => kl _ _ (ne_of e hgu (by intro z; cases z)) e
          lm := Lu.lm
          mt := Lu.mt
          dl := Lu.dl }⟩
        hw := kl _ _ (ne_of Du.hw hgu (by intro z; cases z)) Du.hw
        hp := kl _ _ (ne_of Du.hp hgu (by intro z; cases z)) Du.hp
        n1 := n1
        n2 := n2
        n3 := n3
        n4 := n4 }
    have hg : upd Gu g1 (.dK (gv2 n x.a x.b w0)) g1 = some (.dK (gv2 n x.a x.b w0)) := upd_same
    generalize upd Gu g1 (.dK (gv2 n x.a x.b w0)) = Gz at *
    refine ⟨_, rfl, _, rfl, g1, _, rfl, DGet.k (k := Sum.inl (op : Int)) hg, _, rfl, ?_⟩
    have hat : valV (gv2 n x.a x.b w0) (Sum.inl (op : Int)) = (gvM op n x.a x.b ws).map V.int := by
      rw [ews]
      exact gv2_at o2 (n := n) (a := x.a) (b := x.b) (w0 := w0) (wr := wr) hnR
    obtain ⟨us1, L1⟩ := Dz.law
    obtain ⟨sv1, hd1, hz1⟩ := L1.hd
    have gd : g1 ≠ d := fun z => nd z
    rw [hat]
    cases eg : gvM op n x.a x.b ws with
    | none =>
      rw [eg] at fin
      exact fin _ Dz
    | some v =>
      rw [eg] at fin hat
      refine ⟨_, rfl, _, rfl, g1, _, rfl, dg (k := Sum.inl (op : Int)) hg hat, _, rfl, d, _, rfl, dpS (k := Sum.inr "a") hd1 lP_a, ?_⟩
      have L2 := L1.dict (y := { y10 with a := v }) hz1 rfl rfl rfl
      have D2 := Dz.put L1 (sv := sv1) (y1 := { y10 with a := v }) hz1 rfl rfl rfl
      have hg2 : upd Gz d (.dK (stD m t ln { y10 with a := v } sv1)) g1 = some (.dK (gv2 n x.a x.b w0)) := by
        rw [upd_ne gd]
        exact hg
      generalize upd Gz d (.dK (stD m t ln { y10 with a := v } sv1)) = Gy at *
      obtain ⟨sv2, hd2, hz2⟩ := L2.hd
      refine ⟨_, rfl, _, rfl, g1, _, rfl, dg (k := Sum.inl (op : Int)) hg2 hat, rfl, _, rfl, d, _, rfl, dpS (k := Sum.inr "zero") hd2 lP_zero, ?_⟩
      rw [dI]
      exact fin _ (D2.put L2 (sv := sv2) (y1 := giveM v y10) hz2 rfl rfl rfl)
end
end Bh

/-! The law's own board: deeds and turns. -/
namespace Bh
open PySem PySem.Spec PyProof.Rows L2
def rdsL (op : Nat) (n b sp : Int) : List Int := ((touM op n b sp).filter fun t => !t.1).map (fun t => t.2)
def putL (op : Nat) (n b sp : Int) : List Int := ((touM op n b sp).filter fun t => t.1).map (fun t => t.2)
theorem allT_tou {op : Nat} (h : op < 23) (n b sp : Int) : allT (rdsL op n b sp) (putL op n b sp) = touM op n b sp := by
  match op, h with
  | 0, _ => rfl
  | 1, _ => rfl
  | 2, _ => rfl
  | 3, _ => rfl
  | 4, _ => rfl
  | 5, _ => rfl
  | 6, _ => rfl
  | 7, _ => rfl
  | 8, _ => rfl
  | 9, _ => rfl
  | 10, _ => rfl
  | 11, _ => rfl
  | 12, _ => rfl
  | 13, _ => rfl
  | 14, _ => rfl
  | 15, _ => rfl
  | 16, _ => rfl
  | 17, _ => rfl
  | 18, _ => rfl
  | 19, _ => rfl
  | 20, _ => rfl
  | 21, _ => rfl
  | 22, _ => rfl
  | n + 23, h => omega
theorem tou_len {op : Nat} (h : op < 23) (n b sp : Int) : (rdsL op n b sp).length + (putL op n b sp).length = (touM op n b sp).length := by
  match op, h with
  | 0, _ => rfl
  | 1, _ => rfl
  | 2, _ => rfl
  | 3, _ => rfl
  | 4, _ => rfl
  | 5, _ => rfl
  | 6, _ => rfl
  | 7, _ => rfl
  | 8, _ => rfl
  | 9, _ => rfl
  | 10, _ => rfl
  | 11, _ => rfl
  | 12, _ => rfl
  | 13, _ => rfl
  | 14, _ => rfl
  | 15, _ => rfl
  | 16, _ => rfl
  | 17, _ => rfl
  | 18, _ => rfl
  | 19, _ => rfl
  | 20, _ => rfl
  | 21, _ => rfl
  | 22, _ => rfl
  | n + 23, h => omega
theorem reads_map {op : Nat} (m : List Int) (n b sp : Int) : readsM m (touM op n b sp) = (rdsL op n b sp).map (rd m) := by
  unfold readsM rdsL
  rw [List.map_map]
  rfl
def rd8 (l2 l4 l5 l6 l7 l8 l16 l18 : Addr) : List (Key × V) := [(Sum.inl 2, .ref l2), (Sum.inl 4, .ref l4), (Sum.inl 5, .ref l5), (Sum.inl 6, .ref l6), (Sum.inl 7, .ref l7), (Sum.inl 8, .ref l8), (Sum.inl 16, .ref l16), (Sum.inl 18, .ref l18)]
theorem rd8_at {op : Nat} (h : op < 23) {l2 l4 l5 l6 l7 l8 l16 l18 : Addr} : valV (rd8 l2 l4 l5 l6 l7 l8 l16 l18) (Sum.inl (op : Int)) = match op with
  | 2 => some (.ref l2)
  | 4 => some (.ref l4)
  | 5 => some (.ref l5)
  | 6 => some (.ref l6)
  | 7 => some (.ref l7)
  | 8 => some (.ref l8)
  | 16 => some (.ref l16)
  | 18 => some (.ref l18)
  | _ => none := by
  match op, h with
  | 0, _ => kernel_rfl
  | 1, _ => kernel_rfl
  | 2, _ => kernel_rfl
  | 3, _ => kernel_rfl
  | 4, _ => kernel_rfl
  | 5, _ => kernel_rfl
  | 6, _ => kernel_rfl
  | 7, _ => kernel_rfl
  | 8, _ => kernel_rfl
  | 9, _ => kernel_rfl
  | 10, _ => kernel_rfl
  | 11, _ => kernel_rfl
  | 12, _ => kernel_rfl
  | 13, _ => kernel_rfl
  | 14, _ => kernel_rfl
  | 15, _ => kernel_rfl
  | 16, _ => kernel_rfl
  | 17, _ => kernel_rfl
  | 18, _ => kernel_rfl
  | 19, _ => kernel_rfl
  | 20, _ => kernel_rfl
  | 21, _ => kernel_rfl
  | 22, _ => kernel_rfl
  | n + 23, h => omega
def pu4 (l3 l9 l15 l17 : Addr) : List (Key × V) := [(Sum.inl 3, .ref l3), (Sum.inl 9, .ref l9), (Sum.inl 15, .ref l15), (Sum.inl 17, .ref l17)]
theorem pu4_at {op : Nat} (h : op < 23) {l3 l9 l15 l17 : Addr} : valV (pu4 l3 l9 l15 l17) (Sum.inl (op : Int)) = match op with
  | 3 => some (.ref l3)
  | 9 => some (.ref l9)
  | 15 => some (.ref l15)
  | 17 => some (.ref l17)
  | _ => none := by
  match op, h with
  | 0, _ => kernel_rfl
  | 1, _ => kernel_rfl
  | 2, _ => kernel_rfl
  | 3, _ => kernel_rfl
  | 4, _ => kernel_rfl
  | 5, _ => kernel_rfl
  | 6, _ => kernel_rfl
  | 7, _ => kernel_rfl
  | 8, _ => kernel_rfl
  | 9, _ => kernel_rfl
  | 10, _ => kernel_rfl
  | 11, _ => kernel_rfl
  | 12, _ => kernel_rfl
  | 13, _ => kernel_rfl
  | 14, _ => kernel_rfl
  | 15, _ => kernel_rfl
  | 16, _ => kernel_rfl
  | 17, _ => kernel_rfl
  | 18, _ => kernel_rfl
  | 19, _ => kernel_rfl
  | 20, _ => kernel_rfl
  | 21, _ => kernel_rfl
  | 22, _ => kernel_rfl
  | n + 23, h => omega
theorem kMN {p q : Addr} (c : Bool) : atI [V.ref p, V.ref q] (if c = true then 1 else 0) = some (.ref (if c = true then q else p)) := by cases c <;> rfl
theorem rd8_get {op : Nat} (h : op < 23) {G : Hp} {n b sp : Int} {l2 l4 l5 l6 l7 l8 l16 l18 e : Addr} (h2 : G l2 = some (.lst [.int n])) (h4 : G l4 = some (.lst [.int n])) (h5 : G l5 = some (.lst [.int n])) (h6 : G l6 = some (.lst [.int n])) (h7 : G l7 = some (.lst [.int n])) (h8 : G l8 = some (.lst [.int (n + b)])) (h16 : G l16 = some (.lst [.int (sp + 1)])) (h18 : G l18 = some (.lst [.int (sp + 1)])) (he : G e = some (.lst [])) {t : Addr} (c2 : l2 ≠ t) (c4 : l4 ≠ t) (c5 : l5 ≠ t) (c6 : l6 ≠ t) (c7 : l7 ≠ t) (c8 : l8 ≠ t) (c16 : l16 ≠ t) (c18 : l18 ≠ t) (ce : e ≠ t) :
    ∃ a, (valV (rd8 l2 l4 l5 l6 l7 l8 l16 l18) (Sum.inl (op : Int))).getD (.ref e) = .ref a ∧ G a = some (.lst ((if op = 21 then [] else rdsL op n b sp).map V.int)) ∧ a ≠ t := by
  rw [rd8_at h]
  match op, h with
  | 0, _ => exact ⟨e, rfl, he, ce⟩
  | 1, _ => exact ⟨e, rfl, he, ce⟩
  | 2, _ => exact ⟨l2, rfl, h2, c2⟩
  | 3, _ => exact ⟨e, rfl, he, ce⟩
  | 4, _ => exact ⟨l4, rfl, h4, c4⟩
  | 5, _ => exact ⟨l5, rfl, h5, c5⟩
  | 6, _ => exact ⟨l6, rfl, h6, c6⟩
  | 7, _ => exact ⟨l7, rfl, h7, c7⟩
  | 8, _ => exact ⟨l8, rfl, h8, c8⟩
  | 9, _ => exact ⟨e, rfl, he, ce⟩
  | 10, _ => exact ⟨e, rfl, he, ce⟩
  | 11, _ => exact ⟨e, rfl, he, ce⟩
  | 12, _ => exact ⟨e, rfl, he, ce⟩
  | 13, _ => exact ⟨e, rfl, he, ce⟩
  | 14, _ => exact ⟨e, rfl, he, ce⟩
  | 15, _ => exact ⟨e, rfl, he, ce⟩
  | 16, _ => exact ⟨l16, rfl, h16, c16⟩
  | 17, _ => exact ⟨e, rfl, he, ce⟩
  | 18, _ => exact ⟨l18, rfl, h18, c18⟩
  | 19, _ => exact ⟨e, rfl, he, ce⟩
  | 20, _ => exact ⟨e, rfl, he, ce⟩
  | 21, _ => exact ⟨e, rfl, he, ce⟩
  | 22, _ => exact ⟨e, rfl, he, ce⟩
  | n + 23, h => omega
theorem pu4_get {op : Nat} (h : op < 23) {G : Hp} {n b sp : Int} {l3 l9 l15 l17 e : Addr} (h3 : G l3 = some (.lst [.int n])) (h9 : G l9 = some (.lst [.int (n + b)])) (h15 : G l15 = some (.lst [.int sp])) (h17 : G l17 = some (.lst [.int sp])) (he : G e = some (.lst [])) {t : Addr} (c3 : l3 ≠ t) (c9 : l9 ≠ t) (c15 : l15 ≠ t) (c17 : l17 ≠ t) (ce : e ≠ t) :
    ∃ a, (valV (pu4 l3 l9 l15 l17) (Sum.inl (op : Int))).getD (.ref e) = .ref a ∧ G a = some (.lst ((putL op n b sp).map V.int)) ∧ a ≠ t := by
  rw [pu4_at h]
  match op, h with
  | 0, _ => exact ⟨e, rfl, he, ce⟩
  | 1, _ => exact ⟨e, rfl, he, ce⟩
  | 2, _ => exact ⟨e, rfl, he, ce⟩
  | 3, _ => exact ⟨l3, rfl, h3, c3⟩
  | 4, _ => exact ⟨e, rfl, he, ce⟩
  | 5, _ => exact ⟨e, rfl, he, ce⟩
  | 6, _ => exact ⟨e, rfl, he, ce⟩
  | 7, _ => exact ⟨e, rfl, he, ce⟩
  | 8, _ => exact ⟨e, rfl, he, ce⟩
  | 9, _ => exact ⟨l9, rfl, h9, c9⟩
  | 10, _ => exact ⟨e, rfl, he, ce⟩
  | 11, _ => exact ⟨e, rfl, he, ce⟩
  | 12, _ => exact ⟨e, rfl, he, ce⟩
  | 13, _ => exact ⟨e, rfl, he, ce⟩
  | 14, _ => exact ⟨e, rfl, he, ce⟩
  | 15, _ => exact ⟨l15, rfl, h15, c15⟩
  | 16, _ => exact ⟨e, rfl, he, ce⟩
  | 17, _ => exact ⟨l17, rfl, h17, c17⟩
  | 18, _ => exact ⟨e, rfl, he, ce⟩
  | 19, _ => exact ⟨e, rfl, he, ce⟩
  | 20, _ => exact ⟨e, rfl, he, ce⟩
  | 21, _ => exact ⟨e, rfl, he, ce⟩
  | 22, _ => exact ⟨e, rfl, he, ce⟩
  | n + 23, h => omega
/-- a list of the law's is none of its board's -/
theorem nlst {G : Hp} {a q : Addr} {xs ys : List V} (h1 : G a = some (.lst xs)) (h2 : G q = some (.lst ys)) (h : xs ≠ ys) : a ≠ q := fun z => by
  rw [z, h2] at h1
  exact h (HO.lst.inj (Option.some.inj h1)).symm
section
variable {P : Program} {w : World} {K : PySem.W.Frag} {mg : Str → Option Value} {base : Heap} {CB CM : Addr}
abbrev sLdeed : Stmt := topS 74
def scLdeedN : List Str := ["_law_stand", "_law_pc", "_law_sp", "_law_m", "_law_op", "_law_x", "_law_reads", "_law_puts", "_law_bar", "_law_address"]
theorem scLdeed : FnScope scLdeedN ["_law_stand"] (defScope sLdeed) := ⟨rfl, rfl, rfl, by decide +kernel, rfl, by decide +kernel, by decide +kernel⟩
theorem ok_Ldeed {f : Addr} {fd : FuncData} {fL_bar : Addr} {dL_bar : FuncData} {fL_done : Addr} {dL_done : FuncData} {fL_goby : Addr} {dL_goby : FuncData} {fL_halts : Addr} {dL_halts : FuncData} (F : Fun K "_law_deed" "_law_deed" sLdeed f fd) (T : Tx K mg CB CM)
    (L_bar : CalF P w K mg base 1 "_law_barred" ["_law_stand", "_law_reads", "_law_puts"] (spBarred) fL_bar dL_bar)
    (L_done : CalF P w K mg base 2 "_law_done" ["_law_stand", "_law_op", "_law_x", "_law_words", "_law_puts"] (spDone) fL_done dL_done)
    (L_goby : CalF P w K mg base 1 "_law_go_by" ["_law_stand", "_law_many"] (spGoBy) fL_goby dL_goby)
    (L_halts : CalF P w K mg base 1 "_law_halts" ["_law_stand", "_law_cause"] (spHalts) fL_halts dL_halts) : FnOk P w K mg base CX0 4 f fd ["_law_stand"] (spLDeed) := by
  refine F.ok scLdeed (fun vs H Q E h => by obtain ⟨_, _, _, _, _, _, rfl, _⟩ := h; rfl) (fun cdv A outer s H vs Q E hr h => ?_)
  have hu := hu_of hr
  have z_int := T.z_int
  have z_len := T.z_len
  obtain ⟨d, m, t, ln, us, x, rfl, L, O, hsl, k⟩ := h
  obtain ⟨sv, hd, hz⟩ := L.hd
  refine ⟨_, (pss_cons (ps_asg (pe_tup (pa_cons (pe_dget hu (pv 0) pe_str (fun _ _ => rfl)) (pa_cons (pe_dget hu (pv 0) pe_str (fun _ _ => rfl)) (pa_cons (pe_dget hu (pv 0) pe_str (fun _ _ => rfl)) pa_nil)))) (pg_tup rfl (pgs_cons (pg_name (i := 1) scLdeed.nd rfl (.inl rfl)) (pgs_cons (pg_name (i := 2) scLdeed.nd rfl (.inl rfl)) (pgs_cons (pg_name (i := 3) scLdeed.nd rfl (.inr rfl)) pgs_nil)))))
    (pss_cons (ps_if (pt_cmpR op_gt (pv 1) pe_int (nomark _)) (pss_one (ps_ret (pe_call L_halts.G (hr.mono (by decide)) (by rfl) L_halts.g L_halts.kp L_halts.b .nil pass0 (pa_cons (pv 0) (pa_cons (pe_tup (pa_cons pe_str (pa_cons (pv 1) (pa_cons (pv 1) pa_nil)))) pa_nil))))) pss_nil)
    (pss_cons (ps_par (i := 4) (j := 5) (by rfl) scLdeed.nd rfl rfl (by decide) rfl rfl (pa_cons (pe_op op_fdiv (pe_ix ix_list (pv 3) (pv 1) (fun _ _ => rfl)) pe_int) (pa_cons (pe_op op_mod (pe_ix ix_list (pv 3) (pv 1) (fun _ _ => rfl)) pe_int) pa_nil)) (by rfl))
    (pss_cons (ps_if (PW.pt (pw_or (pt_cmpR op_eq (pv 4) pe_int (nomark _)) (pw_or1 (pt_cmpR op_gt (pv 4) pe_int (nomark _))))) (pss_one (ps_ret (pe_call L_halts.G (hr.mono (by decide)) (by rfl) L_halts.g L_halts.kp L_halts.b .nil pass0 (pa_cons (pv 0) (pa_cons (pe_ix ix_list (pe_lst (pa_cons (pe_tup (pa_cons pe_str (pa_cons (pv 1) pa_nil))) (pa_cons (pe_tup (pa_cons pe_str (pa_cons (pv 1) pa_nil))) pa_nil))) (pe_callTy call_int1 (by rfl) z_int (by decide +kernel) (pa_cons (pe_cmpR op_gt (pv 4) pe_int (nomark _)) pa_nil)) (fun _ _ => rfl)) pa_nil))))) pss_nil)
    (pss_cons (ps_set (i := 6) scLdeed.nd rfl (.inl rfl) (pe_dget2 hu (pe_disp (pps_cons pe_int (pe_lst (pa_cons (pv 5) pa_nil)) (pps_cons pe_int (pe_lst (pa_cons (pv 5) pa_nil)) (pps_cons pe_int (pe_lst (pa_cons (pv 5) pa_nil)) (pps_cons pe_int (pe_lst (pa_cons (pv 5) pa_nil)) (pps_cons pe_int (pe_lst (pa_cons (pv 5) pa_nil)) (pps_cons pe_int (pe_lst (pa_cons (pe_op op_add (pv 5) (pe_dget hu (pv 0) pe_str (fun _ _ => rfl))) pa_nil)) (pps_cons pe_int (pe_lst (pa_cons (pe_op op_add (pv 2) pe_int) pa_nil)) (pps_cons pe_int (pe_lst (pa_cons (pe_op op_add (pv 2) pe_int) pa_nil)) pps_nil)))))))) rfl rfl (by intro h; cases h) (by decide)) (pv 4) (pe_lst pa_nil) ⟨rfl, rfl, rfl, rfl⟩))
    (pss_cons (ps_if (pt_cmpR op_eq (pv 4) pe_int (nomark _)) (pss_one (ps_set (i := 6) scLdeed.nd rfl (.inl rfl) (pe_lst (pa_cons (pe_op op_add (pv 2) pe_int) (pa_cons (pe_op op_add (pv 2) pe_int) pa_nil))))) pss_nil)
    (pss_cons (ps_set (i := 7) scLdeed.nd rfl (.inl rfl) (pe_dget2 hu (pe_disp (pps_cons pe_int (pe_lst (pa_cons (pv 5) pa_nil)) (pps_cons pe_int (pe_lst (pa_cons (pe_op op_add (pv 5) (pe_dget hu (pv 0) pe_str (fun _ _ => rfl))) pa_nil)) (pps_cons pe_int (pe_lst (pa_cons (pv 2) pa_nil)) (pps_cons pe_int (pe_lst (pa_cons (pv 2) pa_nil)) pps_nil)))) rfl rfl (by intro h; cases h) (by decide)) (pv 4) (pe_lst pa_nil) ⟨rfl, rfl, rfl, rfl⟩))
    (pss_cons (ps_set (i := 8) scLdeed.nd rfl (.inl rfl) (pe_call L_bar.G (hr.mono (by decide)) (by rfl) L_bar.g L_bar.kp L_bar.b .nil pass0 (pa_cons (pv 0) (pa_cons (pv 6) (pa_cons (pv 7) pa_nil)))))
    (pss_cons (ps_if (pt_cmp (pc_notN (pv 8))) (pss_one (ps_ret (pe_call L_halts.G (hr.mono (by decide)) (by rfl) L_halts.g L_halts.kp L_halts.b .nil pass0 (pa_cons (pv 0) (pa_cons (pv 8) pa_nil))))) pss_nil)
    (pss_cons (ps_dput hu (pv 0) pe_str (pe_op op_add (pv 1) pe_int) rfl)
    (pss_cons (ps_expr (pe_call L_done.G (hr.mono (by decide)) (by rfl) L_done.g L_done.kp L_done.b .nil pass0 (pa_cons (pv 0) (pa_cons (pv 4) (pa_cons (pv 5) (pa_cons (pe_lc (own := [("_law_address", 9)]) (g := gName 9) (tt := tYes) (by rfl) scLdeed.nd (pi_list (pv 6)) (blkOk_by (own := [("_law_address", 9)]) (N := scLdeedN) (sc := defScope sLdeed) (by decide +kernel)) (fun _ _ _ _ _ => (pg_name (i := 9) scLdeed.nd rfl (.inl rfl))) (fun _ _ _ _ _ => pts_nil) (fun _ _ _ _ _ => (pe_ix (ix_listK (K := K)) (pv 3) (pv 9) (fun _ _ => rfl)))) (pa_cons (pv 7) pa_nil)))))))
    (pss_cons (ps_expr (pe_call L_goby.G (hr.mono (by decide)) (by rfl) L_goby.g L_goby.kp L_goby.b .nil pass0 (pa_cons (pv 0) (pa_cons (pe_op op_add (pe_op op_add pe_int (pe_callB call_len_seq (by rfl) z_len PySem.boot_len (pa_cons (pv 6) pa_nil))) (pe_callB call_len_seq (by rfl) z_len PySem.boot_len (pa_cons (pv 7) pa_nil))) pa_nil))))
    (pss_one (ps_ret pe_str)))))))))))))), ?_⟩
  have s0 : Same H H := Same.refl _
  obtain ⟨G0, eG0⟩ : ∃ G0, G0 = H := ⟨_, rfl⟩
  have L1 := L
  have s0 : Same H G0 := by rw [eG0]; exact Same.refl _
  refine ⟨_, rfl, d, _, rfl, dg (k := Sum.inr "pc") hd lG_pc, _, rfl, d, _, rfl, dg (k := Sum.inr "sp") hd lG_sp, _, rfl, d, _, rfl, dg (k := Sum.inr "m") hd lG_m, (by show 3 ≤ sizeLine; decide), fun t0 nt0 => ⟨t0, _, rfl, SqT.of upd_same, rfl, _, _, rfl, _, _, rfl, _, _, rfl, rfl, ?_⟩⟩
  have s0 : Same H (upd H t0 (.tup [V.int x.pc, V.int x.sp, V.ref m])) := same_upd' nt0
  clear eG0
  generalize upd H t0 (.tup [V.int x.pc, V.int x.sp, V.ref m]) = G0 at *
  have L0 := L.same s0
  obtain ⟨sv0, hd0, hz0⟩ := L0.hd
  have p0 := O.pc.1
  refine ⟨_, rfl, _, _, rfl, rfl, _, rfl, ifB (fun h => ?_) (fun h => ?_)⟩
  · have h := of_decide_eq_true h
    have ed : deedM x = (("stopped" : Str), { x with stop := some ("far", [x.pc, x.pc]) }) := by
      unfold deedM stopAt
      rw [if_pos (fun z => by omega)]
    rw [ed] at k
    refine ⟨_, rfl, _, rfl, _, rfl, (by show 3 ≤ sizeLine; decide), fun q nq => ?_⟩
    exact ⟨d, m, t, ln, us, x, .ref q, ("far", [x.pc, x.pc]), rfl, L0.same (same_upd' nq), ⟨q, rfl, upd_same⟩, fun H2 F2 L2 => k _ us ((Fr.of (s0.trans (same_upd' nq))).trans F2) L2⟩
  have p1 : x.pc < 768 := by have := of_decide_eq_false h; omega
  have hw0 := O.w.rd x.pc
  refine ⟨_, rfl, _, rfl, m, _, _, _, rfl, rfl, SqL.of L0.hm, atI_rd p0 (by rw [L0.lm]; omega), _, _, rfl, rfl, ⟨by decide, by decide⟩, _, rfl, _, rfl, m, _, _, _, rfl, rfl, SqL.of L0.hm, atI_rd p0 (by rw [L0.lm]; omega), _, _, rfl, rfl, (by show (0 : Int) < 1024; decide), .int (rd x.mem x.pc / 1024), .int (rd x.mem x.pc % 1024), rfl, ?_⟩
  have eop0 : rd x.mem x.pc / 1024 = ((opM x : Nat) : Int) := by
    unfold opM
    have := Int.ediv_nonneg hw0.1 (show (0 : Int) ≤ 1024 by decide)
    omega
  have x0 : 0 ≤ xM x := Int.emod_nonneg _ (by decide)
  have x1 : xM x < 1024 := Int.emod_lt_of_pos _ (by decide)
  rw [eop0]
  show _
  have exm : rd x.mem x.pc % 1024 = xM x := rfl
  rw [exm]
  generalize eo : opM x = op at *
  generalize ex : xM x = n at *
  have bad : (op = 0 ∨ 23 ≤ op) → deedM x = (("stopped" : Str), { x with stop := some ((if 23 ≤ op then ("none" : Str) else "mark"), [x.pc]) }) := fun hb => by
    unfold deedM stopAt
    rw [if_neg (fun z => z ⟨p0, p1⟩), eo]
    by_cases c : 23 ≤ op
    · rw [if_pos c, if_pos c]
    · rw [if_neg c, if_pos (by omega), if_neg c]
  refine ⟨_, rfl, rfl, _, rfl, ?_⟩
  rw [dI]
  refine ifB (fun h => ?_) (fun h => ?_)
  · have h := of_decide_eq_true h
    rw [bad (by omega)] at k
    refine ⟨_, rfl, _, rfl, (by show 2 ≤ sizeLine; decide), fun l1 n1 => ?_⟩
    have r1 := same_upd' (o := .tup [V.str "mark", V.int x.pc]) n1
    have h1' : upd G0 l1 (.tup [V.str "mark", V.int x.pc]) l1 = some (.tup [V.str "mark", V.int x.pc]) := upd_same
    generalize upd G0 l1 (.tup [V.str "mark", V.int x.pc]) = G1 at *
    refine ⟨_, rfl, (by show 2 ≤ sizeLine; decide), fun l2 n2 => ?_⟩
    have r2 := r1.trans (same_upd' (o := .tup [V.str "none", V.int x.pc]) n2)
    have h1' := same_upd' (o := .tup [V.str "none", V.int x.pc]) n2 _ _ h1'
    have h2' : upd G1 l2 (.tup [V.str "none", V.int x.pc]) l2 = some (.tup [V.str "none", V.int x.pc]) := upd_same
    generalize upd G1 l2 (.tup [V.str "none", V.int x.pc]) = G2 at *
    refine ⟨(by show 2 ≤ sizeLine; decide), fun l3 n3 => ?_⟩
    have r3 := r2.trans (same_upd' (o := .lst [V.ref l1, V.ref l2]) n3)
    have h1' := same_upd' (o := .lst [V.ref l1, V.ref l2]) n3 _ _ h1'
    have h2' := same_upd' (o := .lst [V.ref l1, V.ref l2]) n3 _ _ h2'
    have h3' : upd G2 l3 (.lst [V.ref l1, V.ref l2]) l3 = some (.lst [V.ref l1, V.ref l2]) := upd_same
    generalize upd G2 l3 (.lst [V.ref l1, V.ref l2]) = G3 at *
    refine ⟨_, rfl, _, _, rfl, rfl, .inr ⟨_, rfl, l3, _, _, _, rfl, rfl, SqL.of h3', kMN _, ?_⟩⟩
    refine ⟨d, m, t, ln, us, x, .ref (if decide ((22 : Int) < (op : Int)) = true then l2 else l1), ((if 23 ≤ op then ("none" : Str) else "mark"), [x.pc]), rfl, L0.same r3, ?_, fun H2 F2 L2 => k _ us ((Fr.of (s0.trans r3)).trans F2) L2⟩
    by_cases c : 23 ≤ op
    · rw [if_pos (decide_eq_true (by omega)), if_pos c]
      exact ⟨l2, rfl, h2'⟩
    · rw [if_neg (fun z => by have := of_decide_eq_true z; omega), if_neg c]
      exact ⟨l1, rfl, h1'⟩
  have hop0 := of_decide_eq_false h
  refine ⟨_, rfl, _, _, rfl, rfl, _, rfl, ifB (fun h => ?_) (fun h => ?_)⟩
  · have h := of_decide_eq_true h
    rw [bad (by omega)] at k
    refine ⟨_, rfl, _, rfl, (by show 2 ≤ sizeLine; decide), fun l1 n1 => ?_⟩
    have r1 := same_upd' (o := .tup [V.str "mark", V.int x.pc]) n1
    have h1' : upd G0 l1 (.tup [V.str "mark", V.int x.pc]) l1 = some (.tup [V.str "mark", V.int x.pc]) := upd_same
    generalize upd G0 l1 (.tup [V.str "mark", V.int x.pc]) = G1 at *
    refine ⟨_, rfl, (by show 2 ≤ sizeLine; decide), fun l2 n2 => ?_⟩
    have r2 := r1.trans (same_upd' (o := .tup [V.str "none", V.int x.pc]) n2)
    have h1' := same_upd' (o := .tup [V.str "none", V.int x.pc]) n2 _ _ h1'
    have h2' : upd G1 l2 (.tup [V.str "none", V.int x.pc]) l2 = some (.tup [V.str "none", V.int x.pc]) := upd_same
    generalize upd G1 l2 (.tup [V.str "none", V.int x.pc]) = G2 at *
    refine ⟨(by show 2 ≤ sizeLine; decide), fun l3 n3 => ?_⟩
    have r3 := r2.trans (same_upd' (o := .lst [V.ref l1, V.ref l2]) n3)
    have h1' := same_upd' (o := .lst [V.ref l1, V.ref l2]) n3 _ _ h1'
    have h2' := same_upd' (o := .lst [V.ref l1, V.ref l2]) n3 _ _ h2'
    have h3' : upd G2 l3 (.lst [V.ref l1, V.ref l2]) l3 = some (.lst [V.ref l1, V.ref l2]) := upd_same
    generalize upd G2 l3 (.lst [V.ref l1, V.ref l2]) = G3 at *
    refine ⟨_, rfl, _, _, rfl, rfl, .inr ⟨_, rfl, l3, _, _, _, rfl, rfl, SqL.of h3', kMN _, ?_⟩⟩
    refine ⟨d, m, t, ln, us, x, .ref (if decide ((22 : Int) < (op : Int)) = true then l2 else l1), ((if 23 ≤ op then ("none" : Str) else "mark"), [x.pc]), rfl, L0.same r3, ?_, fun H2 F2 L2 => k _ us ((Fr.of (s0.trans r3)).trans F2) L2⟩
    by_cases c : 23 ≤ op
    · rw [if_pos (decide_eq_true (by omega)), if_pos c]
      exact ⟨l2, rfl, h2'⟩
    · rw [if_neg (fun z => by have := of_decide_eq_true z; omega), if_neg c]
      exact ⟨l1, rfl, h1'⟩
  have hop1 := of_decide_eq_false h
  have o1 : 1 ≤ op := by omega
  have o2 : op < 23 := by omega
  clear bad
  intro l1 n1
  have r1 := same_upd' (o := .dK []) n1
  have h1 : upd G0 l1 (.dK []) l1 = some (.dK []) := upd_same
  have f1 : H l1 = none := s0.free n1
  have s1 := s0.trans r1
  generalize upd G0 l1 (.dK []) = G1 at *
  refine ⟨_, rfl, (by show 1 ≤ sizeLine; decide), fun l2 n2 => ?_⟩
  have r2 := same_upd' (o := .lst [V.int n]) n2
  have h2 : upd G1 l2 (.lst [V.int n]) l2 = some (.lst [V.int n]) := upd_same
  have f2 : H l2 = none := s1.free n2
  have s2 := s1.trans r2
  have h1 := r2 _ _ h1
  generalize upd G1 l2 (.lst [V.int n]) = G2 at *
  refine ⟨_, rfl, (by show 1 ≤ sizeLine; decide), fun l3 n3 => ?_⟩
  have r3 := same_upd' (o := .lst [V.int n]) n3
  have h3 : upd G2 l3 (.lst [V.int n]) l3 = some (.lst [V.int n]) := upd_same
  have f3 : H l3 = none := s2.free n3
  have s3 := s2.trans r3
  have h1 := r3 _ _ h1
  have h2 := r3 _ _ h2
  generalize upd G2 l3 (.lst [V.int n]) = G3 at *
  refine ⟨_, rfl, (by show 1 ≤ sizeLine; decide), fun l4 n4 => ?_⟩
  have r4 := same_upd' (o := .lst [V.int n]) n4
  have h4 : upd G3 l4 (.lst [V.int n]) l4 = some (.lst [V.int n]) := upd_same
  have f4 : H l4 = none := s3.free n4
  have s4 := s3.trans r4
  have h1 := r4 _ _ h1
  have h2 := r4 _ _ h2
  have h3 := r4 _ _ h3
  generalize upd G3 l4 (.lst [V.int n]) = G4 at *
  refine ⟨_, rfl, (by show 1 ≤ sizeLine; decide), fun l5 n5 => ?_⟩
  have r5 := same_upd' (o := .lst [V.int n]) n5
  have h5 : upd G4 l5 (.lst [V.int n]) l5 = some (.lst [V.int n]) := upd_same
  have f5 : H l5 = none := s4.free n5
  have s5 := s4.trans r5
  have h1 := r5 _ _ h1
  have h2 := r5 _ _ h2
  have h3 := r5 _ _ h3
  have h4 := r5 _ _ h4
  generalize upd G4 l5 (.lst [V.int n]) = G5 at *
  refine ⟨_, rfl, (by show 1 ≤ sizeLine; decide), fun l6 n6 => ?_⟩
  have r6 := same_upd' (o := .lst [V.int n]) n6
  have h6 : upd G5 l6 (.lst [V.int n]) l6 = some (.lst [V.int n]) := upd_same
  have f6 : H l6 = none := s5.free n6
  have s6 := s5.trans r6
  have h1 := r6 _ _ h1
  have h2 := r6 _ _ h2
  have h3 := r6 _ _ h3
  have h4 := r6 _ _ h4
  have h5 := r6 _ _ h5
  generalize upd G5 l6 (.lst [V.int n]) = G6 at *
  obtain ⟨sv1, hd1, hz1⟩ := (L.same s6).hd
  refine ⟨_, rfl, _, rfl, d, _, rfl, dg (k := Sum.inr "b") hd1 lG_b, _, _, rfl, rfl, (by show 1 ≤ sizeLine; decide), fun l7 n7 => ?_⟩
  have r7 := same_upd' (o := .lst [V.int (n + x.b)]) n7
  have h7 : upd G6 l7 (.lst [V.int (n + x.b)]) l7 = some (.lst [V.int (n + x.b)]) := upd_same
  have f7 : H l7 = none := s6.free n7
  have s7 := s6.trans r7
  have h1 := r7 _ _ h1
  have h2 := r7 _ _ h2
  have h3 := r7 _ _ h3
  have h4 := r7 _ _ h4
  have h5 := r7 _ _ h5
  have h6 := r7 _ _ h6
  generalize upd G6 l7 (.lst [V.int (n + x.b)]) = G7 at *
  refine ⟨_, rfl, _, _, rfl, rfl, (by show 1 ≤ sizeLine; decide), fun l8 n8 => ?_⟩
  have r8 := same_upd' (o := .lst [V.int (x.sp + 1)]) n8
  have h8 : upd G7 l8 (.lst [V.int (x.sp + 1)]) l8 = some (.lst [V.int (x.sp + 1)]) := upd_same
  have f8 : H l8 = none := s7.free n8
  have s8 := s7.trans r8
  have h1 := r8 _ _ h1
  have h2 := r8 _ _ h2
  have h3 := r8 _ _ h3
  have h4 := r8 _ _ h4
  have h5 := r8 _ _ h5
  have h6 := r8 _ _ h6
  have h7 := r8 _ _ h7
  generalize upd G7 l8 (.lst [V.int (x.sp + 1)]) = G8 at *
  refine ⟨_, rfl, _, _, rfl, rfl, (by show 1 ≤ sizeLine; decide), fun l9 n9 => ?_⟩
  have r9 := same_upd' (o := .lst [V.int (x.sp + 1)]) n9
  have h9 : upd G8 l9 (.lst [V.int (x.sp + 1)]) l9 = some (.lst [V.int (x.sp + 1)]) := upd_same
  have f9 : H l9 = none := s8.free n9
  have s9 := s8.trans r9
  have h1 := r9 _ _ h1
  have h2 := r9 _ _ h2
  have h3 := r9 _ _ h3
  have h4 := r9 _ _ h4
  have h5 := r9 _ _ h5
  have h6 := r9 _ _ h6
  have h7 := r9 _ _ h7
  have h8 := r9 _ _ h8
  generalize upd G8 l9 (.lst [V.int (x.sp + 1)]) = G9 at *
  have h1old := h1
  refine ⟨h1, rd8 l2 l3 l4 l5 l6 l7 l8 l9, rfl, (by show 8 ≤ 15; decide), ?_⟩
  have em1 : mergeK [] (rd8 l2 l3 l4 l5 l6 l7 l8 l9) = rd8 l2 l3 l4 l5 l6 l7 l8 l9 := by kernel_rfl
  rw [em1]
  obtain ⟨G10, eG10, s10, r10, h1⟩ : ∃ G10 : Hp, upd G9 l1 (.dK (rd8 l2 l3 l4 l5 l6 l7 l8 l9)) = G10 ∧ Same H G10 ∧ (∀ z o, z ≠ l1 → G9 z = some o → G10 z = some o) ∧ G10 l1 = some (.dK (rd8 l2 l3 l4 l5 l6 l7 l8 l9)) := ⟨_, rfl, same_of s9 f1, fun z o hz e => by rw [upd_ne hz]; exact e, upd_same⟩
  rw [eG10]
  have h2 := r10 _ _ (fun z => by rw [z, h1old] at h2; cases h2) h2
  have h3 := r10 _ _ (fun z => by rw [z, h1old] at h3; cases h3) h3
  have h4 := r10 _ _ (fun z => by rw [z, h1old] at h4; cases h4) h4
  have h5 := r10 _ _ (fun z => by rw [z, h1old] at h5; cases h5) h5
  have h6 := r10 _ _ (fun z => by rw [z, h1old] at h6; cases h6) h6
  have h7 := r10 _ _ (fun z => by rw [z, h1old] at h7; cases h7) h7
  have h8 := r10 _ _ (fun z => by rw [z, h1old] at h8; cases h8) h8
  have h9 := r10 _ _ (fun z => by rw [z, h1old] at h9; cases h9) h9
  refine ⟨l1, rfl, .inl ⟨_, .inl h1⟩, _, rfl, Nat.zero_le _, fun l11 n11 => ?_⟩
  have r11 := same_upd' (o := .lst []) n11
  have h11 : upd G10 l11 (.lst []) l11 = some (.lst []) := upd_same
  have f11 : H l11 = none := s10.free n11
  have s11 := s10.trans r11
  have h1 := r11 _ _ h1
  have h2 := r11 _ _ h2
  have h3 := r11 _ _ h3
  have h4 := r11 _ _ h4
  have h5 := r11 _ _ h5
  have h6 := r11 _ _ h6
  have h7 := r11 _ _ h7
  have h8 := r11 _ _ h8
  have h9 := r11 _ _ h9
  generalize upd G10 l11 (.lst []) = G11 at *
  refine ⟨_, DGet.k (k := Sum.inl (op : Int)) h1, ?_⟩
  have nt : ∀ q, H q = none → q ≠ t := fun q hq z => by
    have := L.ht
    rw [← z, hq] at this
    cases this
  obtain ⟨la, ela, hla, nla⟩ := rd8_get o2 (n := n) (b := x.b) (sp := x.sp) h2 h3 h4 h5 h6 h7 h8 h9 h11 (nt _ f2) (nt _ f3) (nt _ f4) (nt _ f5) (nt _ f6) (nt _ f7) (nt _ f8) (nt _ f9) (nt _ f11)
  rw [ela]
  clear ela h1 h2 h3 h4 h5 h6 h7 h8 h9 h11 h1old
  apply joinA (I := fun G a => Same H G ∧ G a = some (.lst ((rdsL op n x.b x.sp).map V.int)) ∧ a ≠ t)
  case body =>
    intro kk
    refine ⟨_, rfl, rfl, _, rfl, ?_⟩
    rw [dI]
    refine ifB (fun h => ?_) (fun h => ?_)
    · have h : op = 21 := by have := of_decide_eq_true h; omega
      refine ⟨_, rfl, _, _, rfl, rfl, _, rfl, _, _, rfl, rfl, (by show 2 ≤ sizeLine; decide), fun l12 n12 => ?_⟩
      have hh : upd G11 l12 (.lst [V.int (x.sp + 1), V.int (x.sp + 2)]) l12 = some (.lst [V.int (x.sp + 1), V.int (x.sp + 2)]) := upd_same
      have ss := s11.trans (same_upd' (o := .lst [V.int (x.sp + 1), V.int (x.sp + 2)]) n12)
      generalize upd G11 l12 (.lst [V.int (x.sp + 1), V.int (x.sp + 2)]) = G12 at *
      refine kk G12 l12 ⟨ss, ?_, nt _ (s11.free n12)⟩
      rw [hh, h]
      rfl
    · have h : ¬ op = 21 := fun z => of_decide_eq_false h (by omega)
      rw [if_neg h] at hla
      exact kk _ la ⟨s11, hla, nla⟩
  case key =>
  rintro G20 lr ⟨s20, hlr, nrt⟩
  intro l21 n21
  have r21 := same_upd' (o := .dK []) n21
  have h21 : upd G20 l21 (.dK []) l21 = some (.dK []) := upd_same
  have f21 : H l21 = none := s20.free n21
  have s21 := s20.trans r21
  have hlr := r21 _ _ hlr
  generalize upd G20 l21 (.dK []) = G21 at *
  refine ⟨_, rfl, (by show 1 ≤ sizeLine; decide), fun l22 n22 => ?_⟩
  have r22 := same_upd' (o := .lst [V.int n]) n22
  have h22 : upd G21 l22 (.lst [V.int n]) l22 = some (.lst [V.int n]) := upd_same
  have f22 : H l22 = none := s21.free n22
  have s22 := s21.trans r22
  have hlr := r22 _ _ hlr
  have h21 := r22 _ _ h21
  generalize upd G21 l22 (.lst [V.int n]) = G22 at *
  obtain ⟨sv1, hd1, hz1⟩ := (L.same s22).hd
  refine ⟨_, rfl, _, rfl, d, _, rfl, dg (k := Sum.inr "b") hd1 lG_b, _, _, rfl, rfl, (by show 1 ≤ sizeLine; decide), fun l23 n23 => ?_⟩
  have r23 := same_upd' (o := .lst [V.int (n + x.b)]) n23
  have h23 : upd G22 l23 (.lst [V.int (n + x.b)]) l23 = some (.lst [V.int (n + x.b)]) := upd_same
  have f23 : H l23 = none := s22.free n23
  have s23 := s22.trans r23
  have hlr := r23 _ _ hlr
  have h21 := r23 _ _ h21
  have h22 := r23 _ _ h22
  generalize upd G22 l23 (.lst [V.int (n + x.b)]) = G23 at *
  refine ⟨_, rfl, (by show 1 ≤ sizeLine; decide), fun l24 n24 => ?_⟩
  have r24 := same_upd' (o := .lst [V.int x.sp]) n24
  have h24 : upd G23 l24 (.lst [V.int x.sp]) l24 = some (.lst [V.int x.sp]) := upd_same
  have f24 : H l24 = none := s23.free n24
  have s24 := s23.trans r24
  have hlr := r24 _ _ hlr
  have h21 := r24 _ _ h21
  have h22 := r24 _ _ h22
  have h23 := r24 _ _ h23
  generalize upd G23 l24 (.lst [V.int x.sp]) = G24 at *
  refine ⟨_, rfl, (by show 1 ≤ sizeLine; decide), fun l25 n25 => ?_⟩
  have r25 := same_upd' (o := .lst [V.int x.sp]) n25
  have h25 : upd G24 l25 (.lst [V.int x.sp]) l25 = some (.lst [V.int x.sp]) := upd_same
  have f25 : H l25 = none := s24.free n25
  have s25 := s24.trans r25
  have hlr := r25 _ _ hlr
  have h21 := r25 _ _ h21
  have h22 := r25 _ _ h22
  have h23 := r25 _ _ h23
  have h24 := r25 _ _ h24
  generalize upd G24 l25 (.lst [V.int x.sp]) = G25 at *
  have h21old := h21
  refine ⟨h21, pu4 l22 l23 l24 l25, rfl, (by show 4 ≤ 15; decide), ?_⟩
  have em2 : mergeK [] (pu4 l22 l23 l24 l25) = pu4 l22 l23 l24 l25 := by kernel_rfl
  rw [em2]
  obtain ⟨G26, eG26, s26, r26, h21⟩ : ∃ G26 : Hp, upd G25 l21 (.dK (pu4 l22 l23 l24 l25)) = G26 ∧ Same H G26 ∧ (∀ z o, z ≠ l21 → G25 z = some o → G26 z = some o) ∧ G26 l21 = some (.dK (pu4 l22 l23 l24 l25)) := ⟨_, rfl, same_of s25 f21, fun z o hz e => by rw [upd_ne hz]; exact e, upd_same⟩
  rw [eG26]
  have hlr := r26 _ _ (fun z => by rw [z, h21old] at hlr; cases hlr) hlr
  have h22 := r26 _ _ (fun z => by rw [z, h21old] at h22; cases h22) h22
  have h23 := r26 _ _ (fun z => by rw [z, h21old] at h23; cases h23) h23
  have h24 := r26 _ _ (fun z => by rw [z, h21old] at h24; cases h24) h24
  have h25 := r26 _ _ (fun z => by rw [z, h21old] at h25; cases h25) h25
  refine ⟨l21, rfl, .inl ⟨_, .inl h21⟩, _, rfl, Nat.zero_le _, fun l27 n27 => ?_⟩
  have r27 := same_upd' (o := .lst []) n27
  have h27 : upd G26 l27 (.lst []) l27 = some (.lst []) := upd_same
  have f27 : H l27 = none := s26.free n27
  have s27 := s26.trans r27
  have hlr := r27 _ _ hlr
  have h21 := r27 _ _ h21
  have h22 := r27 _ _ h22
  have h23 := r27 _ _ h23
  have h24 := r27 _ _ h24
  have h25 := r27 _ _ h25
  generalize upd G26 l27 (.lst []) = G27 at *
  refine ⟨_, DGet.k (k := Sum.inl (op : Int)) h21, ?_⟩
  obtain ⟨lp, elp, hlp, npt⟩ := pu4_get o2 (n := n) (b := x.b) (sp := x.sp) h22 h23 h24 h25 h27 (nt _ f22) (nt _ f23) (nt _ f24) (nt _ f25) (nt _ f27)
  rw [elp]
  clear elp h21 h22 h23 h24 h25 h27 h21old
  have L27 := L.same s27
  refine ⟨_, rfl, _, rfl, _, rfl, d, m, t, ln, lr, lp, us, x, rdsL op n x.b x.sp, putL op n x.b x.sp, rfl, L27, hlr, hlp, fun G28 v r28 hv => ?_⟩
  have s28 := s27.trans r28
  have hlr := r28 _ _ hlr
  have hlp := r28 _ _ hlp
  have L28 := L.same s28
  have efb : firstBad (allT (rdsL op n x.b x.sp) (putL op n x.b x.sp)) = firstBad (toM x) := by
    rw [allT_tou o2]
    unfold toM
    rw [eo, ex]
  unfold barV at hv
  rw [efb] at hv
  have etm : toM x = touM op n x.b x.sp := by
    unfold toM
    rw [eo, ex]
  cases e : firstBad (toM x) with
  | some r =>
    have ed : deedM x = (("stopped" : Str), { x with stop := some (r.1, [x.pc, r.2]) }) := by
      unfold deedM
      rw [if_neg (fun z => z ⟨p0, p1⟩), eo, if_neg (by omega), if_neg (by omega), e]
      rfl
    rw [ed] at k
    rw [e] at hv
    have hv' := hv
    obtain ⟨q, rfl, hq⟩ := hv
    refine ⟨_, rfl, _, rfl, ifN (fun _ => ?_) (fun h => by cases (of_decide_eq_true h))⟩
    refine ⟨_, rfl, _, rfl, d, m, t, ln, us, x, .ref q, (r.1, [x.pc, r.2]), rfl, L28, hv', fun H2 F2 L2 => k _ us ((Fr.of s28).trans F2) L2⟩
  | none =>
    have ed : deedM x = (("deed" : Str), doneM x) := by
      unfold deedM
      rw [if_neg (fun z => z ⟨p0, p1⟩), eo, if_neg (by omega), if_neg (by omega), e]
    rw [ed] at k
    rw [e] at hv
    obtain rfl : v = .non := hv
    have tok := firstBad_ok e
    rw [etm] at tok
    refine ⟨_, rfl, _, rfl, ifN (fun h => absurd rfl (of_decide_eq_false h)) (fun _ => ?_)⟩
    obtain ⟨sv28, hd28, hz28⟩ := L28.hd
    refine ⟨_, rfl, _, _, rfl, rfl, _, rfl, d, _, rfl, dpS (k := Sum.inr "pc") hd28 lP_pc, ?_⟩
    have L29 := L28.dict (y := { x with pc := x.pc + 1 }) hz28 rfl rfl rfl
    have F29 : Fr d m t H (upd G28 d (.dK (stD m t ln { x with pc := x.pc + 1 } sv28))) := (Fr.of s28).trans Fr.ud
    have hlr := (upd_ne (H := G28) (o := .dK (stD m t ln { x with pc := x.pc + 1 } sv28)) (ne_of hlr hd28 (by intro z; cases z))).trans hlr
    have hlp := (upd_ne (H := G28) (o := .dK (stD m t ln { x with pc := x.pc + 1 } sv28)) (ne_of hlp hd28 (by intro z; cases z))).trans hlp
    generalize upd G28 d (.dK (stD m t ln { x with pc := x.pc + 1 } sv28)) = G29 at *
    have O29 : Ok { x with pc := x.pc + 1 } := ⟨O.lm, O.w, O.a, O.b, ⟨by show 0 ≤ x.pc + 1; omega, by show x.pc + 1 ≤ 65535; omega⟩, O.ln⟩
    refine ⟨_, rfl, _, rfl, _, rfl, _, rfl, lr, rfl, ⟨_, SqL.of hlr⟩, fun D nD => ?_⟩
    refine lc_list (K := K) (a := lr) (xs := (rdsL op n x.b x.sp).map V.int) (fun i H' => Same G29 H' ∧ H' D = some (.lst (((rdsL op n x.b x.sp).take i).map fun a => V.int (rd x.mem a)))) ⟨same_upd' nD, upd_same⟩ (fun i H' _ h => SqL.of (h.1 _ _ hlr)) ?_ ?_
    · rintro j v H' hv ⟨sm, hD⟩
      obtain ⟨a, ha, rfl⟩ := getI hv
      have hin : (false, a) ∈ touM op n x.b x.sp := by
        have h1 := List.mem_of_getElem? ha
        unfold rdsL at h1
        obtain ⟨u, hu, rfl⟩ := List.mem_map.mp h1
        obtain ⟨hu1, hu2⟩ := List.mem_filter.mp hu
        obtain ⟨ub, ua⟩ := u
        cases ub with
        | true => cases hu2
        | false => exact hu1
      obtain ⟨i0, i1⟩ := barM_ok (tok _ hin)
      refine ⟨rfl, ?_⟩
      refine ⟨_, rfl, _, rfl, m, _, _, _, rfl, rfl, SqL.of (sm _ _ L29.hm), atI_rd i0 (by rw [L29.lm]; exact i1), ?_⟩
      refine ⟨_, hD, ?_, same_of sm nD, ?_⟩
      · rw [List.length_map]
        refine small1000 ?_
        rw [List.length_take]
        have h2 := tou_len o2 n x.b x.sp
        have h3 : (touM op n x.b x.sp).length ≤ 2 := touM_len _ _ _ _
        omega
      · rw [upd_same, List.take_add_one, ha, List.map_append]
        rfl
    · rintro H4 ⟨sm4, hD⟩
      rw [List.length_map, List.take_length] at hD
      have eD : ((rdsL op n x.b x.sp).map fun a => V.int (rd x.mem a)) = (readsM x.mem (touM op n x.b x.sp)).map V.int := by
        rw [reads_map, List.map_map]
        rfl
      rw [eD] at hD
      have L4 := L29.same sm4
      have F4 := F29.trans (Fr.of sm4)
      have hlr4 := sm4 _ _ hlr
      have hlp4 := sm4 _ _ hlp
      have big : ∀ a xs, H4 a = some (.lst xs) → xs.length ≤ 2 → a ≠ m := fun a xs h1 h2 => nlst h1 L4.hm (fun z => by
        rw [z, List.length_map, L4.lm] at h2
        omega)
      have lt2 : (rdsL op n x.b x.sp).length + (putL op n x.b x.sp).length ≤ 2 := by
        rw [tou_len o2]
        exact touM_len _ _ _ _
      have lrd : (readsM x.mem (touM op n x.b x.sp)).length = (rdsL op n x.b x.sp).length := by rw [reads_map, List.length_map]
      have nDt : D ≠ t := fun z => by
        have := L29.ht
        rw [← z, nD] at this
        cases this
      refine ⟨_, rfl, d, m, t, ln, D, lp, us, _, op, n, readsM x.mem (touM op n x.b x.sp), putL op n x.b x.sp, rfl, L4, O29, hD, hlp4, o1, o2, x0, x1, big _ _ hD (by rw [List.length_map, lrd]; omega), nDt, big _ _ hlp4 (by rw [List.length_map]; omega), npt, nR_ok _ _ _ _ _ o2, reads16 O.w _, rfl, (fun u hu => barM_ok (tok u hu)), (by show x.sent.length < 1000000; omega), fun H5 us5 F5 L5 => ?_⟩
      have F45 := F4.trans F5
      obtain ⟨sv4, hd4, hz4⟩ := L4.hd
      have hlr5 := F5 _ _ (ne_of hlr4 hd4 (by intro z; cases z)) (big _ _ hlr4 (by rw [List.length_map]; omega)) nrt hlr4
      have hlp5 := F5 _ _ (ne_of hlp4 hd4 (by intro z; cases z)) (big _ _ hlp4 (by rw [List.length_map]; omega)) npt hlp4
      refine ⟨_, rfl, _, rfl, lr, _, rfl, .inl (SqL.of hlr5), _, _, rfl, rfl, _, rfl, lp, _, rfl, .inl (SqL.of hlp5), _, _, rfl, rfl, d, m, t, ln, us5, _, 1 + (toM x).length, ?_, L5, ?_, ?_, fun H6 F6 L6 => ?_⟩
      · rw [etm, List.length_map, List.length_map, ← tou_len o2]
        have e9 : (1 : Int) + ((rdsL op n x.b x.sp).length : Int) + ((putL op n x.b x.sp).length : Int) = ((1 + ((rdsL op n x.b x.sp).length + (putL op n x.b x.sp).length) : Nat) : Int) := by omega
        rw [← e9]
        rfl
      · exact O29.doM x0 x1 (reads16 O.w _) o2
      · have hlen : (toM x).length ≤ 2 := touM_len _ _ _ _
        omega
      · refine k _ us5 (F45.trans F6) ?_
        unfold doneM
        rw [etm, eo, ex]
        rw [etm] at L6
        exact L6
end
end Bh

/-! The law's own board: a turn. -/
namespace Bh
open PySem PySem.Spec PyProof.Rows L2
section
variable {P : Program} {w : World} {K : PySem.W.Frag} {mg : Str → Option Value} {base : Heap} {CB CM : Addr}
abbrev sLonce : Stmt := topS 73
def scLonceN : List Str := ["_law_stand", "_law_m", "_law_due", "_law_sp", "_law_bar"]
theorem scLonce : FnScope scLonceN ["_law_stand"] (defScope sLonce) := ⟨rfl, rfl, rfl, by decide +kernel, rfl, by decide +kernel, by decide +kernel⟩
theorem ok_Lonce {f : Addr} {fd : FuncData} {fL_bar : Addr} {dL_bar : FuncData} {fL_deed : Addr} {dL_deed : FuncData} {fL_goby : Addr} {dL_goby : FuncData} {fL_halts : Addr} {dL_halts : FuncData} {fL_lay : Addr} {dL_lay : FuncData} (F : Fun K "_law_once" "_law_once" sLonce f fd) (T : Tx K mg CB CM)
    (L_bar : CalF P w K mg base 1 "_law_barred" ["_law_stand", "_law_reads", "_law_puts"] (spBarred) fL_bar dL_bar)
    (L_deed : CalF P w K mg base 4 "_law_deed" ["_law_stand"] (spLDeed) fL_deed dL_deed)
    (L_goby : CalF P w K mg base 1 "_law_go_by" ["_law_stand", "_law_many"] (spGoBy) fL_goby dL_goby)
    (L_halts : CalF P w K mg base 1 "_law_halts" ["_law_stand", "_law_cause"] (spHalts) fL_halts dL_halts)
    (L_lay : CalF P w K mg base 1 "_law_lay" ["_law_stand", "_law_address", "_law_word"] (spLay) fL_lay dL_lay) : FnOk P w K mg base CX0 5 f fd ["_law_stand"] (spOnce) := by
  refine F.ok scLonce (fun vs H Q E h => by obtain ⟨_, _, _, _, _, _, rfl, _⟩ := h; rfl) (fun cdv A outer s H vs Q E hr h => ?_)
  have hu := hu_of hr
  have z_int := T.z_int
  obtain ⟨d, m, t, ln, us, x, rfl, L, O, hsl, k⟩ := h
  obtain ⟨sv, hd, hz⟩ := L.hd
  refine ⟨_, (pss_cons (ps_set (i := 1) scLonce.nd rfl (.inl rfl) (pe_dget hu (pv 0) pe_str (fun _ _ => rfl)))
    (pss_cons (ps_if (pt_cmp (pc_notN (pe_dget hu (pv 0) pe_str (fun _ _ => rfl)))) (pss_one (ps_ret pe_str)) pss_nil)
    (pss_cons (ps_set (i := 2) scLonce.nd rfl (.inl rfl) (pe_op op_and (pe_ix ix_list (pv 1) pe_int (fun _ _ => rfl)) (pe_ix ix_list (pv 1) pe_int (fun _ _ => rfl))))
    (pss_cons (ps_if (PW.pt (pw_and (pt_val (pe_dget hu (pv 0) pe_str (fun _ _ => rfl))) (pw_and1 (pt_cmpR op_eq (pv 2) pe_int (nomark _))))) (pss_cons (ps_expr (pe_call L_goby.G (hr.mono (by decide)) (by rfl) L_goby.g L_goby.kp L_goby.b .nil pass0 (pa_cons (pv 0) (pa_cons pe_int pa_nil))))
    (pss_one (ps_ret pe_str))) pss_nil)
    (pss_cons (ps_dput hu (pv 0) pe_str pe_bl rfl)
    (pss_cons (ps_if (PW.pt (pw_or (pt_not (pt_val (pe_dget hu (pv 0) pe_str (fun _ _ => rfl)))) (pw_or1 (pt_cmpR op_eq (pv 2) pe_int (nomark _))))) (pss_one (ps_ret (pe_call L_deed.G (hr.mono (by decide)) (by rfl) L_deed.g L_deed.kp L_deed.b .nil pass0 (pa_cons (pv 0) pa_nil)))) pss_nil)
    (pss_cons (ps_set (i := 3) scLonce.nd rfl (.inl rfl) (pe_dget hu (pv 0) pe_str (fun _ _ => rfl)))
    (pss_cons (ps_set (i := 4) scLonce.nd rfl (.inl rfl) (pe_call L_bar.G (hr.mono (by decide)) (by rfl) L_bar.g L_bar.kp L_bar.b .nil pass0 (pa_cons (pv 0) (pa_cons (pe_lst pa_nil) (pa_cons (pe_lst (pa_cons (pv 3) (pa_cons (pe_op op_sub (pv 3) pe_int) pa_nil))) pa_nil)))))
    (pss_cons (ps_if (pt_cmp (pc_notN (pv 4))) (pss_one (ps_ret (pe_call L_halts.G (hr.mono (by decide)) (by rfl) L_halts.g L_halts.kp L_halts.b .nil pass0 (pa_cons (pv 0) (pa_cons (pv 4) pa_nil))))) pss_nil)
    (pss_cons (ps_expr (pe_call L_lay.G (hr.mono (by decide)) (by rfl) L_lay.g L_lay.kp L_lay.b .nil pass0 (pa_cons (pv 0) (pa_cons (pv 3) (pa_cons (pe_dget hu (pv 0) pe_str (fun _ _ => rfl)) pa_nil)))))
    (pss_cons (ps_expr (pe_call L_lay.G (hr.mono (by decide)) (by rfl) L_lay.g L_lay.kp L_lay.b .nil pass0 (pa_cons (pv 0) (pa_cons (pe_op op_sub (pv 3) pe_int) (pa_cons (pe_callTy call_int1 (by rfl) z_int (by decide +kernel) (pa_cons (pe_dget hu (pv 0) pe_str (fun _ _ => rfl)) pa_nil)) pa_nil)))))
    (pss_cons (ps_expr (pe_bm PySem.F.plainAttrs_dict PySem.F.slot_dict_update PySem.F.type_dict_update mtd_update (pv 0) (pa_cons (pe_disp (pps_cons pe_str (pe_op op_sub (pv 3) pe_int) (pps_cons pe_str pe_bl (pps_cons pe_str (pe_op op_sub pe_int (pe_op op_mod (pv 2) pe_int)) pps_nil))) rfl rfl (by intro h; cases h) (by decide)) pa_nil)))
    (pss_cons (ps_expr (pe_call L_goby.G (hr.mono (by decide)) (by rfl) L_goby.g L_goby.kp L_goby.b .nil pass0 (pa_cons (pv 0) (pa_cons pe_int pa_nil))))
    (pss_one (ps_ret pe_str))))))))))))))), ?_⟩
  refine ⟨_, rfl, d, _, rfl, dg (k := Sum.inr "m") hd lG_m, ?_⟩
  refine ⟨_, rfl, d, _, rfl, dg (k := Sum.inr "stopped") hd lG_stopped, _, rfl, ?_⟩
  cases es : x.stop with
  | some r =>
    rw [es] at hz
    obtain ⟨q1, rfl, hq1⟩ := hz
    refine ifN (fun _ => ?_) (fun h => by cases (of_decide_eq_true h))
    have et : turnM x = (("stopped" : Str), x) := by
      unfold turnM
      rw [if_pos (by rw [es]; intro z; cases z)]
    rw [et] at k
    exact k _ us Fr.refl L
  | none =>
    rw [es] at hz
    obtain rfl : sv = V.non := hz
    refine ifN (fun h => absurd rfl (of_decide_eq_false h)) (fun _ => ?_)
    refine ⟨_, rfl, m, _, _, _, rfl, rfl, SqL.of L.hm, atI_rd (by decide) (by rw [L.lm]; decide), _, rfl, m, _, _, _, rfl, rfl, SqL.of L.hm, atI_rd (by decide) (by rw [L.lm]; decide), _, _, rfl, rfl, ?_⟩
    have c16 : W16 (calledM x) := and16 (O.w.rd _) (O.w.rd _)
    have t0 : turnM x = if x.asleep = true ∧ calledM x = 0 then (("asleep" : Str), passM 1 x) else if x.lets = true ∧ calledM x ≠ 0 then intM { x with asleep := false } else deedM { x with asleep := false } := by
      unfold turnM
      rw [if_neg (fun z => z es)]
    have ecm : (fun i j => V.int (Builtin.bitAnd i j)) (rd x.mem 770) (rd x.mem 771) = V.int (calledM x) := rfl
    rw [ecm]
    refine ⟨_, rfl, d, _, rfl, dg (k := Sum.inr "asleep") hd lG_asleep, _, rfl, ?_⟩
    have rest : ¬ (x.asleep = true ∧ calledM x = 0) → ∀ Q' : Prop, True := fun _ _ => True.intro
    apply joinR (I := fun G => G = H ∧ ¬ (x.asleep = true ∧ calledM x = 0))
    case body =>
      intro kk
      obtain ⟨G0, eG0⟩ : ∃ G0, G0 = H := ⟨_, rfl⟩
      have L0 := L
      have hd0 := hd
      rw [← eG0] at L0 hd0 ⊢
      refine ifB (fun ha => ?_) (fun ha => ?_)
      rotate_left
      · exact kk G0 ⟨eG0, fun z => by rw [ha] at z; cases z.1⟩
      · refine ⟨_, rfl, rfl, _, rfl, ?_⟩
        rw [dI]
        refine ifB (fun h => ?_) (fun h => ?_)
        rotate_left
        · exact kk G0 ⟨eG0, fun z => of_decide_eq_false h z.2⟩
        · have h := of_decide_eq_true h
          rw [t0, if_pos ⟨ha, h⟩] at k
          subst eG0
          exact ⟨_, rfl, d, m, t, ln, us, x, 1, rfl, L0, O, by decide, fun H2 F2 L2 => k _ us F2 L2⟩
    case key =>
    rintro G ⟨rfl, hna⟩
    rw [t0, if_neg hna] at k
    refine ⟨_, rfl, d, _, rfl, dpS (k := Sum.inr "asleep") hd lP_asleep, ?_⟩
    have L1 := L.dict (y := { x with asleep := false }) (sv := .non) (by show StopAt G .non x.stop; rw [es]; rfl) rfl rfl rfl
    have F1 : Fr d m t G (upd G d (.dK (stD m t ln { x with asleep := false } .non))) := Fr.ud
    generalize upd G d (.dK (stD m t ln { x with asleep := false } .non)) = G1 at *
    have O1 : Ok { x with asleep := false } := ⟨O.lm, O.w, O.a, O.b, O.pc, O.ln⟩
    obtain ⟨sv1, hd1, hz1⟩ := L1.hd
    have toDeed : ¬ (x.lets = true ∧ calledM x ≠ 0) → ∀ G', G' = G1 → ∃ (d' m' t' ln' : Addr) (us' : List V) (x' : Bd), [V.ref d] = [V.ref d'] ∧ Lw G' d' m' t' ln' us' x' ∧ Ok x' ∧ x'.sent.length < 900000 ∧ ∀ H' us'', Fr d' m' t' G' H' → Lw H' d' m' t' ln' us'' (deedM x').2 → Q (.str (deedM x').1) H' := fun hn G' e => by
      subst e
      refine ⟨d, m, t, ln, us, _, rfl, L1, O1, hsl, fun H2 us2 F2 L2 => ?_⟩
      rw [if_neg hn] at k
      exact k _ us2 (F1.trans F2) L2
    refine ⟨_, rfl, d, _, rfl, dg (k := Sum.inr "lets") hd1 lG_lets, _, rfl, ?_⟩
    refine ifN (fun hl => ?_) (fun hl => ?_)
    · have hl : x.lets = false := hl
      refine ⟨_, rfl, ?_⟩
      exact toDeed (fun z => by rw [hl] at z; cases z.1) _ rfl
    have hl : x.lets = true := hl
    refine ⟨_, rfl, rfl, _, rfl, ?_⟩
    rw [dI]
    refine ifB (fun h => ?_) (fun h => ?_)
    · have h := of_decide_eq_true h
      refine ⟨_, rfl, ?_⟩
      exact toDeed (fun z => z.2 h) _ rfl
    have hc := of_decide_eq_false h
    rw [if_pos ⟨hl, hc⟩] at k
    refine ⟨_, rfl, d, _, rfl, dg (k := Sum.inr "sp") hd1 lG_sp, ?_⟩
    refine ⟨_, rfl, Nat.zero_le _, fun l1 n1 => ?_⟩
    have r1 := same_upd' (o := .lst []) n1
    have h1 : upd G1 l1 (.lst []) l1 = some (.lst ([].map V.int)) := upd_same
    generalize upd G1 l1 (.lst []) = G2 at *
    refine ⟨_, rfl, _, rfl, _, _, rfl, rfl, (by show 2 ≤ sizeLine; decide), fun l2 n2 => ?_⟩
    have r2 := r1.trans (same_upd' (o := .lst [V.int x.sp, V.int (x.sp - 1)]) n2)
    have h1 := same_upd' (o := .lst [V.int x.sp, V.int (x.sp - 1)]) n2 _ _ h1
    have h2 : upd G2 l2 (.lst [V.int x.sp, V.int (x.sp - 1)]) l2 = some (.lst ([x.sp, x.sp - 1].map V.int)) := upd_same
    generalize upd G2 l2 (.lst [V.int x.sp, V.int (x.sp - 1)]) = G3 at *
    refine ⟨d, m, t, ln, l1, l2, us, { x with asleep := false }, [], [x.sp, x.sp - 1], rfl, L1.same r2, h1, h2, fun G4 v r4 hv => ?_⟩
    have s4 := r2.trans r4
    have L4 := L1.same s4
    have hv : StopAt G4 v ((firstBad [(true, x.sp), (true, x.sp - 1)]).map fun r => (r.1, [x.pc, r.2])) := hv
    obtain ⟨sv4, hd4, hz4⟩ := L4.hd
    cases e : firstBad [(true, x.sp), (true, x.sp - 1)] with
    | some r =>
      have ei : intM { x with asleep := false } = (("stopped" : Str), { x with asleep := false, stop := some (r.1, [x.pc, r.2]) }) := by
        unfold intM
        rw [e]
        rfl
      rw [ei] at k
      rw [e] at hv
      have hv' := hv
      obtain ⟨q, rfl, hq⟩ := hv
      refine ⟨_, rfl, _, rfl, ifN (fun _ => ?_) (fun h => by cases (of_decide_eq_true h))⟩
      exact ⟨_, rfl, _, rfl, d, m, t, ln, us, _, .ref q, (r.1, [x.pc, r.2]), rfl, L4, hv', fun H2 F2 L2 => k _ us ((F1.trans (Fr.of s4)).trans F2) L2⟩
    | none =>
      have ei : intM { x with asleep := false } = (("interrupt" : Str), begunM { x with asleep := false }) := by
        unfold intM
        rw [e]
      rw [ei] at k
      rw [e] at hv
      obtain rfl : v = .non := hv
      refine ⟨_, rfl, _, rfl, ifN (fun h => absurd rfl (of_decide_eq_false h)) (fun _ => ?_)⟩
      have tok := firstBad_ok e
      obtain ⟨t0', t1'⟩ := barM_ok (tok (true, x.sp) List.mem_cons_self)
      obtain ⟨u0, u1⟩ := barM_ok (tok (true, x.sp - 1) (List.mem_cons_of_mem _ List.mem_cons_self))
      have hs3 := putWM_sent x.sp x.pc { x with asleep := false }
      have hsx : ({ x with asleep := false } : Bd).sent.length = x.sent.length := rfl
      refine ⟨_, rfl, _, rfl, _, rfl, d, _, rfl, dg (k := Sum.inr "pc") hd4 lG_pc, d, m, t, ln, us, _, x.sp, x.pc, rfl, L4, O1, t0', t1', O.pc, by omega, fun G5 us5 F5 L5 => ?_⟩
      obtain ⟨sv5, hd5, hz5⟩ := L5.hd
      have O5 := O1.putM (a := x.sp) O.pc
      have ez : (putWM x.sp x.pc { x with asleep := false }).zero = x.zero := putWM_zero _ _ _
      refine ⟨_, rfl, _, rfl, _, _, rfl, rfl, _, rfl, d, _, rfl, dg (k := Sum.inr "zero") hd5 lG_zero, .inr ⟨_, rfl, ?_⟩⟩
      rw [ez]
      have b16 : W16 (b2n x.zero) := by unfold b2n; split <;> exact ⟨by decide, by decide⟩
      refine ⟨d, m, t, ln, us5, _, x.sp - 1, b2n x.zero, rfl, L5, O5, u0, u1, b16, by omega, fun G6 us6 F6 L6 => ?_⟩
      generalize hy : putWM (x.sp - 1) (b2n x.zero) (putWM x.sp x.pc { x with asleep := false }) = y at *
      have O6 : Ok y := by rw [← hy]; exact O5.putM b16
      have F16 := ((F1.trans (Fr.of s4)).trans F5).trans F6
      obtain ⟨sv6, hd6, hz6⟩ := L6.hd
      refine ⟨_, rfl, .inr (.inr (.inl ⟨rfl, .inl ⟨_, hd6⟩⟩)), ?_⟩
      intro g1 ng1
      have fg : g1 ≠ d := fun z => by rw [z, hd6] at ng1; cases ng1
      refine ⟨_, rfl, _, _, rfl, rfl, _, rfl, _, _, rfl, rfl, (by show (0 : Int) < 2; decide), _, _, rfl, rfl, ?_⟩
      refine ⟨upd_same, [(Sum.inr "sp", .int (x.sp - 2)), (Sum.inr "lets", .bl false), (Sum.inr "pc", .int (2 - calledM x % 2))], rfl, (by show 3 ≤ 15; decide), ?_⟩
      have em : mergeK [] [((Sum.inr "sp" : Key), V.int (x.sp - 2)), (Sum.inr "lets", .bl false), (Sum.inr "pc", .int (2 - calledM x % 2))] = [((Sum.inr "sp" : Key), V.int (x.sp - 2)), (Sum.inr "lets", .bl false), (Sum.inr "pc", .int (2 - calledM x % 2))] := by kernel_rfl
      rw [em, upd_upd]
      have r7 := same_upd' (o := .dK [((Sum.inr "sp" : Key), V.int (x.sp - 2)), (Sum.inr "lets", .bl false), (Sum.inr "pc", .int (2 - calledM x % 2))]) ng1
      have L7 := L6.same r7
      have hd7 := r7 _ _ hd6
      have hz7 := hz6.mono fun t xs e => r7 _ _ e
      refine ⟨d, g1, _, _, rfl, rfl, fg.symm, hd7, upd_same, (by show 12 + 3 ≤ sizeLine; decide), ?_⟩
      have em2 : mergeK (stD m t ln y sv6) [((Sum.inr "sp" : Key), V.int (x.sp - 2)), (Sum.inr "lets", .bl false), (Sum.inr "pc", .int (2 - calledM x % 2))] = stD m t ln { y with sp := x.sp - 2, lets := false, pc := 2 - calledM x % 2 } sv6 := by kernel_rfl
      rw [em2]
      have L8 := L7.dict (y := { y with sp := x.sp - 2, lets := false, pc := 2 - calledM x % 2 }) hz7 rfl rfl rfl
      have F8 := (F16.trans (Fr.of r7)).trans (Fr.ud (o := .dK (stD m t ln { y with sp := x.sp - 2, lets := false, pc := 2 - calledM x % 2 } sv6)))
      have p16 : W16 (2 - calledM x % 2) := ⟨by omega, by omega⟩
      have O8 : Ok { y with sp := x.sp - 2, lets := false, pc := 2 - calledM x % 2 } := ⟨O6.lm, O6.w, O6.a, O6.b, p16, O6.ln⟩
      refine ⟨_, rfl, d, m, t, ln, us6, _, 3, rfl, L8, O8, by decide, fun G9 F9 L9 => ?_⟩
      refine k _ us6 (F8.trans F9) ?_
      have eb : begunM { x with asleep := false } = passM 3 { y with sp := x.sp - 2, lets := false, pc := 2 - calledM x % 2 } := by
        unfold begunM
        have ep : (2 - calledM x % 2) = if Builtin.bitAnd (calledM { x with asleep := false }) 1 ≠ 0 then 1 else 2 := by
          have h1 : Builtin.bitAnd (calledM { x with asleep := false }) 1 = calledM x % 2 := and1_mod c16
          rw [h1]
          split <;> omega
        rw [ep]
        show passM 3 { putWM (x.sp - 1) (b2n x.zero) (putWM x.sp x.pc { x with asleep := false }) with sp := x.sp - 2, lets := false, pc := _ } = _
        rw [hy]
      rw [eb]
      exact L9
end
end Bh

/-! The law's drawn images and lines; its own board is made. -/
namespace Bh
open PySem PySem.Spec PyProof.Rows L2
theorem atB {ds : List Int} {lo hi : Int} (hd : ∀ d ∈ ds, lo ≤ d ∧ d ≤ hi) {j : Int} (h0 : 0 ≤ j) (h1 : j < ds.length) : ∃ d, atI (ds.map V.int) j = some (.int d) ∧ lo ≤ d ∧ d ≤ hi := by
  have hj : j.toNat < ds.length := by omega
  refine ⟨rd ds j, atI_rd h0 h1, ?_⟩
  unfold rd
  rw [List.getD_eq_getElem?_getD, List.getElem?_eq_getElem hj]
  exact hd _ (List.getElem_mem hj)
def lastB (n : Int) (ls : List (Int × Int)) : Int := (ls.getLast?.map (·.1)).getD n
theorem lastB_snoc (n : Int) (ls : List (Int × Int)) (r : Int × Int) : lastB n (ls ++ [r]) = r.1 := by
  unfold lastB
  rw [List.getLast?_append]
  rfl
theorem rise_snoc : ∀ {ls : List (Int × Int)} {n : Int} {r : Int × Int}, riseM n ls → lastB n ls < r.1 → 0 ≤ r.2 → r.2 ≤ 3 → riseM n (ls ++ [r])
  | [], n, r, _, h1, h2, h3 => ⟨h1, h2, h3, trivial⟩
  | u :: us, n, r, ⟨a, b, c, d⟩, h1, h2, h3 => ⟨a, b, c, rise_snoc (ls := us) d (by
      have e : lastB n (u :: us) = lastB u.1 us := by
        unfold lastB
        cases us with
        | nil => rfl
        | cons v vs =>
          rw [List.getLast?_cons_cons]
          cases h : (v :: vs).getLast? with
          | none => exact absurd (List.getLast?_eq_none_iff.mp h) (by intro q; cases q)
          | some z => rfl
      rw [e] at h1
      exact h1) h2 h3⟩
theorem tups_refs {H : Hp} : ∀ {us : List V} {ls : List (Int × Int)}, TupsAt H us ls → ∃ ps : List Addr, us = ps.map V.ref
  | _, _, .nil => ⟨[], rfl⟩
  | _, _, .cons h r => by
    obtain ⟨t, e, _⟩ := h
    obtain ⟨ps, e2⟩ := tups_refs r
    exact ⟨t :: ps, by rw [e, e2]; rfl⟩
def kvL (r : Int × Int) : Key × V := (Sum.inl r.1, .int r.2)
theorem tups_paired {K : PySem.W.Frag} {H : Hp} : ∀ {ps : List Addr} {ls : List (Int × Int)}, TupsAt H (ps.map V.ref) ls → Paired (fun p (kv : Key × V) => SqT K H p [kV kv.1, kv.2]) ps (ls.map kvL)
  | [], [], _ => .nil
  | [], _ :: _, h => by cases h
  | _ :: _, [], h => by cases h
  | p :: ps, u :: ls, h => by
    have h : TupsAt H (V.ref p :: ps.map V.ref) (u :: ls) := h
    cases h with
    | cons h r =>
      obtain ⟨t, e, q⟩ := h
      cases e
      exact .cons (SqT.of q) (tups_paired r)
theorem put_new {κ : Type} [DecidableEq κ] {kvs : List (κ × V)} {k : κ} {v : V} (h : ∀ e ∈ kvs, e.1 ≠ k) : putK kvs k v = kvs ++ [(k, v)] := by
  unfold putK
  rw [if_neg]
  intro z
  obtain ⟨e, he, h2⟩ := List.any_eq_true.mp z
  exact h e he (of_decide_eq_true h2)
theorem merge_rise : ∀ (ls : List (Int × Int)) (acc : List (Int × Int)) (n : Int), riseM n ls → (∀ r ∈ acc, r.1 ≤ n) → mergeK (acc.map kvL) (ls.map kvL) = (acc ++ ls).map kvL
  | [], acc, n, _, _ => by rw [List.append_nil]; rfl
  | u :: us, acc, n, ⟨a, b, c, d⟩, h => by
    show mergeK (putK (acc.map kvL) (Sum.inl u.1) (.int u.2)) (us.map kvL) = _
    rw [put_new (fun e he => by
      obtain ⟨r, hr, rfl⟩ := List.mem_map.mp he
      have := h r hr
      intro z
      have z : r.1 = u.1 := Sum.inl.inj z
      omega)]
    have := merge_rise us (acc ++ [u]) u.1 d (fun r hr => by
      rcases List.mem_append.mp hr with q | q
      · have := h r q
        omega
      · rw [List.mem_singleton.mp q]
        exact Int.le_refl _)
    rw [List.map_append] at this
    rw [show ([(Sum.inl u.1, V.int u.2)] : List (Key × V)) = [u].map kvL from rfl, this, List.append_assoc]
    rfl
theorem cut_from (ns : List Int) (k : Nat) : ∃ ms : List Int, cutV (ns.map V.int) (some (k : Int)) none = ms.map V.int ∧ ms.length = ns.length - k ∧ ∀ z ∈ ms, z ∈ ns := by
  unfold cutV
  rw [← List.map_drop, ← List.map_take]
  refine ⟨_, rfl, ?_, fun z hz => List.mem_of_mem_drop (List.mem_of_mem_take hz)⟩
  rw [List.length_take, List.length_drop, HT.sIx_none, HT.sIx_nat, List.length_map]
  omega
theorem cut_mem (ns : List Int) (lo hi : Option Int) : ∃ ms : List Int, cutV (ns.map V.int) lo hi = ms.map V.int ∧ ms.length ≤ ns.length ∧ ∀ z ∈ ms, z ∈ ns := by
  unfold cutV
  rw [← List.map_drop, ← List.map_take]
  refine ⟨_, rfl, ?_, fun z hz => List.mem_of_mem_drop (List.mem_of_mem_take hz)⟩
  rw [List.length_take, List.length_drop]
  omega
def spWordBy : Sp := fun vs H Q _ => ∃ n k : Int, vs = [.int n, .int k] ∧ 0 ≤ n ∧ 1 ≤ k ∧ k ≤ 1000 ∧ ∀ (H' : Hp) (v : Int), Same H H' → W16 v → Q (.int v) H'
def spDrawn : Sp := fun vs H Q _ => ∃ c : Int, vs = [.int c] ∧ ∀ (H' : Hp) (p : Addr) (ns : List Int), Same H H' → H p = none → H' p = some (.lst (ns.map V.int)) → 21 ≤ ns.length → ns.length ≤ 100 → WordsOk ns → Q (.ref p) H'
def spLineOf : Sp := fun vs H Q _ => ∃ c : Int, vs = [.int c] ∧ ∀ (H' : Hp) (l : Addr) (us : List V) (ls : List (Int × Int)), Same H H' → H l = none → H' l = some (.lst us) → TupsAt H' us ls → riseM 0 ls → ls.length ≤ 20 → Q (.ref l) H'
def spNewL : Sp := fun vs H Q _ => ∃ (im l : Addr) (us : List V) (ns : List Int) (ls : List (Int × Int)), vs = [.ref im, .ref l] ∧ H im = some (.lst (ns.map V.int)) ∧ ns.length ≤ 512 ∧ H l = some (.lst us) ∧ TupsAt H us ls ∧ riseM 0 ls ∧ ls.length ≤ 1000 ∧
  ∀ (H' : Hp) (d m t ln : Addr), Same H H' → H d = none → H m = none → H t = none → H ln = none → Lw H' d m t ln [] (newBd ns ls) → Q (.ref d) H'
theorem flat_rep' (n : Nat) (v : Int) : (List.replicate n [V.int v]).flatten = (List.replicate n v).map V.int := by
  induction n with
  | zero => rfl
  | succ n ih => rw [List.replicate_succ, List.flatten_cons, ih, List.replicate_succ, List.map_cons]; rfl
theorem wok_app {a b : List Int} (h1 : WordsOk a) (h2 : WordsOk b) : WordsOk (a ++ b) := fun v hv => by
  rcases List.mem_append.mp hv with q | q
  · exact h1 v q
  · exact h2 v q
section
variable {P : Program} {w : World} {K : PySem.W.Frag} {mg : Str → Option Value} {base : Heap} {CB CM : Addr}
abbrev sLwby : Stmt := topS 78
def scLwbyN : List Str := ["_law_number", "_law_many", "_law_kinds", "_law_op", "_law_places"]
theorem scLwby : FnScope scLwbyN ["_law_number", "_law_many"] (defScope sLwby) := ⟨rfl, rfl, rfl, by decide +kernel, rfl, by decide +kernel, by decide +kernel⟩
theorem ok_Lwby {f : Addr} {fd : FuncData} (F : Fun K "_law_word_by" "_law_word_by" sLwby f fd) (T : Tx K mg CB CM) : FnOk P w K mg base CX0 1 f fd ["_law_number", "_law_many"] (spWordBy) := by
  refine F.ok scLwby (fun vs H Q E h => by obtain ⟨_, _, rfl, _⟩ := h; rfl) (fun cdv A outer s H vs Q E hr h => ?_)
  have hu := hu_of hr
  have z_int := T.z_int
  obtain ⟨n, k, rfl, h0, k1, k2, q⟩ := h
  refine ⟨_, (pss_cons (ps_set (i := 2) scLwby.nd rfl (.inl rfl) (pe_lst (pa_cons pe_int (pa_cons pe_int (pa_cons pe_int (pa_cons pe_int (pa_cons pe_int (pa_cons pe_int (pa_cons pe_int (pa_cons pe_int (pa_cons pe_int (pa_cons pe_int (pa_cons pe_int (pa_cons pe_int (pa_cons pe_int (pa_cons pe_int (pa_cons pe_int (pa_cons pe_int (pa_cons pe_int (pa_cons pe_int (pa_cons pe_int (pa_cons pe_int (pa_cons pe_int (pa_cons pe_int (pa_cons pe_int (pa_cons pe_int (pa_cons pe_int (pa_cons pe_int (pa_cons pe_int (pa_cons pe_int (pa_cons pe_int (pa_cons pe_int pa_nil))))))))))))))))))))))))))))))))
    (pss_cons (ps_set (i := 3) scLwby.nd rfl (.inl rfl) (pe_ix ix_list (pv 2) (pe_op op_mod (pv 0) pe_int) (fun _ _ => rfl)))
    (pss_cons (ps_set (i := 0) scLwby.nd rfl (.inl rfl) (pe_op op_fdiv (pv 0) pe_int))
    (pss_cons (ps_if (pt_cmpR op_in_seq (pv 3) (pe_lst (pa_cons pe_int (pa_cons pe_int (pa_cons pe_int (pa_cons pe_int pa_nil))))) (by rfl)) (pss_one (ps_ret (pe_op op_add (pe_op op_mul pe_int (pv 3)) (pe_op op_mod (pv 0) (pv 1))))) pss_nil)
    (pss_cons (ps_set (i := 4) scLwby.nd rfl (.inl rfl) (pe_lst (pa_cons (pe_op op_add pe_int (pe_op op_mod (pv 0) pe_int)) (pa_cons (pe_op op_add pe_int (pe_op op_mod (pe_op op_fdiv (pv 0) pe_int) pe_int)) (pa_cons (pe_op op_add pe_int (pe_op op_mod (pv 0) pe_int)) (pa_cons (pe_op op_add pe_int (pe_op op_mod (pv 0) pe_int)) pa_nil))))))
    (pss_cons (ps_if (PW.pt (pw_and (pt_cmpR op_in_seq (pv 3) (pe_lst (pa_cons pe_int (pa_cons pe_int (pa_cons pe_int (pa_cons pe_int (pa_cons pe_int (pa_cons pe_int (pa_cons pe_int (pa_cons pe_int pa_nil))))))))) (by rfl)) (pw_and1 (pt_cmpR op_gt (pe_op op_mod (pv 0) pe_int) pe_int (nomark _))))) (pss_one (ps_ret (pe_op op_add (pe_op op_mul pe_int (pv 3)) (pe_ix ix_list (pv 4) (pe_op op_mod (pe_op op_fdiv (pv 0) pe_int) pe_int) (fun _ _ => rfl))))) pss_nil)
    (pss_one (ps_ret (pe_ix ix_list (pe_lst (pa_cons (pe_op op_add (pe_op op_mul pe_int (pv 3)) (pe_op op_mod (pv 0) pe_int)) (pa_cons (pe_op op_mod (pv 0) pe_int) pa_nil))) (pe_callTy call_int1 (by rfl) z_int (by decide +kernel) (pa_cons (pe_cmpR op_eq (pe_op op_mod (pv 0) pe_int) pe_int (nomark _)) pa_nil)) (fun _ _ => rfl)))))))))), ?_⟩
  have s0 : Same H H := Same.refl _
  refine ⟨(by show 30 ≤ sizeLine; decide), fun l1 n1 => ?_⟩
  have r1 := same_upd' (o := .lst [V.int 1, V.int 2, V.int 3, V.int 4, V.int 5, V.int 6, V.int 7, V.int 8, V.int 9, V.int 10, V.int 11, V.int 12, V.int 13, V.int 14, V.int 15, V.int 16, V.int 17, V.int 18, V.int 19, V.int 20, V.int 21, V.int 22, V.int 1, V.int 3, V.int 2, V.int 17, V.int 18, V.int 15, V.int 13, V.int 4]) n1
  have h1 : upd H l1 (.lst [V.int 1, V.int 2, V.int 3, V.int 4, V.int 5, V.int 6, V.int 7, V.int 8, V.int 9, V.int 10, V.int 11, V.int 12, V.int 13, V.int 14, V.int 15, V.int 16, V.int 17, V.int 18, V.int 19, V.int 20, V.int 21, V.int 22, V.int 1, V.int 3, V.int 2, V.int 17, V.int 18, V.int 15, V.int 13, V.int 4]) l1 = some (.lst (([1, 2, 3, 4, 5, 6, 7, 8, 9, 10, 11, 12, 13, 14, 15, 16, 17, 18, 19, 20, 21, 22, 1, 3, 2, 17, 18, 15, 13, 4] : List Int).map V.int)) := upd_same
  have s1 := s0.trans r1
  generalize upd H l1 (.lst [V.int 1, V.int 2, V.int 3, V.int 4, V.int 5, V.int 6, V.int 7, V.int 8, V.int 9, V.int 10, V.int 11, V.int 12, V.int 13, V.int 14, V.int 15, V.int 16, V.int 17, V.int 18, V.int 19, V.int 20, V.int 21, V.int 22, V.int 1, V.int 3, V.int 2, V.int 17, V.int 18, V.int 15, V.int 13, V.int 4]) = G1 at *
  obtain ⟨op, eop, o1, o2⟩ := atB (lo := 1) (hi := 22) (ds := [1, 2, 3, 4, 5, 6, 7, 8, 9, 10, 11, 12, 13, 14, 15, 16, 17, 18, 19, 20, 21, 22, 1, 3, 2, 17, 18, 15, 13, 4]) (by decide) (j := n % 30) (by omega) (by show n % 30 < 30; omega)
  refine ⟨_, rfl, _, rfl, _, _, rfl, rfl, (by show (0 : Int) < 30; decide), l1, _, _, _, rfl, rfl, SqL.of h1, eop, ?_⟩
  refine ⟨_, rfl, _, _, rfl, rfl, ⟨by decide, by decide⟩, ?_⟩
  have hn : 0 ≤ n / 30 := Int.ediv_nonneg h0 (by decide)
  refine ⟨_, rfl, (by show 4 ≤ sizeLine; decide), fun l2 n2 => ?_⟩
  have r2 := same_upd' (o := .lst [V.int 12, V.int 13, V.int 14, V.int 15]) n2
  have h2 : upd G1 l2 (.lst [V.int 12, V.int 13, V.int 14, V.int 15]) l2 = some (.lst (([12, 13, 14, 15] : List Int).map V.int)) := upd_same
  have s2 := s1.trans r2
  generalize upd G1 l2 (.lst [V.int 12, V.int 13, V.int 14, V.int 15]) = G2 at *
  refine ⟨l2, _, rfl, .inl (SqL.of h2), rfl, flat_ints _, _, rfl, ?_⟩
  rw [if_neg Bool.false_ne_true, in_ints]
  refine ifB (fun h => ?_) (fun h => ?_)
  · have h := of_decide_eq_true h
    have h : op ≤ 15 := by
      simp only [List.mem_cons, List.not_mem_nil, or_false] at h
      omega
    have q1 := Int.emod_nonneg (n / 30) (show k ≠ 0 by omega)
    have q2 := Int.emod_lt_of_pos (n / 30) (show 0 < k by omega)
    exact ⟨_, rfl, _, _, rfl, rfl, .inl ⟨by decide, by decide⟩, _, rfl, _, rfl, _, _, rfl, rfl, (by show (0 : Int) < k; omega), _, _, rfl, rfl, q _ _ s2 ⟨by omega, by omega⟩⟩
  have hN4 : 0 ≤ (n / 30) / 4 := Int.ediv_nonneg hn (by decide)
  refine ⟨_, rfl, _, _, rfl, rfl, (by show (0 : Int) < 12; decide), _, _, rfl, rfl, _, rfl, _, _, rfl, rfl, ⟨by decide, by decide⟩, _, _, rfl, rfl, (by show (0 : Int) < 6; decide), _, _, rfl, rfl, _, rfl, _, _, rfl, rfl, (by show (0 : Int) < 12; decide), _, _, rfl, rfl, _, rfl, _, _, rfl, rfl, (by show (0 : Int) < 5; decide), _, _, rfl, rfl, (by show 4 ≤ sizeLine; decide), fun l3 n3 => ?_⟩
  have r3 := same_upd' (o := .lst [V.int (512 + (n / 30) % 12), V.int (768 + (n / 30) / 4 % 6), V.int (512 + (n / 30) % 12), V.int (520 + (n / 30) % 5)]) n3
  have h3 : upd G2 l3 (.lst [V.int (512 + (n / 30) % 12), V.int (768 + (n / 30) / 4 % 6), V.int (512 + (n / 30) % 12), V.int (520 + (n / 30) % 5)]) l3 = some (.lst (([(512 + (n / 30) % 12), (768 + (n / 30) / 4 % 6), (512 + (n / 30) % 12), (520 + (n / 30) % 5)] : List Int).map V.int)) := upd_same
  have s3 := s2.trans r3
  generalize upd G2 l3 (.lst [V.int (512 + (n / 30) % 12), V.int (768 + (n / 30) / 4 % 6), V.int (512 + (n / 30) % 12), V.int (520 + (n / 30) % 5)]) = G3 at *
  refine ⟨_, rfl, (by show 8 ≤ sizeLine; decide), fun l4 n4 => ?_⟩
  have r4 := same_upd' (o := .lst [V.int 2, V.int 3, V.int 4, V.int 5, V.int 6, V.int 7, V.int 8, V.int 9]) n4
  have h4 : upd G3 l4 (.lst [V.int 2, V.int 3, V.int 4, V.int 5, V.int 6, V.int 7, V.int 8, V.int 9]) l4 = some (.lst (([2, 3, 4, 5, 6, 7, 8, 9] : List Int).map V.int)) := upd_same
  have h3 := r4 _ _ h3
  have s4 := s3.trans r4
  generalize upd G3 l4 (.lst [V.int 2, V.int 3, V.int 4, V.int 5, V.int 6, V.int 7, V.int 8, V.int 9]) = G4 at *
  refine ⟨l4, _, rfl, .inl (SqL.of h4), rfl, flat_ints _, _, rfl, ?_⟩
  rw [if_neg Bool.false_ne_true, in_ints]
  have last : ∃ v5, ∀ H5 : Hp, True := ⟨0, fun _ => trivial⟩
  apply joinR (I := fun G => Same H G)
  case body =>
    intro kk
    obtain ⟨G5, eG⟩ : ∃ G5, G5 = G4 := ⟨_, rfl⟩
    rw [← eG] at s4 h3 ⊢
    clear eG
    refine ifB (fun h => ?_) (fun h => ?_)
    rotate_left
    · exact kk G5 s4
    · have h := of_decide_eq_true h
      have h : op ≤ 9 := by
        simp only [List.mem_cons, List.not_mem_nil, or_false] at h
        omega
      refine ⟨_, rfl, _, _, rfl, rfl, (by show (0 : Int) < 29; decide), _, _, rfl, rfl, _, rfl, ifB (fun h' => ?_) (fun h' => kk _ s4)⟩
      have hm4 := Int.emod_nonneg ((n / 30) / 2) (show (4 : Int) ≠ 0 by decide)
      have hm5 := Int.emod_lt_of_pos ((n / 30) / 2) (show (0 : Int) < 4 by decide)
      obtain ⟨pl, epl, p1, p2⟩ := atB (lo := 0) (hi := 1023) (ds := [512 + (n / 30) % 12, 768 + (n / 30) / 4 % 6, 512 + (n / 30) % 12, 520 + (n / 30) % 5]) (fun z hz => by
        simp only [List.mem_cons, List.not_mem_nil, or_false] at hz
        omega) (j := (n / 30) / 2 % 4) hm4 (by show (n / 30) / 2 % 4 < 4; exact hm5)
      exact ⟨_, rfl, _, _, rfl, rfl, .inl ⟨by decide, by decide⟩, _, rfl, _, rfl, _, _, rfl, rfl, ⟨by decide, by decide⟩, _, _, rfl, rfl, (by show (0 : Int) < 4; decide), l3, _, _, _, rfl, rfl, SqL.of h3, epl, _, _, rfl, rfl, q _ _ s4 ⟨by omega, by omega⟩⟩
  case key =>
  rintro G4 s4
  refine ⟨_, rfl, _, _, rfl, rfl, .inl ⟨by decide, by decide⟩, _, rfl, _, _, rfl, rfl, (by show (0 : Int) < 1024; decide), _, _, rfl, rfl, _, rfl, _, _, rfl, rfl, (by show (0 : Int) < 65536; decide), (by show 2 ≤ sizeLine; decide), fun l5 n5 => ?_⟩
  have r5 := same_upd' (o := .lst [V.int (1024 * op + (n / 30) % 1024), V.int ((n / 30) % 65536)]) n5
  have h5 : upd G4 l5 (.lst [V.int (1024 * op + (n / 30) % 1024), V.int ((n / 30) % 65536)]) l5 = some (.lst (([(1024 * op + (n / 30) % 1024), ((n / 30) % 65536)] : List Int).map V.int)) := upd_same
  have s5 := s4.trans r5
  generalize upd G4 l5 (.lst [V.int (1024 * op + (n / 30) % 1024), V.int ((n / 30) % 65536)]) = G5 at *
  have q1 := Int.emod_nonneg (n / 30) (show (1024 : Int) ≠ 0 by decide)
  have q2 := Int.emod_lt_of_pos (n / 30) (show (0 : Int) < 1024 by decide)
  have q3 := Int.emod_nonneg (n / 30) (show (65536 : Int) ≠ 0 by decide)
  have q4 := Int.emod_lt_of_pos (n / 30) (show (0 : Int) < 65536 by decide)
  have pick : ∀ c : Bool, atI (([1024 * op + (n / 30) % 1024, (n / 30) % 65536] : List Int).map V.int) (if c = true then 1 else 0) = some (.int (if c = true then (n / 30) % 65536 else 1024 * op + (n / 30) % 1024)) := fun c => by cases c <;> rfl
  refine ⟨_, rfl, _, _, rfl, rfl, (by show (0 : Int) < 97; decide), rfl, .inr ⟨_, rfl, l5, _, _, _, rfl, rfl, SqL.of h5, pick _, q _ _ s5 ?_⟩⟩
  split
  · exact ⟨q3, by omega⟩
  · exact ⟨by omega, by omega⟩
abbrev sLdimg : Stmt := topS 79
def scLdimgN : List Str := ["_law_cell_here", "_law_row", "_law_many", "_law_numbers", "_law_image", "_law_k", "_law_number"]
theorem scLdimg : FnScope scLdimgN ["_law_cell_here"] (defScope sLdimg) := ⟨rfl, rfl, rfl, by decide +kernel, rfl, by decide +kernel, by decide +kernel⟩
theorem ok_Ldimg {f : Addr} {fd : FuncData} {fL_dig : Addr} {dL_dig : FuncData} {fL_wby : Addr} {dL_wby : FuncData} (F : Fun K "_law_drawn_image" "_law_drawn_image" sLdimg f fd) (T : Tx K mg CB CM)
    (L_dig : CalF P w K mg base 1 "_law_digits" ["_law_cell_here", "_law_many"] (spDig) fL_dig dL_dig)
    (L_wby : CalF P w K mg base 1 "_law_word_by" ["_law_number", "_law_many"] (spWordBy) fL_wby dL_wby) : FnOk P w K mg base CX0 2 f fd ["_law_cell_here"] (spDrawn) := by
  refine F.ok scLdimg (fun vs H Q E h => by obtain ⟨_, rfl, _⟩ := h; rfl) (fun cdv A outer s H vs Q E hr h => ?_)
  have hu := hu_of hr
  have z_len := T.z_len
  have z_range := T.z_range
  obtain ⟨c, rfl, q⟩ := h
  refine ⟨_, (pss_cons (ps_set (i := 1) scLdimg.nd rfl (.inr rfl) (pe_call L_dig.G (hr.mono (by decide)) (by rfl) L_dig.g L_dig.kp L_dig.b .nil pass0 (pa_cons (pv 0) (pa_cons pe_int pa_nil))))
    (pss_cons (ps_set (i := 2) scLdimg.nd rfl (.inr rfl) (pe_op op_add pe_int (pe_op op_mod (pe_ix ix_list (pv 1) pe_int (fun _ _ => rfl)) pe_int)))
    (pss_cons (ps_setLc (i := 3) (own := [("_law_k", 5)]) (g := gName 5) (tt := tYes) (by rfl) scLdimg.nd rfl rfl rfl (pi_range1 (by rfl) z_range (pa_cons (pv 2) pa_nil)) (blkOk_by (own := [("_law_k", 5)]) (N := scLdimgN) (sc := defScope sLdimg) (by decide +kernel)) (fun _ _ _ _ _ => (pg_name (i := 5) scLdimg.nd rfl (.inl rfl))) (fun _ _ _ _ _ => pts_nil) (fun _ _ _ _ _ => (pe_op op_add (pe_op op_mul (pe_ix (ix_listK (K := K)) (pv 1) (pe_op op_mod (pv 5) pe_int) (fun _ _ => rfl)) pe_int) (pe_ix (ix_listK (K := K)) (pv 1) (pe_op op_mod (pe_op op_add (pe_op op_mul pe_int (pv 5)) pe_int) pe_int) (fun _ _ => rfl)))))
    (pss_cons (ps_set (i := 4) scLdimg.nd rfl (.inl rfl) (pe_lst (pa_cons (pe_op op_add (pe_op op_mul pe_int pe_int) pe_int) (pa_cons (pe_op op_add (pe_op op_mul pe_int pe_int) pe_int) (pa_cons (pe_op op_add (pe_op op_mul pe_int pe_int) pe_int) pa_nil)))))
    (pss_cons (ps_set (i := 4) scLdimg.nd rfl (.inl rfl) (pe_op op_cat (pv 4) (pe_lst (pa_cons (pe_op op_add pe_int pe_int) (pa_cons (pe_op op_add (pe_op op_mul pe_int pe_int) pe_int) (pa_cons (pe_call L_wby.G (hr.mono (by decide)) (by rfl) L_wby.g L_wby.kp L_wby.b .nil pass0 (pa_cons (pe_ix ix_list (pv 3) pe_int (fun _ _ => rfl)) (pa_cons (pv 2) pa_nil))) (pa_cons (pe_op op_mul pe_int pe_int) pa_nil)))))))
    (pss_cons (ps_set (i := 4) scLdimg.nd rfl (.inl rfl) (pe_op op_cat (pv 4) (pe_lst (pa_cons (pe_op op_add pe_int pe_int) (pa_cons (pe_op op_add (pe_op op_mul pe_int pe_int) pe_int) (pa_cons (pe_call L_wby.G (hr.mono (by decide)) (by rfl) L_wby.g L_wby.kp L_wby.b .nil pass0 (pa_cons (pe_ix ix_list (pv 3) pe_int (fun _ _ => rfl)) (pa_cons (pv 2) pa_nil))) (pa_cons (pe_op op_mul pe_int pe_int) (pa_cons (pe_op op_mul pe_int pe_int) pa_nil))))))))
    (pss_cons (ps_set (i := 4) scLdimg.nd rfl (.inl rfl) (pe_op op_cat (pv 4) (pe_lst (pa_cons (pe_op op_add pe_int (pe_op op_mod (pe_ix ix_list (pv 1) pe_int (fun _ _ => rfl)) pe_int)) (pa_cons (pe_op op_add (pe_op op_mul pe_int pe_int) pe_int) (pa_cons (pe_op op_add pe_int (pe_op op_mod (pe_ix ix_list (pv 1) pe_int (fun _ _ => rfl)) pe_int)) (pa_cons (pe_op op_add (pe_op op_mul pe_int pe_int) pe_int) (pa_cons (pe_op op_add (pe_op op_mul pe_int pe_int) (pe_op op_mod (pe_ix ix_list (pv 1) pe_int (fun _ _ => rfl)) pe_int)) pa_nil))))))))
    (pss_one (ps_ret (pe_op op_cat (pv 4) (pe_lc (own := [("_law_number", 6)]) (g := gName 6) (tt := tYes) (by rfl) scLdimg.nd (pi_list (pe_slice sl_list (pv 3) (po_some (pe_callB call_len_seq (by rfl) z_len PySem.boot_len (pa_cons (pv 4) pa_nil))) po_none)) (blkOk_by (own := [("_law_number", 6)]) (N := scLdimgN) (sc := defScope sLdimg) (by decide +kernel)) (fun _ _ _ _ _ => (pg_name (i := 6) scLdimg.nd rfl (.inl rfl))) (fun _ _ _ _ _ => pts_nil) (fun _ _ _ _ _ => (pe_call L_wby.G (hr.mono (by decide)) (by rfl) L_wby.g L_wby.kp L_wby.b .nil pass0 (pa_cons (pv 6) (pa_cons (pv 2) pa_nil))))))))))))))), ?_⟩
  have s0 : Same H H := Same.refl _
  refine ⟨_, rfl, c, 60, rfl, by decide, fun G0 r ds hlen hdg sm0 nr hR => ?_⟩
  obtain ⟨d0, e0, b0, c0⟩ := atN hdg (j := 0) (by decide) (by rw [hlen]; decide)
  obtain ⟨d1, e1, b1, c1⟩ := atN hdg (j := 1) (by decide) (by rw [hlen]; decide)
  obtain ⟨d2, e2, b2, c2⟩ := atN hdg (j := 2) (by decide) (by rw [hlen]; decide)
  obtain ⟨d3, e3, b3, c3⟩ := atN hdg (j := 3) (by decide) (by rw [hlen]; decide)
  refine ⟨_, rfl, r, _, 0, _, rfl, rfl, SqL.of hR, e0, _, _, rfl, rfl, (by show (0 : Int) < 60; decide), _, _, rfl, rfl, ?_⟩
  have hm : 24 ≤ 24 + d0 % 60 ∧ 24 + d0 % 60 ≤ 83 := by omega
  refine ⟨_, rfl, (24 + d0 % 60), rfl, by omega, by omega, fun D nD => ?_⟩
  refine lc_range (lo := 0) (n := (24 + d0 % 60).toNat) (fun i H' => Same G0 H' ∧ ∃ us : List Int, us.length = i ∧ (∀ u ∈ us, 0 ≤ u) ∧ H' D = some (.lst (us.map V.int))) ⟨same_upd' nD, [], rfl, (fun _ h => by cases h), upd_same⟩ ?_ ?_
  · rintro i H' hi ⟨sm, us, hu, hu0, hD⟩
    have hR := sm _ _ hR
    have him : i < 83 := by omega
    obtain ⟨u1, f1, g1, g2⟩ := atN hdg (j := (0 + (i : Int)) % 60) (by omega) (by rw [hlen]; omega)
    obtain ⟨u2, f2, g3, g4⟩ := atN hdg (j := (7 * (0 + (i : Int)) + 3) % 60) (by omega) (by rw [hlen]; omega)
    refine ⟨rfl, ?_⟩
    refine ⟨_, rfl, _, rfl, _, _, rfl, rfl, (by show (0 : Int) < 60; decide), r, _, _, _, rfl, rfl, SqL.of hR, f1, _, _, rfl, rfl, .inr ⟨by decide, by decide⟩, _, rfl, _, rfl, _, _, rfl, rfl, .inl ⟨by decide, by decide⟩, _, _, rfl, rfl, _, _, rfl, rfl, (by show (0 : Int) < 60; decide), r, _, _, _, rfl, rfl, SqL.of hR, f2, _, _, rfl, rfl, ?_⟩
    refine ⟨_, hD, ?_, same_of sm nD, us ++ [u1 * 1009 + u2], ?_, ?_, ?_⟩
    · rw [List.length_map, hu]
      exact small1000 (by omega)
    · rw [List.length_append, hu]
      rfl
    · intro u hu'
      rcases List.mem_append.mp hu' with z | z
      · exact hu0 u z
      · rw [List.mem_singleton.mp z]
        omega
    · rw [upd_same, List.map_append]
      rfl
  rintro G1 ⟨sm1, us, hu, hu0, hD⟩
  have hR := sm1 _ _ hR
  have s1 := sm0.trans sm1
  clear sm0 sm1
  have huM : us.length = (24 + d0 % 60).toNat := hu
  have gu : ∀ j : Int, 0 ≤ j → j < 24 → ∃ u, atI (us.map V.int) j = some (.int u) ∧ 0 ≤ u := fun j j0 j1 => by
    refine ⟨rd us j, atI_rd j0 (by omega), ?_⟩
    unfold rd
    rw [List.getD_eq_getElem?_getD, List.getElem?_eq_getElem (show j.toNat < us.length by omega)]
    exact hu0 _ (List.getElem_mem _)
  obtain ⟨v3, x3, y3⟩ := gu 3 (by decide) (by decide)
  obtain ⟨v7, x7, y7⟩ := gu 7 (by decide) (by decide)
  refine ⟨_, _, rfl, rfl, .inl ⟨by decide, by decide⟩, _, _, rfl, rfl, _, _, rfl, rfl, .inl ⟨by decide, by decide⟩, _, _, rfl, rfl, _, _, rfl, rfl, .inl ⟨by decide, by decide⟩, _, _, rfl, rfl, (by show 3 ≤ sizeLine; decide), fun l2 n2 => ?_⟩
  have r2 := same_upd' (o := .lst [V.int (1024 * 12 + 12), V.int (1024 * 12 + 3), V.int (1024 * 12 + 7)]) n2
  have h2 : upd G1 l2 (.lst [V.int (1024 * 12 + 12), V.int (1024 * 12 + 3), V.int (1024 * 12 + 7)]) l2 = some (.lst (([1024 * 12 + 12, 1024 * 12 + 3, 1024 * 12 + 7] : List Int).map V.int)) := upd_same
  have w2 : WordsOk [1024 * 12 + 12, 1024 * 12 + 3, 1024 * 12 + 7] := by intro z hz; simp only [List.mem_cons, List.not_mem_nil, or_false] at hz; omega
  have hR := r2 _ _ hR
  have hD := r2 _ _ hD
  have s2 := s1.trans r2
  generalize upd G1 l2 (.lst [V.int (1024 * 12 + 12), V.int (1024 * 12 + 3), V.int (1024 * 12 + 7)]) = G2 at *
  generalize eI2 : ([1024 * 12 + 12, 1024 * 12 + 3, 1024 * 12 + 7] : List Int) = I2 at *
  have iL2 : I2.length = 3 := by rw [← eI2]; rfl
  refine ⟨_, rfl, _, _, rfl, rfl, _, _, rfl, rfl, .inl ⟨by decide, by decide⟩, _, _, rfl, rfl, _, rfl, D, _, _, _, rfl, rfl, SqL.of hD, x3, _, rfl, v3, (24 + d0 % 60), rfl, y3, by omega, by omega, fun Gw3 z3 sw3 wz3 => ?_⟩
  have hR := sw3 _ _ hR
  have hD := sw3 _ _ hD
  have h2 := sw3 _ _ h2
  have s2 := s2.trans sw3
  obtain ⟨G2, eG2⟩ : ∃ G2, G2 = Gw3 := ⟨_, rfl⟩
  rw [← eG2] at hR hD h2 s2 ⊢
  clear eG2
  refine ⟨_, _, rfl, rfl, .inl ⟨by decide, by decide⟩, (by show 4 ≤ sizeLine; decide), fun l3 n3 => ?_⟩
  have r3 := same_upd' (o := .lst [V.int (1024 + 1), V.int (1024 * 3 + 770), V.int z3, V.int (1024 * 21)]) n3
  have p3 : upd G2 l3 (.lst [V.int (1024 + 1), V.int (1024 * 3 + 770), V.int z3, V.int (1024 * 21)]) l3 = some (.lst (([(1024 + 1), (1024 * 3 + 770), z3, (1024 * 21)] : List Int).map V.int)) := upd_same
  have h2 := r3 _ _ h2
  have hR := r3 _ _ hR
  have hD := r3 _ _ hD
  have s3 := s2.trans r3
  generalize upd G2 l3 (.lst [V.int (1024 + 1), V.int (1024 * 3 + 770), V.int z3, V.int (1024 * 21)]) = G3 at *
  have wp3 : WordsOk ([(1024 + 1), (1024 * 3 + 770), z3, (1024 * 21)] : List Int) := by
    intro z hz
    simp only [List.mem_cons, List.not_mem_nil, or_false] at hz
    rcases hz with h | h | h | h
    · omega
    · omega
    · rw [h]; exact wz3
    · omega
  refine ⟨_, _, _, _, rfl, rfl, h2, p3, (by rw [List.length_map, List.length_map, iL2]; exact hsz (show 3 + 4 ≤ 100000 by decide)), fun l4 n4 => ?_⟩
  rw [← List.map_append]
  have w4 := wok_app w2 wp3
  have iL4 : (I2 ++ ([(1024 + 1), (1024 * 3 + 770), z3, (1024 * 21)] : List Int)).length = 7 := by rw [List.length_append, iL2]; rfl
  generalize eI4 : I2 ++ ([(1024 + 1), (1024 * 3 + 770), z3, (1024 * 21)] : List Int) = I4 at *
  have r4 := same_upd' (o := .lst (I4.map V.int)) n4
  have h4 : upd G3 l4 (.lst (I4.map V.int)) l4 = some (.lst (I4.map V.int)) := upd_same
  have hR := r4 _ _ hR
  have hD := r4 _ _ hD
  have s4 := s3.trans r4
  generalize upd G3 l4 (.lst (I4.map V.int)) = G4 at *
  refine ⟨_, rfl, _, _, rfl, rfl, _, _, rfl, rfl, .inl ⟨by decide, by decide⟩, _, _, rfl, rfl, _, rfl, D, _, _, _, rfl, rfl, SqL.of hD, x7, _, rfl, v7, (24 + d0 % 60), rfl, y7, by omega, by omega, fun Gw7 z7 sw7 wz7 => ?_⟩
  have hR := sw7 _ _ hR
  have hD := sw7 _ _ hD
  have h4 := sw7 _ _ h4
  have s4 := s4.trans sw7
  obtain ⟨G4, eG4⟩ : ∃ G4, G4 = Gw7 := ⟨_, rfl⟩
  rw [← eG4] at hR hD h4 s4 ⊢
  clear eG4
  refine ⟨_, _, rfl, rfl, .inl ⟨by decide, by decide⟩, _, _, rfl, rfl, .inl ⟨by decide, by decide⟩, (by show 5 ≤ sizeLine; decide), fun l5 n5 => ?_⟩
  have r5 := same_upd' (o := .lst [V.int (1024 + 2), V.int (1024 * 3 + 770), V.int z7, V.int (1024 * 21), V.int (1024 * 19)]) n5
  have p5 : upd G4 l5 (.lst [V.int (1024 + 2), V.int (1024 * 3 + 770), V.int z7, V.int (1024 * 21), V.int (1024 * 19)]) l5 = some (.lst (([(1024 + 2), (1024 * 3 + 770), z7, (1024 * 21), (1024 * 19)] : List Int).map V.int)) := upd_same
  have h4 := r5 _ _ h4
  have hR := r5 _ _ hR
  have hD := r5 _ _ hD
  have s5 := s4.trans r5
  generalize upd G4 l5 (.lst [V.int (1024 + 2), V.int (1024 * 3 + 770), V.int z7, V.int (1024 * 21), V.int (1024 * 19)]) = G5 at *
  have wp5 : WordsOk ([(1024 + 2), (1024 * 3 + 770), z7, (1024 * 21), (1024 * 19)] : List Int) := by
    intro z hz
    simp only [List.mem_cons, List.not_mem_nil, or_false] at hz
    rcases hz with h | h | h | h | h
    · omega
    · omega
    · rw [h]; exact wz7
    · omega
    · omega
  refine ⟨_, _, _, _, rfl, rfl, h4, p5, (by rw [List.length_map, List.length_map, iL4]; exact hsz (show 7 + 5 ≤ 100000 by decide)), fun l6 n6 => ?_⟩
  rw [← List.map_append]
  have w6 := wok_app w4 wp5
  have iL6 : (I4 ++ ([(1024 + 2), (1024 * 3 + 770), z7, (1024 * 21), (1024 * 19)] : List Int)).length = 12 := by rw [List.length_append, iL4]; rfl
  generalize eI6 : I4 ++ ([(1024 + 2), (1024 * 3 + 770), z7, (1024 * 21), (1024 * 19)] : List Int) = I6 at *
  have r6 := same_upd' (o := .lst (I6.map V.int)) n6
  have h6 : upd G5 l6 (.lst (I6.map V.int)) l6 = some (.lst (I6.map V.int)) := upd_same
  have hR := r6 _ _ hR
  have hD := r6 _ _ hD
  have s6 := s5.trans r6
  generalize upd G5 l6 (.lst (I6.map V.int)) = G6 at *
  refine ⟨_, rfl, _, rfl, r, _, 1, _, rfl, rfl, SqL.of hR, e1, _, _, rfl, rfl, (by show (0 : Int) < 40; decide), _, _, rfl, rfl, _, _, rfl, rfl, .inl ⟨by decide, by decide⟩, _, _, rfl, rfl, _, rfl, r, _, 2, _, rfl, rfl, SqL.of hR, e2, _, _, rfl, rfl, (by show (0 : Int) < 4; decide), _, _, rfl, rfl, _, _, rfl, rfl, .inl ⟨by decide, by decide⟩, _, _, rfl, rfl, _, _, rfl, rfl, .inl ⟨by decide, by decide⟩, _, rfl, r, _, 3, _, rfl, rfl, SqL.of hR, e3, _, _, rfl, rfl, (by show (0 : Int) < 3; decide), _, _, rfl, rfl, (by show 5 ≤ sizeLine; decide), fun l7 n7 => ?_⟩
  have r7 := same_upd' (o := .lst [V.int (1024 + d1 % 40), V.int (1024 * 3 + 769), V.int (1024 + d2 % 4), V.int (1024 * 3 + 771), V.int (1024 * 20 + d3 % 3)]) n7
  have p7 : upd G6 l7 (.lst [V.int (1024 + d1 % 40), V.int (1024 * 3 + 769), V.int (1024 + d2 % 4), V.int (1024 * 3 + 771), V.int (1024 * 20 + d3 % 3)]) l7 = some (.lst (([(1024 + d1 % 40), (1024 * 3 + 769), (1024 + d2 % 4), (1024 * 3 + 771), (1024 * 20 + d3 % 3)] : List Int).map V.int)) := upd_same
  have h6 := r7 _ _ h6
  have hR := r7 _ _ hR
  have hD := r7 _ _ hD
  have s7 := s6.trans r7
  generalize upd G6 l7 (.lst [V.int (1024 + d1 % 40), V.int (1024 * 3 + 769), V.int (1024 + d2 % 4), V.int (1024 * 3 + 771), V.int (1024 * 20 + d3 % 3)]) = G7 at *
  have wp7 : WordsOk ([(1024 + d1 % 40), (1024 * 3 + 769), (1024 + d2 % 4), (1024 * 3 + 771), (1024 * 20 + d3 % 3)] : List Int) := by
    intro z hz
    simp only [List.mem_cons, List.not_mem_nil, or_false] at hz
    rcases hz with h | h | h | h | h <;> omega
  refine ⟨_, _, _, _, rfl, rfl, h6, p7, (by rw [List.length_map, List.length_map, iL6]; exact hsz (show 12 + 5 ≤ 100000 by decide)), fun l8 n8 => ?_⟩
  rw [← List.map_append]
  have w8 := wok_app w6 wp7
  have iL8 : (I6 ++ ([(1024 + d1 % 40), (1024 * 3 + 769), (1024 + d2 % 4), (1024 * 3 + 771), (1024 * 20 + d3 % 3)] : List Int)).length = 17 := by rw [List.length_append, iL6]; rfl
  generalize eI8 : I6 ++ ([(1024 + d1 % 40), (1024 * 3 + 769), (1024 + d2 % 4), (1024 * 3 + 771), (1024 * 20 + d3 % 3)] : List Int) = I8 at *
  have r8 := same_upd' (o := .lst (I8.map V.int)) n8
  have h8 : upd G7 l8 (.lst (I8.map V.int)) l8 = some (.lst (I8.map V.int)) := upd_same
  have hR := r8 _ _ hR
  have hD := r8 _ _ hD
  have s8 := s7.trans r8
  generalize upd G7 l8 (.lst (I8.map V.int)) = G8 at *
  refine ⟨_, rfl, _, rfl, _, rfl, l8, _, rfl, .inl (SqL.of h8), _, rfl, D, _, rfl, SqL.of hD, fun l9 n9 => ?_⟩
  obtain ⟨ms, ems, hms, hmm⟩ := cut_from us (I8.map V.int).length
  rw [List.length_map, iL8] at hms
  have r9 := same_upd' (o := .lst (ms.map V.int)) n9
  have h9 : upd G8 l9 (.lst (ms.map V.int)) l9 = some (.lst (ms.map V.int)) := upd_same
  rw [ems]
  have h8 := r9 _ _ h8
  have s9 := s8.trans r9
  generalize upd G8 l9 (.lst (ms.map V.int)) = G9 at *
  refine ⟨l9, rfl, ⟨_, SqL.of h9⟩, fun D2 nD2 => ?_⟩
  refine lc_list (K := K) (a := l9) (xs := ms.map V.int) (fun i H' => Same G9 H' ∧ ∃ vs : List Int, vs.length = i ∧ WordsOk vs ∧ H' D2 = some (.lst (vs.map V.int))) ⟨same_upd' nD2, [], rfl, (fun _ h => by cases h), upd_same⟩ (fun i H' _ h => SqL.of (h.1 _ _ h9)) ?_ ?_
  · rintro j v H' hv ⟨sm, vs, hl, hw, hD2⟩
    obtain ⟨z, hz, rfl⟩ := getI hv
    have hj : j < ms.length := (List.getElem?_eq_some_iff.mp hz).1
    refine ⟨rfl, ?_⟩
    refine ⟨_, rfl, _, rfl, z, (24 + d0 % 60), rfl, hu0 z (hmm z (List.mem_of_getElem? hz)), by omega, by omega, fun Gw y sw wy => ?_⟩
    refine ⟨_, sw _ _ hD2, ?_, same_of (sm.trans sw) nD2, vs ++ [y], ?_, ?_, ?_⟩
    · rw [List.length_map, hl]
      exact small1000 (by omega)
    · rw [List.length_append, hl]
      rfl
    · exact wok_app hw (fun u hu => by rw [List.mem_singleton.mp hu]; exact wy)
    · rw [upd_same, List.map_append]
      rfl
  rintro H4 ⟨sm4, vs, hl, hw, hD2⟩
  rw [List.length_map] at hl
  refine ⟨_, _, _, _, rfl, rfl, sm4 _ _ h8, hD2, (by rw [List.length_map, List.length_map, iL8]; exact hsz (by omega)), fun p np => ?_⟩
  rw [← List.map_append]
  have s10 := s9.trans sm4
  exact q _ p (I8 ++ vs) (s10.trans (same_upd' np)) (s10.free np) upd_same (by rw [List.length_append, iL8]; omega) (by rw [List.length_append, iL8]; omega) (wok_app w8 hw)
end
end Bh

/-! Lines drawn; the law's own board made; both held against each other. -/
namespace Bh
open PySem PySem.Spec PyProof.Rows L2
theorem call_isiB {X : Cx} {K : PySem.W.Frag} (h : X.K = K) : CallR X (.builtin "isinstance") (rIsi K) := by
  subst h
  exact call_isi
def spMAtN (CM : Addr) : Sp := fun vs H Q _ => ∃ (m dm w s : Addr) (mem : List Int) (i : Int), vs = [.ref m, .int i] ∧ MemAt CM H m dm w s mem ∧ 774 ≤ i ∧ Q .non H
def spLike (CB CM : Addr) : Sp := fun vs H Q _ => ∃ (H0 : Hp) (p d m t ln : Addr) (us : List V) (x : Bd), vs = [.ref p, .ref d, .int 0, .int 774] ∧ BoardAt CB CM H0 H p x ∧ Lw H d m t ln us x ∧ ∀ H', Same H H' → Q (.bl true) H'
def StOk (o : Option (Str × List Int)) : Prop := ∀ r, o = some r → PyData.canLay0 (.str r.1) = true
def spSame (CB CM : Addr) : Sp := fun vs H Q _ => ∃ (H0 : Hp) (p d m t ln : Addr) (us : List V) (x : Bd), vs = [.ref p, .ref d] ∧ BoardAt CB CM H0 H p x ∧ Lw H d m t ln us x ∧ StOk x.stop ∧ ∀ H', Same H H' → Q (.bl true) H'
/-! ### data and their shapes -/
def tupD (u : Int × Int) : PyData := .tuple [.int u.1, .int u.2]
def stopD : Option (Str × List Int) → PyData
  | none => .none
  | some r => .tuple (.str r.1 :: r.2.map PyData.int)
theorem dp_tups {K : PySem.W.Frag} {H : Hp} : ∀ {us : List V} {ls : List (Int × Int)}, TupsAt H us ls → DpAll K H us (ls.map tupD)
  | _, _, .nil => .nil
  | _, _, .cons h r => by
    obtain ⟨t, rfl, e⟩ := h
    exact .cons (.tup (SqT.of e) (.cons (.int _) (.cons (.int _) .nil))) (dp_tups r)
theorem dp_stop {K : PySem.W.Frag} {H : Hp} {v : V} : ∀ {o : Option (Str × List Int)}, StopAt H v o → Dp K H v (stopD o)
  | none, h => by
    cases h
    exact .non
  | some r, ⟨q, e, h⟩ => by
    cases e
    exact .tup (SqT.of h) (.cons (.str _) (dp_ints _))
theorem all_shape : ∀ (ds : List PyData) (n : Nat), (∀ d ∈ ds, d.canLay0 = true ∧ d.depth ≤ n) → PyData.canLayAll0 ds = true ∧ PyData.depthAll ds ≤ n
  | [], n, _ => ⟨rfl, Nat.zero_le _⟩
  | d :: r, n, h => by
    have h1 := h d List.mem_cons_self
    have h2 := all_shape r n fun e he => h e (List.mem_cons_of_mem _ he)
    refine ⟨?_, Nat.max_le.mpr ⟨h1.2, h2.2⟩⟩
    show (PyData.canLay0 d && PyData.canLayAll0 r) = true
    rw [h1.1, h2.1]
    rfl
theorem int_shape (i : Int) : (PyData.int i).canLay0 = true ∧ (PyData.int i).depth ≤ 1 := ⟨rfl, Nat.zero_le _⟩
theorem tup_shape {ds : List PyData} {n : Nat} (h : ∀ d ∈ ds, d.canLay0 = true ∧ d.depth ≤ n) : (PyData.tuple ds).canLay0 = true ∧ (PyData.tuple ds).depth ≤ n + 1 := by
  have h2 := all_shape ds n h
  exact ⟨h2.1, Nat.succ_le_succ h2.2⟩
theorem lst_shape {ds : List PyData} {n : Nat} (h : ∀ d ∈ ds, d.canLay0 = true ∧ d.depth ≤ n) : (PyData.list ds).canLay0 = true ∧ (PyData.list ds).depth ≤ n + 1 := by
  have h2 := all_shape ds n h
  exact ⟨h2.1, Nat.succ_le_succ h2.2⟩
theorem shaped_of {d : PyData} {n : Nat} (h : d.canLay0 = true ∧ d.depth ≤ n) (hn : n ≤ 64) : SeqAt.shaped d = true := by
  show (d.canLay0 && decide (d.depth ≤ 64)) = true
  rw [h.1, decide_eq_true (Nat.le_trans h.2 hn)]
  rfl
theorem stop_shape {o : Option (Str × List Int)} (ho : StOk o) : (stopD o).canLay0 = true ∧ (stopD o).depth ≤ 2 := by
  cases o with
  | none => exact ⟨rfl, Nat.zero_le _⟩
  | some r =>
    refine tup_shape (n := 1) fun d hd => ?_
    rcases List.mem_cons.mp hd with e | e
    · rw [e]
      exact ⟨ho r rfl, Nat.zero_le _⟩
    · obtain ⟨i, _, rfl⟩ := List.mem_map.mp e
      exact int_shape i
theorem sent_shape (ls : List (Int × Int)) : (PyData.list (ls.map tupD)).canLay0 = true ∧ (PyData.list (ls.map tupD)).depth ≤ 3 := by
  refine lst_shape (n := 2) fun d hd => ?_
  obtain ⟨u, _, rfl⟩ := List.mem_map.mp hd
  refine tup_shape (n := 1) fun d hd => ?_
  simp only [List.mem_cons, List.not_mem_nil, or_false] at hd
  rcases hd with e | e <;> rw [e] <;> exact int_shape _
def sameD (x : Bd) : List PyData := [.int x.a, .int x.b, .int x.pc, .int x.sp, .bool x.zero, .bool x.lets, .bool x.asleep, .int x.beat, stopD x.stop, .list (x.sent.map tupD)]
def sameV (x : Bd) (sv : V) (t : Addr) : List V := [.int x.a, .int x.b, .int x.pc, .int x.sp, .bl x.zero, .bl x.lets, .bl x.asleep, .int x.beat, sv, .ref t]
theorem same_shape {x : Bd} (ho : StOk x.stop) : SeqAt.shaped (.list (sameD x)) = true := by
  refine shaped_of (n := 4) (lst_shape (n := 3) fun d hd => ?_) (by decide)
  unfold sameD at hd
  simp only [List.mem_cons, List.not_mem_nil, or_false] at hd
  rcases hd with e | e | e | e | e | e | e | e | e | e <;> rw [e]
  · exact ⟨rfl, Nat.zero_le _⟩
  · exact ⟨rfl, Nat.zero_le _⟩
  · exact ⟨rfl, Nat.zero_le _⟩
  · exact ⟨rfl, Nat.zero_le _⟩
  · exact ⟨rfl, Nat.zero_le _⟩
  · exact ⟨rfl, Nat.zero_le _⟩
  · exact ⟨rfl, Nat.zero_le _⟩
  · exact ⟨rfl, Nat.zero_le _⟩
  · exact ⟨(stop_shape ho).1, Nat.le_succ_of_le (stop_shape ho).2⟩
  · exact sent_shape _
theorem same_can {x : Bd} (ho : StOk x.stop) : PyData.canLayAll0 (sameD x) = true := by
  have h := same_shape ho
  unfold SeqAt.shaped at h
  rw [Bool.and_eq_true] at h
  exact h.1
theorem same_dp {K : PySem.W.Frag} {H : Hp} {x : Bd} {sv : V} {t : Addr} {us : List V} (hz : StopAt H sv x.stop) (ht : H t = some (.lst us)) (hu : TupsAt H us x.sent) : DpAll K H (sameV x sv t) (sameD x) :=
  .cons (.int _) (.cons (.int _) (.cons (.int _) (.cons (.int _) (.cons (.bl _) (.cons (.bl _) (.cons (.bl _) (.cons (.int _) (.cons (dp_stop hz) (.cons (.lst (SqL.of ht) (dp_tups hu)) .nil)))))))))
def IsB (K : PySem.W.Frag) (H : Hp) (v : V) (b : Bool) : Prop := ∃ t, TyX K H v t ∧ PySem.W.kitOne K t (.type "bool") = some b
theorem same_isb {K : PySem.W.Frag} {H : Hp} {x : Bd} {sv : V} {t : Addr} {us : List V} (hz : StopAt H sv x.stop) (ht : H t = some (.lst us)) : ∀ (i : Nat) (v : V), (sameV x sv t)[i]? = some v → ∃ b, IsB K H v b ∧ ([false, false, false, false, true, true, true, false, false, false] : List Bool)[i]? = some b := fun i v hv => by
  match i, hv with
  | 0, hv => cases hv; exact ⟨false, ⟨_, .base (.int _), kit_ty (by decide +kernel)⟩, rfl⟩
  | 1, hv => cases hv; exact ⟨false, ⟨_, .base (.int _), kit_ty (by decide +kernel)⟩, rfl⟩
  | 2, hv => cases hv; exact ⟨false, ⟨_, .base (.int _), kit_ty (by decide +kernel)⟩, rfl⟩
  | 3, hv => cases hv; exact ⟨false, ⟨_, .base (.int _), kit_ty (by decide +kernel)⟩, rfl⟩
  | 4, hv => cases hv; exact ⟨true, ⟨_, .base (.bl _), kit_ty (by decide +kernel)⟩, rfl⟩
  | 5, hv => cases hv; exact ⟨true, ⟨_, .base (.bl _), kit_ty (by decide +kernel)⟩, rfl⟩
  | 6, hv => cases hv; exact ⟨true, ⟨_, .base (.bl _), kit_ty (by decide +kernel)⟩, rfl⟩
  | 7, hv => cases hv; exact ⟨false, ⟨_, .base (.int _), kit_ty (by decide +kernel)⟩, rfl⟩
  | 8, hv =>
    cases hv
    cases es : x.stop with
    | none =>
      rw [es] at hz
      cases hz
      exact ⟨false, ⟨_, .base .non, kit_ty (by decide +kernel)⟩, rfl⟩
    | some r =>
      rw [es] at hz
      obtain ⟨q, e, h⟩ := hz
      cases e
      exact ⟨false, ⟨_, .base (.tup h), kit_ty (by decide +kernel)⟩, rfl⟩
  | 9, hv => cases hv; exact ⟨false, ⟨_, .base (.lst ht), kit_ty (by decide +kernel)⟩, rfl⟩
  | n + 10, hv => cases hv
theorem nm_get {ks : List Str} {kvs : List (Key × V)} {vals : List V} (h : ks.map (fun s => valV kvs (Sum.inr s)) = vals.map some) : ∀ (i : Nat) (v : V), (ks.map V.str)[i]? = some v → ∃ s u, v = .str s ∧ valV kvs (Sum.inr s) = some u ∧ vals[i]? = some u := fun i v hv => by
  rw [List.getElem?_map] at hv
  cases e : ks[i]? with
  | none => rw [e] at hv; cases hv
  | some s =>
    rw [e] at hv
    cases hv
    have h2 := congrArg (fun l => l[i]?) h
    simp only [List.getElem?_map, e, Option.map_some] at h2
    cases e2 : vals[i]? with
    | none => rw [e2] at h2; cases h2
    | some u =>
      rw [e2] at h2
      exact ⟨s, u, rfl, Option.some.inj h2, rfl⟩
theorem take_snc {α : Type} {l : List α} {i : Nat} {u : α} (h : l[i]? = some u) : l.take (i + 1) = l.take i ++ [u] := by
  rw [List.take_add_one, h]
  rfl
def regV (x : Bd) : List V := [.int x.a, .int x.b, .int x.pc, .int x.sp]
theorem reg_get (x : Bd) : ([("a" : Str), "b", "pc", "sp"].map fun s => valV (regD x.a x.b x.pc x.sp) (Sum.inr s)) = (regV x).map some := by kernel_rfl
theorem law_get (m t ln : Addr) (x : Bd) (sv : V) : ([("a" : Str), "b", "pc", "sp", "zero", "lets", "asleep", "beat", "stopped", "sent"].map fun s => valV (stD m t ln x sv) (Sum.inr s)) = (sameV x sv t).map some := by kernel_rfl
theorem bar_stok {t : Bool × Int} {w : Str} (h : barM t = some w) : PyData.canLay0 (.str w) = true := by
  unfold barM at h
  split at h
  · cases h; decide +kernel
  · split at h
    · cases h
    · split at h
      · cases h; decide +kernel
      · split at h
        · cases h; decide +kernel
        · cases h
theorem bad_stok : ∀ {ts : List (Bool × Int)} {r : Str × Int}, firstBad ts = some r → PyData.canLay0 (.str r.1) = true
  | [], _, h => by cases h
  | t :: ts, r, h => by
    rw [firstBad_cons] at h
    cases e : barM t with
    | some w => rw [e] at h; cases h; exact bar_stok e
    | none => rw [e] at h; exact bad_stok h
theorem pass_stop : ∀ (n : Nat) (x : Bd), (passM n x).stop = x.stop
  | 0, _ => rfl
  | n + 1, x => by
    show (passM n (passOneM x)).stop = _
    rw [pass_stop n]
    show (comeM { x with beat := x.beat + 1 }).stop = _
    unfold comeM
    split <;> rfl
theorem do_stop {op : Nat} {n : Int} {ws : List Int} {x : Bd} (o : op < 23) : (doM op n ws x).stop = x.stop := by
  have p : ∀ a v, (putWM a v x).stop = x.stop := fun a v => (putWM_regs a v x).2.2.2.2.2.2.2.2.1
  match op, o with
  | 0, _ => rfl
  | 1, _ => rfl
  | 2, _ => rfl
  | 3, _ => exact p _ _
  | 4, _ => rfl
  | 5, _ => rfl
  | 6, _ => rfl
  | 7, _ => rfl
  | 8, _ => rfl
  | 9, _ => exact p _ _
  | 10, _ => rfl
  | 11, _ => rfl
  | 12, _ => rfl
  | 13, _ => 
    show (if x.zero = true then { x with pc := n } else x).stop = _
    split <;> rfl
  | 14, _ => 
    show (if 32768 ≤ x.a then { x with pc := n } else x).stop = _
    split <;> rfl
  | 15, _ => exact p _ _
  | 16, _ => rfl
  | 17, _ => exact p _ _
  | 18, _ => rfl
  | 19, _ => rfl
  | 20, _ => rfl
  | 21, _ => rfl
  | 22, _ => rfl
  | n + 23, z => exact absurd z (by omega)
theorem deed_stok {x : Bd} (h : StOk x.stop) : StOk (deedM x).2.stop := by
  have lit : ∀ (w : Str) (ns : List Int), PyData.canLay0 (.str w) = true → StOk (some (w, ns)) := fun w ns hw r e => by
    cases e
    exact hw
  unfold deedM
  split
  · exact lit "far" _ (by decide +kernel)
  · split
    · exact lit "none" _ (by decide +kernel)
    · split
      · exact lit "mark" _ (by decide +kernel)
      · split
        · rename_i r e
          exact lit _ _ (bad_stok e)
        · show StOk (doneM x).stop
          unfold doneM
          rw [pass_stop, do_stop (by omega)]
          exact h
theorem turn_stok {x : Bd} (h : StOk x.stop) : StOk (turnM x).2.stop := by
  unfold turnM
  split
  · exact h
  · split
    · show StOk (passM 1 x).stop
      rw [pass_stop]
      exact h
    · split
      · unfold intM
        split
        · rename_i r e
          intro r' e'
          cases e'
          exact bad_stok e
        · show StOk (begunM { x with asleep := false }).stop
          unfold begunM
          rw [pass_stop]
          show StOk (putWM (x.sp - 1) (b2n x.zero) (putWM x.sp x.pc { x with asleep := false })).stop
          rw [(putWM_regs _ _ _).2.2.2.2.2.2.2.2.1, (putWM_regs _ _ _).2.2.2.2.2.2.2.2.1]
          exact h
      · exact deed_stok h
theorem rep_bl (b : Bool) (n : Nat) : (List.replicate n [V.bl b]).flatten = (List.replicate n b).map V.bl := by
  induction n with
  | zero => rfl
  | succ n ih => rw [List.replicate_succ, List.flatten_cons, ih, List.replicate_succ, List.map_cons]; rfl
theorem dp_bls {K : PySem.W.Frag} {H : Hp} : ∀ bs : List Bool, DpAll K H (bs.map V.bl) (bs.map PyData.bool)
  | [] => .nil
  | b :: r => .cons (.bl b) (dp_bls r)
theorem shaped_bls (bs : List Bool) : SeqAt.shaped (.list (bs.map PyData.bool)) = true := by
  refine shaped_of (n := 2) (lst_shape (n := 1) fun d hd => ?_) (by decide)
  obtain ⟨b, _, rfl⟩ := List.mem_map.mp hd
  exact ⟨rfl, Nat.zero_le _⟩
theorem map_rd (m : List Int) (hl : m.length = 774) : (List.range 774).map (fun k : Nat => rd m (0 + (k : Int))) = m := by
  apply List.ext_getElem?
  intro i
  rw [List.getElem?_map]
  by_cases h : i < 774
  · rw [List.getElem?_range h]
    show some (rd m (0 + (i : Int))) = m[i]?
    unfold rd
    rw [show (0 + (i : Int)).toNat = i by omega, List.getD_eq_getElem?_getD, List.getElem?_eq_getElem (show i < m.length by omega)]
    rfl
  · rw [List.getElem?_eq_none (by rw [List.length_range]; omega), List.getElem?_eq_none (by omega)]
    rfl
section
variable {P : Program} {w : World} {K : PySem.W.Frag} {mg : Str → Option Value} {base : Heap} {CB CM : Addr}
abbrev sMfar : Stmt := inClass (topS 47) 1
def scMfarN : List Str := ["self", "address"]
theorem scMfar : FnScope scMfarN ["self", "address"] (defScope sMfar) := ⟨rfl, rfl, rfl, by decide +kernel, rfl, by decide +kernel, by decide +kernel⟩
theorem ok_Mfar {f : Addr} {fd : FuncData} (F : Fun K "word_at" "Memory.word_at" sMfar f fd) (T : Tx K mg CB CM) : FnOk P w K mg base CX0 1 f fd ["self", "address"] (spMAtN CM) := by
  refine F.ok scMfar (fun vs H Q E h => by obtain ⟨_, _, _, _, _, _, rfl, _⟩ := h; rfl) (fun cdv A outer s H vs Q E hr h => ?_)
  have hu := hu_of hr
  obtain ⟨t_PLACES_END, g_PLACES_END⟩ := T.g_PLACES_END
  obtain ⟨m, dm, w_, s_, mem, i, rfl, M, i0, q⟩ := h
  refine ⟨_, (pss_cons (ps_if (pt_chain op_le op_lt pe_int (pv 1) (pgI g_PLACES_END)) (pss_one (ps_ret (pe_ix ix_list (pe_fld (pv 0) rfl) (pv 1) (fun _ _ => rfl)))) pss_nil)
    (pss_one (ps_ret pe_non))), ?_⟩
  refine ⟨_, rfl, _, _, rfl, rfl, _, rfl, ?_⟩
  rw [if_pos (decide_eq_true (by omega))]
  refine ⟨_, _, rfl, rfl, _, rfl, ifB (fun h => ?_) (fun h => q)⟩
  have := of_decide_eq_true h
  omega
abbrev sLdlin : Stmt := topS 80
def scLdlinN : List Str := ["_law_cell_here", "_law_row", "_law_found", "_law_beat", "_law_k"]
theorem scLdlin : FnScope scLdlinN ["_law_cell_here"] (defScope sLdlin) := ⟨rfl, rfl, rfl, by decide +kernel, rfl, by decide +kernel, by decide +kernel⟩
theorem ok_Ldlin {f : Addr} {fd : FuncData} {fL_dig : Addr} {dL_dig : FuncData} (F : Fun K "_law_drawn_line" "_law_drawn_line" sLdlin f fd) (T : Tx K mg CB CM)
    (L_dig : CalF P w K mg base 1 "_law_digits" ["_law_cell_here", "_law_many"] (spDig) fL_dig dL_dig) : FnOk P w K mg base CX0 2 f fd ["_law_cell_here"] (spLineOf) := by
  refine F.ok scLdlin (fun vs H Q E h => by obtain ⟨_, rfl, _⟩ := h; rfl) (fun cdv A outer s H vs Q E hr h => ?_)
  have hu := hu_of hr
  have z_range := T.z_range
  obtain ⟨c, rfl, q⟩ := h
  refine ⟨_, (pss_cons (ps_set (i := 1) scLdlin.nd rfl (.inl rfl) (pe_call L_dig.G (hr.mono (by decide)) (by rfl) L_dig.g L_dig.kp L_dig.b .nil pass0 (pa_cons (pv 0) (pa_cons pe_int pa_nil))))
    (pss_cons (ps_set (i := 2) scLdlin.nd rfl (.inl rfl) (pe_lst pa_nil))
    (pss_cons (ps_set (i := 3) scLdlin.nd rfl (.inl rfl) pe_int)
    (pss_cons (ps_for PassesOwn.never rfl (pi_range1 (by rfl) z_range (pa_cons (pe_op op_mod (pe_ix ix_list (pv 1) pe_int (fun _ _ => rfl)) pe_int) pa_nil)) (pg_name (i := 4) scLdlin.nd rfl (.inl rfl))
      (pss_cons (ps_set (i := 3) scLdlin.nd rfl (.inl rfl) (pe_op op_add (pe_op op_add (pv 3) pe_int) (pe_op op_mod (pe_ix ix_list (pv 1) (pe_op op_add pe_int (pe_op op_mul pe_int (pv 4))) (fun _ _ => rfl)) (pe_ix ix_list (pe_lst (pa_cons pe_int (pa_cons pe_int (pa_cons pe_int pa_nil)))) (pe_op op_mod (pe_ix ix_list (pv 1) pe_int (fun _ _ => rfl)) pe_int) (fun _ _ => rfl)))))
    (pss_one (ps_expr (pe_bm PySem.F.plainAttrs_list PySem.F.slot_list_append PySem.F.type_list_append mt_append (pv 2) (pa_cons (pe_tup (pa_cons (pv 3) (pa_cons (pe_op op_mod (pe_ix ix_list (pv 1) (pe_op op_add pe_int (pe_op op_mul pe_int (pv 4))) (fun _ _ => rfl)) pe_int) pa_nil))) pa_nil))))))
    (pss_one (ps_ret (pv 2))))))), ?_⟩
  refine ⟨_, rfl, c, 40, rfl, by decide, fun G0 r ds hlen hdg s0 nr hR => ?_⟩
  obtain ⟨d0, e0, b0, c0⟩ := atN hdg (j := 0) (by decide) (by rw [hlen]; decide)
  obtain ⟨d39, e39, b39, c39⟩ := atN hdg (j := 39) (by decide) (by rw [hlen]; decide)
  refine ⟨Nat.zero_le _, fun l nl => ?_⟩
  have hl0 : upd G0 l (.lst []) l = some (.lst []) := upd_same
  have r1 := same_upd' (o := .lst []) nl
  have fl : H l = none := s0.free nl
  have hR0 := hR
  have hR := r1 _ _ hR
  have s1 := s0.trans r1
  generalize upd G0 l (.lst []) = G1 at *
  obtain ⟨m3, f3, m30, m31⟩ := atB (lo := 3) (hi := 60) (ds := [3, 20, 60]) (by decide) (j := d39 % 3) (by omega) (by show d39 % 3 < 3; omega)
  refine ⟨_, rfl, r, _, 0, _, rfl, rfl, SqL.of hR, e0, _, _, rfl, rfl, (by show (0 : Int) < 14; decide), d0 % 14, rfl, by omega, by omega, ?_⟩
  refine for_range (lo := 0) (n := (d0 % 14).toNat) (fun i σ H' => ∃ (y4 : Option V) (us : List V) (ls : List (Int × Int)), σ = [some (.int c), some (.ref r), some (.ref l), some (.int (lastB 0 ls)), y4] ∧ Same G0 H' ∧ H' l = some (.lst us) ∧ TupsAt H' us ls ∧ riseM 0 ls ∧ ls.length = i)
    ⟨none, [], [], rfl, r1, hl0, .nil, trivial, rfl⟩ ?_ ?_
  · rintro i σ H' hi ⟨y4, us, ls, rfl, sm, hl, ht, hrs, hln⟩
    have hi14 : i < 14 := by omega
    have hp := sm _ _ hR0
    obtain ⟨u1, f1, g1, g2⟩ := atN hdg (j := 1 + 2 * (0 + (i : Int))) (by omega) (by rw [hlen]; omega)
    obtain ⟨u2, f2, g3, g4⟩ := atN hdg (j := 2 + 2 * (0 + (i : Int))) (by omega) (by rw [hlen]; omega)
    refine ⟨_, rfl, _, _, rfl, rfl, _, rfl, _, rfl, _, _, rfl, rfl, .inl ⟨by decide, by decide⟩, _, _, rfl, rfl, r, _, _, _, rfl, rfl, SqL.of hp, f1, (by show 3 ≤ sizeLine; decide), fun l3 n3 => ?_⟩
    have s3 := same_upd' (o := .lst [V.int 3, V.int 20, V.int 60]) n3
    have h3 : upd H' l3 (.lst [V.int 3, V.int 20, V.int 60]) l3 = some (.lst [V.int 3, V.int 20, V.int 60]) := upd_same
    have hp := s3 _ _ hp
    have hl := s3 _ _ hl
    have ht := TupsAt.mono (fun t xs e => s3 _ _ e) ht
    have sm := sm.trans s3
    generalize upd H' l3 (.lst [V.int 3, V.int 20, V.int 60]) = H4 at *
    refine ⟨_, rfl, r, _, 39, _, rfl, rfl, SqL.of hp, e39, _, _, rfl, rfl, (by show (0 : Int) < 3; decide), l3, _, _, _, rfl, rfl, SqL.of h3, f3, _, _, rfl, rfl, (by show (0 : Int) < m3; omega), _, _, rfl, rfl, ?_⟩
    have pm3 := Int.emod_nonneg u1 (show m3 ≠ 0 by omega)
    refine ⟨_, rfl, .inl ⟨rfl, _, SqL.of hl⟩, _, rfl, _, rfl, _, rfl, _, _, rfl, rfl, .inl ⟨by decide, by decide⟩, _, _, rfl, rfl, r, _, _, _, rfl, rfl, SqL.of hp, f2, _, _, rfl, rfl, (by show (0 : Int) < 4; decide), (by show 2 ≤ sizeLine; decide), fun t nt => ?_⟩
    refine ⟨l, us, _, rfl, rfl, same_upd' nt _ _ hl, Nat.lt_of_le_of_lt (show us.length ≤ 100 by rw [TupsAt.len ht]; omega) (by decide), ?_⟩
    refine ⟨some (.int (0 + (i : Int))), us ++ [.ref t], ls ++ [(lastB 0 ls + 1 + u1 % m3, u2 % 4)], (by rw [lastB_snoc]; rfl), same_of (sm.trans (same_upd' nt)) nl, upd_same, ?_, rise_snoc hrs (by show lastB 0 ls < lastB 0 ls + 1 + u1 % m3; omega) (by show 0 ≤ u2 % 4; omega) (by show u2 % 4 ≤ 3; omega), by rw [List.length_append, hln]; rfl⟩
    refine TupsAt.snoc (t := t) (u := (lastB 0 ls + 1 + u1 % m3, u2 % 4)) ?_ (TupsAt.mono (fun t' xs e => ?_) ht)
    · rw [upd_ne (fun e => by rw [e, hl] at nt; cases nt)]
      exact upd_same
    · have e2 := same_upd' (o := .tup [V.int (lastB 0 ls + 1 + u1 % m3), V.int (u2 % 4)]) nt _ _ e
      rw [upd_ne (ne_of e2 (same_upd' nt _ _ hl) (by intro q; cases q))]
      exact e2
  rintro σ H1 ⟨y4, us, ls, rfl, sm, hl, ht, hrs, hln⟩
  exact ⟨_, rfl, q _ l us ls (s0.trans sm) fl hl ht hrs (by omega)⟩
abbrev sLnew : Stmt := topS 68
def scLnewN : List Str := ["_law_image", "_law_line", "_law_memory", "_law_stand"]
theorem scLnew : FnScope scLnewN ["_law_image", "_law_line"] (defScope sLnew) := ⟨rfl, rfl, rfl, by decide +kernel, rfl, by decide +kernel, by decide +kernel⟩
theorem ok_Lnew {f : Addr} {fd : FuncData} (F : Fun K "_law_new" "_law_new" sLnew f fd) (T : Tx K mg CB CM)
    (z_dict : mg "dict" = none) : FnOk P w K mg base CX0 1 f fd ["_law_image", "_law_line"] (spNewL) := by
  refine F.ok scLnew (fun vs H Q E h => by obtain ⟨_, _, _, _, _, rfl, _⟩ := h; rfl) (fun cdv A outer s H vs Q E hr h => ?_)
  have hu := hu_of hr
  have z_len := T.z_len
  have z_list := T.z_list
  obtain ⟨im, l, us, ns, ls, rfl, him, hnl, hl, htu, hri, hls, q⟩ := h
  refine ⟨_, (pss_cons (ps_set (i := 2) scLnew.nd rfl (.inl rfl) (pe_op op_cat (pe_op op_cat (pe_callTy call_list_of (by rfl) z_list (by decide +kernel) (pa_cons (pv 0) pa_nil)) (pe_op op_rep (pe_lst (pa_cons pe_int pa_nil)) (pe_op op_sub pe_int (pe_callB call_len_seq (by rfl) z_len PySem.boot_len (pa_cons (pv 0) pa_nil))))) (pe_op op_rep (pe_lst (pa_cons pe_int pa_nil)) pe_int)))
    (pss_cons (ps_set (i := 3) scLnew.nd rfl (.inl rfl) (pe_disp (pps_cons pe_str (pv 2) (pps_cons pe_str pe_int (pps_cons pe_str pe_int (pps_cons pe_str pe_int (pps_cons pe_str pe_int (pps_cons pe_str pe_bl (pps_cons pe_str pe_bl (pps_cons pe_str pe_bl pps_nil)))))))) rfl rfl (by intro h; cases h) (by decide)))
    (pss_cons (ps_expr (pe_bm PySem.F.plainAttrs_dict PySem.F.slot_dict_update PySem.F.type_dict_update mtd_update (pv 3) (pa_cons (pe_disp (pps_cons pe_str pe_int (pps_cons pe_str pe_non (pps_cons pe_str (pe_lst pa_nil) (pps_cons pe_str (pe_callTy (call_dictP rfl) (by rfl) z_dict (by decide +kernel) (pa_cons (pv 1) pa_nil)) pps_nil)))) rfl rfl (by intro h; cases h) (by decide)) pa_nil)))
    (pss_one (ps_ret (pv 3)))))), ?_⟩
  have s0 : Same H H := Same.refl _
  obtain ⟨ps, eps⟩ := tups_refs htu
  subst eps
  refine ⟨_, rfl, im, _, rfl, .inl (SqL.of him), fun l1 n1 => ?_⟩
  have r1 := same_upd' (o := .lst (ns.map V.int)) n1
  have h1 : upd H l1 (.lst (ns.map V.int)) l1 = some (.lst (ns.map V.int)) := upd_same
  have f1 : H l1 = none := s0.free n1
  have s1 := s0.trans r1
  have him := r1 _ _ him
  have hl := r1 _ _ hl
  generalize upd H l1 (.lst (ns.map V.int)) = G1 at *
  refine ⟨(by show 1 ≤ sizeLine; decide), fun l2 n2 => ?_⟩
  have r2 := same_upd' (o := .lst [.int 65535]) n2
  have h2 : upd G1 l2 (.lst [.int 65535]) l2 = some (.lst [.int 65535]) := upd_same
  have f2 : H l2 = none := s1.free n2
  have s2 := s1.trans r2
  have him := r2 _ _ him
  have hl := r2 _ _ hl
  have h1 := r2 _ _ h1
  generalize upd G1 l2 (.lst [.int 65535]) = G2 at *
  refine ⟨_, rfl, im, _, rfl, .inl (SqL.of him), _, _, rfl, rfl, l2, _, _, rfl, rfl, h2, ?_, ?_, ?_, fun l3 n3 => ?_⟩
  · rw [List.length_map]; omega
  · rw [List.length_map]; omega
  · rw [List.length_map, List.length_singleton]; exact hsz (by omega)
  have e2 : (List.replicate (512 - ((ns.map V.int).length : Int)).toNat [V.int 65535]).flatten = (List.replicate (512 - ns.length) (65535 : Int)).map V.int := by
    rw [List.length_map, show (512 - (ns.length : Int)).toNat = 512 - ns.length by omega]
    exact flat_rep' _ _
  rw [e2]
  have r3 := same_upd' (o := .lst ((List.replicate (512 - ns.length) (65535 : Int)).map V.int)) n3
  have h3 : upd G2 l3 (.lst ((List.replicate (512 - ns.length) (65535 : Int)).map V.int)) l3 = some (.lst ((List.replicate (512 - ns.length) (65535 : Int)).map V.int)) := upd_same
  have f3 : H l3 = none := s2.free n3
  have s3 := s2.trans r3
  have hl := r3 _ _ hl
  have h1 := r3 _ _ h1
  generalize upd G2 l3 (.lst ((List.replicate (512 - ns.length) (65535 : Int)).map V.int)) = G3 at *
  refine ⟨l1, l3, _, _, rfl, rfl, h1, h3, ?_, fun l4 n4 => ?_⟩
  · rw [List.length_map, List.length_map, List.length_replicate]; exact hsz (by omega)
  have r4 := same_upd' (o := .lst (ns.map V.int ++ (List.replicate (512 - ns.length) (65535 : Int)).map V.int)) n4
  have h4 : upd G3 l4 (.lst (ns.map V.int ++ (List.replicate (512 - ns.length) (65535 : Int)).map V.int)) l4 = some (.lst (ns.map V.int ++ (List.replicate (512 - ns.length) (65535 : Int)).map V.int)) := upd_same
  have f4 : H l4 = none := s3.free n4
  have s4 := s3.trans r4
  have hl := r4 _ _ hl
  generalize upd G3 l4 (.lst (ns.map V.int ++ (List.replicate (512 - ns.length) (65535 : Int)).map V.int)) = G4 at *
  refine ⟨(by show 1 ≤ sizeLine; decide), fun l5 n5 => ?_⟩
  have r5 := same_upd' (o := .lst [.int 0]) n5
  have h5 : upd G4 l5 (.lst [.int 0]) l5 = some (.lst [.int 0]) := upd_same
  have f5 : H l5 = none := s4.free n5
  have s5 := s4.trans r5
  have hl := r5 _ _ hl
  have h4 := r5 _ _ h4
  generalize upd G4 l5 (.lst [.int 0]) = G5 at *
  refine ⟨l5, _, _, rfl, rfl, h5, by decide, by decide, (by show 1 * 262 ≤ sizeLine; decide), fun l6 n6 => ?_⟩
  have e4 : (List.replicate (262 : Int).toNat [V.int 0]).flatten = (List.replicate 262 (0 : Int)).map V.int := flat_rep' 262 0
  rw [e4]
  have r6 := same_upd' (o := .lst ((List.replicate 262 (0 : Int)).map V.int)) n6
  have h6 : upd G5 l6 (.lst ((List.replicate 262 (0 : Int)).map V.int)) l6 = some (.lst ((List.replicate 262 (0 : Int)).map V.int)) := upd_same
  have f6 : H l6 = none := s5.free n6
  have s6 := s5.trans r6
  have hl := r6 _ _ hl
  have h4 := r6 _ _ h4
  generalize upd G5 l6 (.lst ((List.replicate 262 (0 : Int)).map V.int)) = G6 at *
  refine ⟨l4, l6, _, _, rfl, rfl, h4, h6, ?_, fun l7 n7 => ?_⟩
  · rw [List.length_append, List.length_map, List.length_map, List.length_map, List.length_replicate, List.length_replicate]; exact hsz (by omega)
  have em : ns.map V.int ++ (List.replicate (512 - ns.length) (65535 : Int)).map V.int ++ (List.replicate 262 (0 : Int)).map V.int = (memOf ns).map V.int := by
    unfold memOf
    rw [List.map_append, List.map_append]
  rw [em]
  have r7 := same_upd' (o := .lst ((memOf ns).map V.int)) n7
  have h7 : upd G6 l7 (.lst ((memOf ns).map V.int)) l7 = some (.lst ((memOf ns).map V.int)) := upd_same
  have f7 : H l7 = none := s6.free n7
  have s7 := s6.trans r7
  have hl := r7 _ _ hl
  generalize upd G6 l7 (.lst ((memOf ns).map V.int)) = G7 at *
  intro d nd
  refine ⟨_, rfl, ?_⟩
  refine ⟨upd_same, [((Sum.inr "m" : Key), V.ref l7), (Sum.inr "a", .int 0), (Sum.inr "b", .int 0), (Sum.inr "pc", .int 0), (Sum.inr "sp", .int 767), (Sum.inr "zero", .bl false), (Sum.inr "lets", .bl false), (Sum.inr "asleep", .bl false)], rfl, (by show 8 ≤ 15; decide), ?_⟩
  have em8 : mergeK [] ([((Sum.inr "m" : Key), V.ref l7), (Sum.inr "a", .int 0), (Sum.inr "b", .int 0), (Sum.inr "pc", .int 0), (Sum.inr "sp", .int 767), (Sum.inr "zero", .bl false), (Sum.inr "lets", .bl false), (Sum.inr "asleep", .bl false)] : List (Key × V)) = [((Sum.inr "m" : Key), V.ref l7), (Sum.inr "a", .int 0), (Sum.inr "b", .int 0), (Sum.inr "pc", .int 0), (Sum.inr "sp", .int 767), (Sum.inr "zero", .bl false), (Sum.inr "lets", .bl false), (Sum.inr "asleep", .bl false)] := by kernel_rfl
  rw [em8, upd_upd]
  have fd : H d = none := s7.free nd
  have r8 := same_upd' (o := .dK [((Sum.inr "m" : Key), V.ref l7), (Sum.inr "a", .int 0), (Sum.inr "b", .int 0), (Sum.inr "pc", .int 0), (Sum.inr "sp", .int 767), (Sum.inr "zero", .bl false), (Sum.inr "lets", .bl false), (Sum.inr "asleep", .bl false)]) nd
  have h8 : upd G7 d (.dK [((Sum.inr "m" : Key), V.ref l7), (Sum.inr "a", .int 0), (Sum.inr "b", .int 0), (Sum.inr "pc", .int 0), (Sum.inr "sp", .int 767), (Sum.inr "zero", .bl false), (Sum.inr "lets", .bl false), (Sum.inr "asleep", .bl false)]) d = some (.dK [((Sum.inr "m" : Key), V.ref l7), (Sum.inr "a", .int 0), (Sum.inr "b", .int 0), (Sum.inr "pc", .int 0), (Sum.inr "sp", .int 767), (Sum.inr "zero", .bl false), (Sum.inr "lets", .bl false), (Sum.inr "asleep", .bl false)]) := upd_same
  have s8 := s7.trans r8
  have h7 := r8 _ _ h7
  have hl := r8 _ _ hl
  generalize upd G7 d (.dK [((Sum.inr "m" : Key), V.ref l7), (Sum.inr "a", .int 0), (Sum.inr "b", .int 0), (Sum.inr "pc", .int 0), (Sum.inr "sp", .int 767), (Sum.inr "zero", .bl false), (Sum.inr "lets", .bl false), (Sum.inr "asleep", .bl false)]) = G8 at *
  refine ⟨_, rfl, .inr (.inr (.inl ⟨rfl, .inl ⟨_, h8⟩⟩)), ?_⟩
  intro l9 n9
  have nd9 : d ≠ l9 := ne_of_none h8 n9
  have r9 := same_upd' (o := .dK []) n9
  have h9 : upd G8 l9 (.dK []) l9 = some (.dK []) := upd_same
  have f9 : H l9 = none := s8.free n9
  have s9 := s8.trans r9
  have h7 := r9 _ _ h7
  have h8 := r9 _ _ h8
  have hl := r9 _ _ hl
  generalize upd G8 l9 (.dK []) = G9 at *
  refine ⟨Nat.zero_le _, fun t n10 => ?_⟩
  have r10 := same_upd' (o := .lst []) n10
  have h10 : upd G9 t (.lst []) t = some (.lst []) := upd_same
  have f10 : H t = none := s9.free n10
  have mt : l7 ≠ t := ne_of_none h7 n10
  have s10 := s9.trans r10
  have h7 := r10 _ _ h7
  have h8 := r10 _ _ h8
  have h9 := r10 _ _ h9
  have hl := r10 _ _ hl
  generalize upd G9 t (.lst []) = G10 at *
  refine ⟨_, rfl, l, ps, ls.map kvL, rfl, SqL.of hl, tups_paired (TupsAt.mono (fun t xs e => s10 _ _ e) htu), fun ln n11 => ?_⟩
  have eln : mergeK [] (ls.map kvL) = lnD ls := merge_rise ls [] 0 hri (fun _ h => by cases h)
  rw [eln]
  have r11 := same_upd' (o := .dK (lnD ls)) n11
  have h11 : upd G10 ln (.dK (lnD ls)) ln = some (.dK (lnD ls)) := upd_same
  have s11 := s10.trans r11
  have dl : d ≠ ln := ne_of_none h8 n11
  have nl9 : l9 ≠ ln := ne_of_none h9 n11
  have h7 := r11 _ _ h7
  have h8 := r11 _ _ h8
  have h9 := r11 _ _ h9
  have h10 := r11 _ _ h10
  generalize upd G10 ln (.dK (lnD ls)) = G11 at *
  refine ⟨h9, [((Sum.inr "beat" : Key), V.int 0), (Sum.inr "stopped", .non), (Sum.inr "sent", .ref t), (Sum.inr "line", .ref ln)], rfl, (by show 4 ≤ 15; decide), ?_⟩
  have em4 : mergeK [] ([((Sum.inr "beat" : Key), V.int 0), (Sum.inr "stopped", .non), (Sum.inr "sent", .ref t), (Sum.inr "line", .ref ln)] : List (Key × V)) = [((Sum.inr "beat" : Key), V.int 0), (Sum.inr "stopped", .non), (Sum.inr "sent", .ref t), (Sum.inr "line", .ref ln)] := by kernel_rfl
  rw [em4]
  have d9 : d ≠ l9 := nd9
  have tk9 : ∀ b o, b ≠ l9 → G11 b = some o → upd G11 l9 (.dK [((Sum.inr "beat" : Key), V.int 0), (Sum.inr "stopped", .non), (Sum.inr "sent", .ref t), (Sum.inr "line", .ref ln)]) b = some o := fun b o hb e => by rw [upd_ne hb]; exact e
  have h8 := tk9 _ _ d9 h8
  have h7 := tk9 _ _ (ne_of h7 h9 (by intro z; cases z)) h7
  have h10 := tk9 _ _ (ne_of h10 h9 (by intro z; cases z)) h10
  have h11 := tk9 _ _ nl9.symm h11
  have h9' : upd G11 l9 (.dK [((Sum.inr "beat" : Key), V.int 0), (Sum.inr "stopped", .non), (Sum.inr "sent", .ref t), (Sum.inr "line", .ref ln)]) l9 = some (.dK [((Sum.inr "beat" : Key), V.int 0), (Sum.inr "stopped", .non), (Sum.inr "sent", .ref t), (Sum.inr "line", .ref ln)]) := upd_same
  have s12 : Same H (upd G11 l9 (.dK [((Sum.inr "beat" : Key), V.int 0), (Sum.inr "stopped", .non), (Sum.inr "sent", .ref t), (Sum.inr "line", .ref ln)])) := same_of s11 f9
  generalize upd G11 l9 (.dK [((Sum.inr "beat" : Key), V.int 0), (Sum.inr "stopped", .non), (Sum.inr "sent", .ref t), (Sum.inr "line", .ref ln)]) = G12 at *
  refine ⟨d, l9, _, _, rfl, rfl, d9, h8, h9', (by show 8 + 4 ≤ sizeLine; decide), ?_⟩
  refine ⟨_, rfl, ?_⟩
  refine q _ d l7 t ln (same_of s12 fd) fd f7 f10 (s10.free n11) ?_
  have es : mergeK ([((Sum.inr "m" : Key), V.ref l7), (Sum.inr "a", .int 0), (Sum.inr "b", .int 0), (Sum.inr "pc", .int 0), (Sum.inr "sp", .int 767), (Sum.inr "zero", .bl false), (Sum.inr "lets", .bl false), (Sum.inr "asleep", .bl false)] : List (Key × V)) [((Sum.inr "beat" : Key), V.int 0), (Sum.inr "stopped", .non), (Sum.inr "sent", .ref t), (Sum.inr "line", .ref ln)] = stD l7 t ln (newBd ns ls) .non := by kernel_rfl
  rw [es]
  have k : ∀ b o, b ≠ d → G12 b = some o → upd G12 d (.dK (stD l7 t ln (newBd ns ls) .non)) b = some o := fun b o hb e => by rw [upd_ne hb]; exact e
  exact {
    hd := ⟨.non, upd_same, rfl⟩
    hm := k _ _ (ne_of h7 h8 (by intro z; cases z)) h7
    ht := k _ _ (ne_of h10 h8 (by intro z; cases z)) h10
    hl := k _ _ dl.symm h11
    us := .nil
    lm := by
      show (memOf ns).length = 774
      unfold memOf
      rw [List.length_append, List.length_append, List.length_replicate, List.length_replicate]
      omega
    mt := mt
    dl := dl }
abbrev sLsame : Stmt := topS 76
def scLsameN : List Str := ["_law_board", "_law_stand", "_law_found", "_law_due", "_law_truths", "_law_name", "_law_one"]
theorem scLsame : FnScope scLsameN ["_law_board", "_law_stand"] (defScope sLsame) := ⟨rfl, rfl, rfl, by decide +kernel, rfl, by decide +kernel, by decide +kernel⟩
theorem ok_Lsame {f : Addr} {fd : FuncData} (F : Fun K "_law_same" "_law_same" sLsame f fd) (T : Tx K mg CB CM) : FnOk P w K mg base CX0 1 f fd ["_law_board", "_law_stand"] (spSame CB CM) := by
  refine F.ok scLsame (fun vs H Q E h => by obtain ⟨_, _, _, _, _, _, _, _, rfl, _⟩ := h; rfl) (fun cdv A outer s H vs Q E hr h => ?_)
  have hu := hu_of hr
  have z_bool := T.z_bool
  have z_isinstance := T.z_isinstance
  obtain ⟨H0, p, d, m, t, ln, us, x, rfl, R, L, ho, q⟩ := h
  have hu64 := hr.units
  refine ⟨_, (pss_cons (ps_setLc (i := 2) (own := [("_law_name", 5)]) (g := gName 5) (tt := tYes) (by rfl) scLsame.nd rfl rfl rfl (pi_list (pe_lst (pa_cons pe_str (pa_cons pe_str (pa_cons pe_str (pa_cons pe_str pa_nil)))))) (blkOk_by (own := [("_law_name", 5)]) (N := scLsameN) (sc := defScope sLsame) (by decide +kernel)) (fun _ _ _ _ _ => (pg_name (i := 5) scLsame.nd rfl (.inl rfl))) (fun _ _ _ _ _ => pts_nil) (fun _ _ _ _ _ => (pe_dget hu (pe_fldK (K := K) (by rfl) (pv 0) (by rfl)) (pv 5) (fun _ _ => rfl))))
    (pss_cons (ps_set (i := 2) scLsame.nd rfl (.inl rfl) (pe_op op_cat (pv 2) (pe_lst (pa_cons (pe_fld (pv 0) rfl) (pa_cons (pe_fld (pv 0) rfl) (pa_cons (pe_fld (pv 0) rfl) (pa_cons (pe_fld (pv 0) rfl) (pa_cons (pe_fld (pv 0) rfl) (pa_cons (pe_fld (pv 0) rfl) pa_nil)))))))))
    (pss_cons (ps_setLc (i := 3) (own := [("_law_name", 5)]) (g := gName 5) (tt := tYes) (by rfl) scLsame.nd rfl rfl rfl (pi_list (pe_lst (pa_cons pe_str (pa_cons pe_str (pa_cons pe_str (pa_cons pe_str (pa_cons pe_str (pa_cons pe_str (pa_cons pe_str (pa_cons pe_str (pa_cons pe_str (pa_cons pe_str pa_nil)))))))))))) (blkOk_by (own := [("_law_name", 5)]) (N := scLsameN) (sc := defScope sLsame) (by decide +kernel)) (fun _ _ _ _ _ => (pg_name (i := 5) scLsame.nd rfl (.inl rfl))) (fun _ _ _ _ _ => pts_nil) (fun _ _ _ _ _ => (pe_dget hu (pv 1) (pv 5) (fun _ _ => rfl))))
    (pss_cons (ps_setLc (i := 4) (own := [("_law_one", 6)]) (g := gName 6) (tt := tYes) (by rfl) scLsame.nd rfl rfl rfl (pi_list (pv 2)) (blkOk_by (own := [("_law_one", 6)]) (N := scLsameN) (sc := defScope sLsame) (by decide +kernel)) (fun _ _ _ _ _ => (pg_name (i := 6) scLsame.nd rfl (.inl rfl))) (fun _ _ _ _ _ => pts_nil) (fun _ _ _ _ _ => (pe_callB (call_isiB (K := K) (by rfl)) (by rfl) z_isinstance (by decide +kernel) (pa_cons (pv 6) (pa_cons (pe_bltn (v := .ty "bool") (u := .type "bool") (by rfl) z_bool (by decide +kernel) rfl) pa_nil)))))
    (pss_one (ps_ret (pe_and (pe_cmpR (op_eqD hu64) (pv 2) (pv 3) (nomark _)) (pe_one (pe_cmpR (op_eqD hu64) (pv 4) (pe_op op_cat (pe_op op_cat (pe_op op_rep (pe_lst (pa_cons pe_bl pa_nil)) pe_int) (pe_op op_rep (pe_lst (pa_cons pe_bl pa_nil)) pe_int)) (pe_op op_rep (pe_lst (pa_cons pe_bl pa_nil)) pe_int)) (nomark _)))))))))), ?_⟩
  obtain ⟨A, ts, ls, B⟩ := R
  have s0 : Same H H := Same.refl _
  have NM : [V.str "a", V.str "b", V.str "pc", V.str "sp"] = [("a" : Str), "b", "pc", "sp"].map V.str := rfl
  refine ⟨(by show 4 ≤ sizeLine; decide), fun l1 n1 => ?_⟩
  have r1 := same_upd' (o := .lst [V.str "a", V.str "b", V.str "pc", V.str "sp"]) n1
  have h1 : upd H l1 (.lst [V.str "a", V.str "b", V.str "pc", V.str "sp"]) l1 = some (.lst [V.str "a", V.str "b", V.str "pc", V.str "sp"]) := upd_same
  have f1 : H l1 = none := s0.free n1
  have s1 := s0.trans r1
  generalize upd H l1 (.lst [V.str "a", V.str "b", V.str "pc", V.str "sp"]) = G1 at *
  refine ⟨l1, rfl, ⟨_, SqL.of h1⟩, fun D nD => ?_⟩
  refine lc_list (K := K) (a := l1) (xs := [("a" : Str), "b", "pc", "sp"].map V.str) (fun i H' => Same G1 H' ∧ H' D = some (.lst ((regV x).take i))) ⟨same_upd' nD, upd_same⟩ (fun i H' _ h => SqL.of (h.1 _ _ h1)) ?_ ?_
  · rintro j v H' hv ⟨sm, hD⟩
    obtain ⟨k_, u, rfl, e1, e2⟩ := nm_get (reg_get x) _ _ hv
    have Bj := B.same (s1.trans sm)
    obtain ⟨sv1, tv1, dv1, hp1, hz1⟩ := Bj.hp
    refine ⟨rfl, ?_⟩
    refine ⟨_, rfl, p, CB, A.dx, _, _, rfl, hp1, T.cB, T.n_registers, bF_reg, _, rfl, A.r, _, rfl, dg (k := Sum.inr k_) Bj.hr e1, ?_⟩
    refine ⟨_, hD, ?_, same_of sm nD, ?_⟩
    · exact small1000 (Nat.le_trans (List.length_take_le' ..) (show (regV x).length ≤ 1000 by show 4 ≤ 1000; decide))
    · rw [upd_same, take_snc e2]
  rintro G2 ⟨sm2, hD⟩
  have hD : G2 D = some (.lst (regV x)) := hD
  have s2 := s1.trans sm2
  have B2 := B.same s2
  obtain ⟨sv1, tv1, dv1, hp1, hz1⟩ := B2.hp
  refine ⟨_, rfl, _, rfl, p, CB, A.dx, _, _, rfl, hp1, T.cB, T.n_zero, bF_zero, _, rfl, p, CB, A.dx, _, _, rfl, hp1, T.cB, T.n_lets, bF_lets, _, rfl, p, CB, A.dx, _, _, rfl, hp1, T.cB, T.n_asleep, bF_asleep, _, rfl, p, CB, A.dx, _, _, rfl, hp1, T.cB, T.n_beat, bF_beat, _, rfl, p, CB, A.dx, _, _, rfl, hp1, T.cB, T.n_stopped, bF_stop, _, rfl, p, CB, A.dx, _, _, rfl, hp1, T.cB, T.n_sent, bF_sent, (by show 6 ≤ sizeLine; decide), fun l3 n3 => ?_⟩
  have r3 := same_upd' (o := .lst [V.bl x.zero, V.bl x.lets, V.bl x.asleep, V.int x.beat, sv1, V.ref A.t]) n3
  have h3 : upd G2 l3 (.lst [V.bl x.zero, V.bl x.lets, V.bl x.asleep, V.int x.beat, sv1, V.ref A.t]) l3 = some (.lst [V.bl x.zero, V.bl x.lets, V.bl x.asleep, V.int x.beat, sv1, V.ref A.t]) := upd_same
  have f3 : H l3 = none := s2.free n3
  have s3 := s2.trans r3
  have hD := r3 _ _ hD
  generalize upd G2 l3 (.lst [V.bl x.zero, V.bl x.lets, V.bl x.asleep, V.int x.beat, sv1, V.ref A.t]) = G3 at *
  refine ⟨D, l3, _, _, rfl, rfl, hD, h3, (by show 4 + 6 ≤ sizeLine; decide), fun l4 n4 => ?_⟩
  have e4 : regV x ++ [V.bl x.zero, V.bl x.lets, V.bl x.asleep, V.int x.beat, sv1, V.ref A.t] = sameV x sv1 A.t := rfl
  rw [e4]
  have r4 := same_upd' (o := .lst (sameV x sv1 A.t)) n4
  have h4 : upd G3 l4 (.lst (sameV x sv1 A.t)) l4 = some (.lst (sameV x sv1 A.t)) := upd_same
  have f4 : H l4 = none := s3.free n4
  have s4 := s3.trans r4
  generalize upd G3 l4 (.lst (sameV x sv1 A.t)) = G4 at *
  refine ⟨(by show 10 ≤ sizeLine; decide), fun l5 n5 => ?_⟩
  have r5 := same_upd' (o := .lst [V.str "a", V.str "b", V.str "pc", V.str "sp", V.str "zero", V.str "lets", V.str "asleep", V.str "beat", V.str "stopped", V.str "sent"]) n5
  have h5 : upd G4 l5 (.lst [V.str "a", V.str "b", V.str "pc", V.str "sp", V.str "zero", V.str "lets", V.str "asleep", V.str "beat", V.str "stopped", V.str "sent"]) l5 = some (.lst [V.str "a", V.str "b", V.str "pc", V.str "sp", V.str "zero", V.str "lets", V.str "asleep", V.str "beat", V.str "stopped", V.str "sent"]) := upd_same
  have f5 : H l5 = none := s4.free n5
  have s5 := s4.trans r5
  have h4 := r5 _ _ h4
  generalize upd G4 l5 (.lst [V.str "a", V.str "b", V.str "pc", V.str "sp", V.str "zero", V.str "lets", V.str "asleep", V.str "beat", V.str "stopped", V.str "sent"]) = G5 at *
  obtain ⟨svL, hdL, hzL⟩ := (L.same s5).hd
  have L5 := L.same s5
  refine ⟨l5, rfl, ⟨_, SqL.of h5⟩, fun D6 nD6 => ?_⟩
  refine lc_list (K := K) (a := l5) (xs := [("a" : Str), "b", "pc", "sp", "zero", "lets", "asleep", "beat", "stopped", "sent"].map V.str) (fun i H' => Same G5 H' ∧ H' D6 = some (.lst ((sameV x svL t).take i))) ⟨same_upd' nD6, upd_same⟩ (fun i H' _ h => SqL.of (h.1 _ _ h5)) ?_ ?_
  · rintro j v H' hv ⟨sm, hD6⟩
    obtain ⟨k_, u, rfl, e1, e2⟩ := nm_get (law_get m t ln x svL) _ _ hv
    refine ⟨rfl, ?_⟩
    refine ⟨_, rfl, _, rfl, d, _, rfl, dg (k := Sum.inr k_) (sm _ _ hdL) e1, ?_⟩
    refine ⟨_, hD6, ?_, same_of sm nD6, ?_⟩
    · exact small1000 (Nat.le_trans (List.length_take_le' ..) (show (sameV x svL t).length ≤ 1000 by show 10 ≤ 1000; decide))
    · rw [upd_same, take_snc e2]
  rintro G6 ⟨sm6, hD6⟩
  have hD6 : G6 D6 = some (.lst (sameV x svL t)) := hD6
  have s6 := s5.trans sm6
  have h4 := sm6 _ _ h4
  have L6 := L.same s6
  have hz6 := hzL.mono fun t xs e => sm6 _ _ e
  have B6 := B.same s6
  have hz1' : StopAt G6 sv1 x.stop := hz1.mono fun t xs e => sm6 _ _ (r5 _ _ (r4 _ _ (r3 _ _ e)))
  refine ⟨_, rfl, l4, rfl, ⟨_, SqL.of h4⟩, fun D7 nD7 => ?_⟩
  refine lc_list (K := K) (a := l4) (xs := sameV x sv1 A.t) (fun i H' => Same G6 H' ∧ H' D7 = some (.lst ((([false, false, false, false, true, true, true, false, false, false] : List Bool).take i).map V.bl))) ⟨same_upd' nD7, upd_same⟩ (fun i H' _ h => SqL.of (h.1 _ _ h4)) ?_ ?_
  · rintro j v H' hv ⟨sm, hD7⟩
    have Bj := B6.same sm
    obtain ⟨bb, ⟨ty, e1, e2⟩, e3⟩ := same_isb (K := K) (hz1'.mono fun t xs e => sm _ _ e) Bj.ht _ _ hv
    refine ⟨rfl, ?_⟩
    refine ⟨_, rfl, v, .ty "bool", ty, _, bb, rfl, .ty "bool", e1, e2, ?_⟩
    refine ⟨_, hD7, ?_, same_of sm nD7, ?_⟩
    · rw [List.length_map]
      exact small1000 (Nat.le_trans (List.length_take_le' ..) (by decide))
    · rw [upd_same, take_snc e3, List.map_append]
      rfl
  rintro G7 ⟨sm7, hD7⟩
  have hD7 : G7 D7 = some (.lst (([false, false, false, false, true, true, true, false, false, false] : List Bool).map V.bl)) := hD7
  have s7 := s6.trans sm7
  have h4 := sm7 _ _ h4
  have hD6 := sm7 _ _ hD6
  have L7 := L6.same sm7
  have B7 := B6.same sm7
  refine ⟨_, rfl, _, rfl, _, _, .lst (SqL.of h4) (same_dp (hz1'.mono fun t xs e => sm7 _ _ e) B7.ht B7.us), .lst (SqL.of hD6) (same_dp (hz6.mono fun t xs e => sm7 _ _ e) L7.ht L7.us), same_shape ho, same_shape ho, _, rfl, ?_⟩
  rw [SeqAt.eqv_refl (.list (sameD x)) (show PyData.canLay0 (.list (sameD x)) = true from same_can ho)]
  refine ifB (fun _ => ?_) (fun h => by cases h)
  refine ⟨_, rfl, (by show 1 ≤ sizeLine; decide), fun l8 n8 => ?_⟩
  have r8 := same_upd' (o := .lst [V.bl false]) n8
  have h8 : upd G7 l8 (.lst [V.bl false]) l8 = some (.lst [V.bl false]) := upd_same
  have f8 : H l8 = none := s7.free n8
  have s8 := s7.trans r8
  have hD7 := r8 _ _ hD7
  generalize upd G7 l8 (.lst [V.bl false]) = G8 at *
  refine ⟨l8, _, _, rfl, rfl, h8, by decide, by decide, (by show 1 * 4 ≤ sizeLine; decide), fun l9 n9 => ?_⟩
  rw [show (List.replicate (4 : Int).toNat [V.bl false]).flatten = [V.bl false, V.bl false, V.bl false, V.bl false] from rfl]
  have r9 := same_upd' (o := .lst [V.bl false, V.bl false, V.bl false, V.bl false]) n9
  have h9 : upd G8 l9 (.lst [V.bl false, V.bl false, V.bl false, V.bl false]) l9 = some (.lst [V.bl false, V.bl false, V.bl false, V.bl false]) := upd_same
  have f9 : H l9 = none := s8.free n9
  have s9 := s8.trans r9
  have hD7 := r9 _ _ hD7
  generalize upd G8 l9 (.lst [V.bl false, V.bl false, V.bl false, V.bl false]) = G9 at *
  refine ⟨(by show 1 ≤ sizeLine; decide), fun l10 n10 => ?_⟩
  have r10 := same_upd' (o := .lst [V.bl true]) n10
  have h10 : upd G9 l10 (.lst [V.bl true]) l10 = some (.lst [V.bl true]) := upd_same
  have f10 : H l10 = none := s9.free n10
  have s10 := s9.trans r10
  have hD7 := r10 _ _ hD7
  have h9 := r10 _ _ h9
  generalize upd G9 l10 (.lst [V.bl true]) = G10 at *
  refine ⟨l10, _, _, rfl, rfl, h10, by decide, by decide, (by show 1 * 3 ≤ sizeLine; decide), fun l11 n11 => ?_⟩
  rw [show (List.replicate (3 : Int).toNat [V.bl true]).flatten = [V.bl true, V.bl true, V.bl true] from rfl]
  have r11 := same_upd' (o := .lst [V.bl true, V.bl true, V.bl true]) n11
  have h11 : upd G10 l11 (.lst [V.bl true, V.bl true, V.bl true]) l11 = some (.lst [V.bl true, V.bl true, V.bl true]) := upd_same
  have f11 : H l11 = none := s10.free n11
  have s11 := s10.trans r11
  have hD7 := r11 _ _ hD7
  have h9 := r11 _ _ h9
  generalize upd G10 l11 (.lst [V.bl true, V.bl true, V.bl true]) = G11 at *
  refine ⟨l9, l11, _, _, rfl, rfl, h9, h11, (by show 4 + 3 ≤ sizeLine; decide), fun l12 n12 => ?_⟩
  have r12 := same_upd' (o := .lst ([V.bl false, V.bl false, V.bl false, V.bl false] ++ [V.bl true, V.bl true, V.bl true])) n12
  have h12 : upd G11 l12 (.lst ([V.bl false, V.bl false, V.bl false, V.bl false] ++ [V.bl true, V.bl true, V.bl true])) l12 = some (.lst ([V.bl false, V.bl false, V.bl false, V.bl false] ++ [V.bl true, V.bl true, V.bl true])) := upd_same
  have f12 : H l12 = none := s11.free n12
  have s12 := s11.trans r12
  have hD7 := r12 _ _ hD7
  generalize upd G11 l12 (.lst ([V.bl false, V.bl false, V.bl false, V.bl false] ++ [V.bl true, V.bl true, V.bl true])) = G12 at *
  refine ⟨(by show 1 ≤ sizeLine; decide), fun l13 n13 => ?_⟩
  have r13 := same_upd' (o := .lst [V.bl false]) n13
  have h13 : upd G12 l13 (.lst [V.bl false]) l13 = some (.lst [V.bl false]) := upd_same
  have f13 : H l13 = none := s12.free n13
  have s13 := s12.trans r13
  have hD7 := r13 _ _ hD7
  have h12 := r13 _ _ h12
  generalize upd G12 l13 (.lst [V.bl false]) = G13 at *
  refine ⟨l13, _, _, rfl, rfl, h13, by decide, by decide, (by show 1 * 3 ≤ sizeLine; decide), fun l14 n14 => ?_⟩
  rw [show (List.replicate (3 : Int).toNat [V.bl false]).flatten = [V.bl false, V.bl false, V.bl false] from rfl]
  have r14 := same_upd' (o := .lst [V.bl false, V.bl false, V.bl false]) n14
  have h14 : upd G13 l14 (.lst [V.bl false, V.bl false, V.bl false]) l14 = some (.lst [V.bl false, V.bl false, V.bl false]) := upd_same
  have f14 : H l14 = none := s13.free n14
  have s14 := s13.trans r14
  have hD7 := r14 _ _ hD7
  have h12 := r14 _ _ h12
  generalize upd G13 l14 (.lst [V.bl false, V.bl false, V.bl false]) = G14 at *
  refine ⟨l12, l14, _, _, rfl, rfl, h12, h14, (by show 7 + 3 ≤ sizeLine; decide), fun l15 n15 => ?_⟩
  have e15 : [V.bl false, V.bl false, V.bl false, V.bl false] ++ [V.bl true, V.bl true, V.bl true] ++ [V.bl false, V.bl false, V.bl false] = ([false, false, false, false, true, true, true, false, false, false] : List Bool).map V.bl := rfl
  rw [e15]
  have r15 := same_upd' (o := .lst (([false, false, false, false, true, true, true, false, false, false] : List Bool).map V.bl)) n15
  have h15 : upd G14 l15 (.lst (([false, false, false, false, true, true, true, false, false, false] : List Bool).map V.bl)) l15 = some (.lst (([false, false, false, false, true, true, true, false, false, false] : List Bool).map V.bl)) := upd_same
  have f15 : H l15 = none := s14.free n15
  have s15 := s14.trans r15
  have hD7 := r15 _ _ hD7
  generalize upd G14 l15 (.lst (([false, false, false, false, true, true, true, false, false, false] : List Bool).map V.bl)) = G15 at *
  refine ⟨_, _, .lst (SqL.of hD7) (dp_bls _), .lst (SqL.of h15) (dp_bls _), shaped_bls _, shaped_bls _, ?_⟩
  rw [SeqAt.eqv_refl _ (by decide +kernel)]
  exact q _ s15
end
end Bh

/-! Twins: the program's own defs. -/
namespace Bh
open PySem PySem.Spec PyProof.Rows L2
section
variable {r r2 t t2 m l ww w2 s : Addr} {z le as : Bool} {bt : Int} {la k : Nat} {sv tv dv : V}
theorem bP_reg : putF "registers" (.ref r2) (bdF r t m l z le as bt sv la tv dv) = bdF r2 t m l z le as bt sv la tv dv := by kernel_rfl
theorem bP_sent : putF "sent" (.ref t2) (bdF r t m l z le as bt sv la tv dv) = bdF r t2 m l z le as bt sv la tv dv := by kernel_rfl
theorem bP_lat : putF "line_at" (.int (k : Int)) (bdF r t m l z le as bt sv la tv dv) = bdF r t m l z le as bt sv k tv dv := by kernel_rfl
theorem mP_words : putF "words" (.ref w2) (mmF ww s) = mmF w2 s := by kernel_rfl
theorem bN_stand : (bdF r t m l z le as bt sv la tv dv).lookup ("stand_as" : Str) = none := by kernel_rfl
theorem bN_twin : (bdF r t m l z le as bt sv la tv dv).lookup ("twin" : Str) = none := by kernel_rfl
theorem mN_stand : (mmF ww s).lookup ("stand_as" : Str) = none := by kernel_rfl
end
theorem upd_comm {H : Hp} {a b : Addr} {o o' : HO} (h : a ≠ b) : upd (upd H a o) b o' = upd (upd H b o') a o := by
  funext c
  by_cases e1 : c = a
  · subst e1
    rw [upd_same, upd_ne h, upd_same]
  · by_cases e2 : c = b
    · subst e2
      rw [upd_same, upd_ne e1, upd_same]
    · rw [upd_ne e2, upd_ne e1, upd_ne e1, upd_ne e2]
def FtB (p : Addr) (A : Ad) (b : Addr) : Prop := b = p ∨ b = A.r ∨ b = A.w ∨ b = A.t ∨ b = A.m ∨ b = A.s ∨ b = A.l
/-- what a board is, by itself -/
structure Bc (CB CM : Addr) (H : Hp) (p : Addr) (A : Ad) (ts ls : List V) (x : Bd) : Prop where
  hp : ∃ sv tv dv, H p = some (.ins CB A.dx (bdF A.r A.t A.m A.l x.zero x.lets x.asleep x.beat sv x.la tv dv)) ∧ StopAt H sv x.stop
  hr : H A.r = some (.dK (regD x.a x.b x.pc x.sp))
  hm : H A.m = some (.ins CM A.dm (mmF A.w A.s))
  hw : H A.w = some (.lst (x.mem.map V.int))
  hs : H A.s = some (.dK [])
  ht : H A.t = some (.lst ts)
  hl : H A.l = some (.lst ls)
  pm : p ≠ A.m
  rs : A.r ≠ A.s
  wt : A.w ≠ A.t
  wl : A.w ≠ A.l
  tl : A.t ≠ A.l
  us : TupsAt H ts x.sent
  ll : TupsAt H ls x.line
  lm : x.mem.length = 774
section
variable {CB CM p : Addr} {Hb Hc H H' : Hp} {A : Ad} {ts ls : List V} {x : Bd}
theorem Bp.bc (B : Bp CB CM Hb H p A ts ls x) : Bc CB CM H p A ts ls x := ⟨B.hp, B.hr, B.hm, B.hw, B.hs, B.ht, B.hl, B.pm, B.rs, B.wt, B.wl, B.tl, B.us, B.ll, B.lm⟩
theorem Bc.over (C : Bc CB CM H p A ts ls x) (s : Same Hc H) (f : ∀ b, FtB p A b → Hc b = none) : Bp CB CM Hc H p A ts ls x where
  sm := s
  fp := f _ (.inl rfl)
  fr := f _ (.inr (.inl rfl))
  fw := f _ (.inr (.inr (.inl rfl)))
  ft := f _ (.inr (.inr (.inr (.inl rfl))))
  fm := f _ (.inr (.inr (.inr (.inr (.inl rfl)))))
  fs := f _ (.inr (.inr (.inr (.inr (.inr (.inl rfl))))))
  fl := f _ (.inr (.inr (.inr (.inr (.inr (.inr rfl))))))
  hp := C.hp
  hr := C.hr
  hm := C.hm
  hw := C.hw
  hs := C.hs
  ht := C.ht
  hl := C.hl
  pm := C.pm
  rs := C.rs
  wt := C.wt
  wl := C.wl
  tl := C.tl
  us := C.us
  ll := C.ll
  lm := C.lm
theorem Bc.bp (C : Bc CB CM H p A ts ls x) : Bp CB CM (baseOf H p A) H p A ts ls x := C.over (fun b o e => by
  unfold baseOf at e
  split at e
  · cases e
  · exact e) fun b h => if_pos h
theorem Bp.foot (B : Bp CB CM Hb H p A ts ls x) {b : Addr} (h : FtB p A b) : Hb b = none := by
  rcases h with z | z | z | z | z | z | z <;> rw [z]
  · exact B.fp
  · exact B.fr
  · exact B.fw
  · exact B.ft
  · exact B.fm
  · exact B.fs
  · exact B.fl
theorem Bp.weak (B : Bp CB CM Hb H p A ts ls x) (s : Same Hc Hb) : Bp CB CM Hc H p A ts ls x := B.bc.over (s.trans B.sm) fun _ h => s.free (B.foot h)
theorem Bc.same (C : Bc CB CM H p A ts ls x) (s : Same H H') : Bc CB CM H' p A ts ls x := (C.bp.same s).bc
theorem Bc.move (C : Bc CB CM H p A ts ls x) (k : ∀ b o, FtB p A b → H b = some o → H' b = some o) (tk : ∀ t xs, H t = some (.tup xs) → H' t = some (.tup xs)) : Bc CB CM H' p A ts ls x where
  hp := let ⟨sv, tv, dv, e, z⟩ := C.hp; ⟨sv, tv, dv, k _ _ (.inl rfl) e, z.mono tk⟩
  hr := k _ _ (.inr (.inl rfl)) C.hr
  hw := k _ _ (.inr (.inr (.inl rfl))) C.hw
  ht := k _ _ (.inr (.inr (.inr (.inl rfl)))) C.ht
  hm := k _ _ (.inr (.inr (.inr (.inr (.inl rfl))))) C.hm
  hs := k _ _ (.inr (.inr (.inr (.inr (.inr (.inl rfl)))))) C.hs
  hl := k _ _ (.inr (.inr (.inr (.inr (.inr (.inr rfl)))))) C.hl
  pm := C.pm
  rs := C.rs
  wt := C.wt
  wl := C.wl
  tl := C.tl
  us := C.us.mono tk
  ll := C.ll.mono tk
  lm := C.lm
theorem Bc.is (C : Bc CB CM H p A ts ls x) {b : Addr} (h : FtB p A b) : ∃ o, H b = some o ∧ ∀ xs, o ≠ .tup xs := by
  obtain ⟨sv, tv, dv, hp, _⟩ := C.hp
  rcases h with z | z | z | z | z | z | z <;> rw [z]
  · exact ⟨_, hp, fun xs q => by cases q⟩
  · exact ⟨_, C.hr, fun xs q => by cases q⟩
  · exact ⟨_, C.hw, fun xs q => by cases q⟩
  · exact ⟨_, C.ht, fun xs q => by cases q⟩
  · exact ⟨_, C.hm, fun xs q => by cases q⟩
  · exact ⟨_, C.hs, fun xs q => by cases q⟩
  · exact ⟨_, C.hl, fun xs q => by cases q⟩
end
def spMStd (CM : Addr) : Sp := fun vs H Q _ => ∃ (m m2 dm dm2 ww s w2 s2 : Addr) (mem : List Int), vs = [.ref m2, .ref m] ∧ H m2 = some (.ins CM dm2 (mmF w2 s2)) ∧ H m = some (.ins CM dm (mmF ww s)) ∧ H ww = some (.lst (mem.map V.int)) ∧ ∀ w3, H w3 = none → Q .non (upd (upd H w3 (.lst (mem.map V.int))) m2 (.ins CM dm2 (mmF w3 s2)))
def spBStd (CB CM : Addr) : Sp := fun vs H Q _ => ∃ (H0 : Hp) (p q : Addr) (A A2 : Ad) (ts ls ts2 ls2 : List V) (x y : Bd), vs = [.ref q, .ref p] ∧ Bp CB CM H0 H q A2 ts2 ls2 y ∧ Bc CB CM H0 p A ts ls x ∧ y.line = x.line ∧ ∀ H', BoardAt CB CM H0 H' q x → Q .non H'
def spTwin (CB CM : Addr) : Sp := fun vs H Q _ => ∃ (p : Addr) (A : Ad) (ts ls : List V) (x : Bd), vs = [.ref p] ∧ Bc CB CM H p A ts ls x ∧ riseM 0 x.line ∧ ∀ H' q, BoardAt CB CM H H' q x → Q (.ref q) H'
def spOwn : Sp := fun vs H Q _ => ∃ (d m t ln : Addr) (us : List V) (x : Bd), vs = [.ref d] ∧ Lw H d m t ln us x ∧ ∀ H' d2 m2 t2, Same H H' → H d2 = none → H m2 = none → H t2 = none → Lw H' d2 m2 t2 ln us x → Q (.ref d2) H'
def spLike5 (CB CM : Addr) : Sp := fun vs H Q _ => ∃ (p d m t ln : Addr) (A : Ad) (ts ls us : List V) (x : Bd), vs = [.ref p, .ref d, .int 500, .int 774] ∧ Bc CB CM H p A ts ls x ∧ Lw H d m t ln us x ∧ ∀ H', Same H H' → Q (.bl true) H'
theorem map_rd5 (m : List Int) (hl : m.length = 774) : (List.range 274).map (fun k : Nat => rd m (500 + (k : Int))) = m.drop 500 := by
  apply List.ext_getElem
  · rw [List.length_map, List.length_range, List.length_drop, hl]
  · intro i h1 h2
    rw [List.length_map, List.length_range] at h1
    rw [List.getElem_map, List.getElem_range, List.getElem_drop]
    unfold rd
    have e : (500 + (i : Int)).toNat = 500 + i := by omega
    rw [e, List.getD_eq_getElem?_getD, List.getElem?_eq_getElem (by omega), Option.getD_some]
theorem cut_tail5 (m : List Int) (hl : m.length = 774) : cutV (m.map V.int) (some 500) (some 774) = (m.drop 500).map V.int := by
  unfold cutV
  rw [List.length_map, hl, show HT.sIx 774 774 (some 774) = 774 from by decide +kernel, show HT.sIx 774 0 (some 500) = 500 from by decide +kernel, ← List.map_drop, ← List.map_take]
  rw [List.take_of_length_le (by rw [List.length_drop, hl]; decide)]
section
variable {P : Program} {w : World} {K : PySem.W.Frag} {mg : Str → Option Value} {base : Heap} {CB CM : Addr}
abbrev sMmstd : Stmt := inClass (topS 47) 9
def scMmstdN : List Str := ["self", "other"]
theorem scMmstd : FnScope scMmstdN ["self", "other"] (defScope sMmstd) := ⟨rfl, rfl, rfl, by decide +kernel, rfl, by decide +kernel, by decide +kernel⟩
theorem ok_Mmstd {f : Addr} {fd : FuncData} (F : Fun K "stand_as" "Memory.stand_as" sMmstd f fd) (T : Tx K mg CB CM) : FnOk P w K mg base CX0 1 f fd ["self", "other"] (spMStd CM) := by
  refine F.ok scMmstd (fun vs H Q E h => by obtain ⟨_, _, _, _, _, _, _, _, _, rfl, _⟩ := h; rfl) (fun cdv A outer s H vs Q E hr h => ?_)
  have hu := hu_of hr
  have z_list := T.z_list
  obtain ⟨m, m2, dm, dm2, ww, s_, w2, s2, mem, rfl, h2, h1, hw, k⟩ := h
  refine ⟨_, (pss_one (ps_fld (pv 0) (pe_callTy call_list_of (by rfl) z_list (by decide +kernel) (pa_cons (pe_fld (pv 1) rfl) pa_nil)) rfl)), ?_⟩
  have nm : ww ≠ m2 := ne_of hw h2 (by intro q; cases q)
  refine ⟨_, rfl, m, CM, dm, _, _, rfl, h1, T.cM, T.n_words, mF_w, ww, _, rfl, .inl (SqL.of hw), fun w3 n3 => ?_⟩
  have ne : m2 ≠ w3 := ne_of_none h2 n3
  refine ⟨_, rfl, m2, CM, dm2, _, rfl, (by rw [upd_ne ne]; exact h2), T.cM, T.n_words, (by show 2 < 1000; decide), ?_⟩
  rw [mP_words]
  exact k w3 n3
abbrev sMbstd : Stmt := inClass (topS 64) 2
def scMbstdN : List Str := ["self", "other"]
theorem scMbstd : FnScope scMbstdN ["self", "other"] (defScope sMbstd) := ⟨rfl, rfl, rfl, by decide +kernel, rfl, by decide +kernel, by decide +kernel⟩
theorem ok_Mbstd {f : Addr} {fd : FuncData} {fM_mstd : Addr} {dM_mstd : FuncData} (F : Fun K "stand_as" "Board.stand_as" sMbstd f fd) (T : Tx K mg CB CM)
    (M_mstd : CalM P w K mg base CM 1 "stand_as" ["self", "other"] (spMStd CM) fM_mstd dM_mstd)
    (z_dict : mg "dict" = none) : FnOk P w K mg base CX0 2 f fd ["self", "other"] (spBStd CB CM) := by
  refine F.ok scMbstd (fun vs H Q E h => by obtain ⟨_, _, _, _, _, _, _, _, _, _, _, rfl, _⟩ := h; rfl) (fun cdv A outer s H vs Q E hr h => ?_)
  have hu := hu_of hr
  have z_list := T.z_list
  obtain ⟨H0, p, q, A, A2, ts, ls, ts2, ls2, x, y, rfl, B, C, el, k⟩ := h
  refine ⟨_, (pss_cons (ps_fld (pv 0) (pe_callTy call_dictD (by rfl) z_dict (by decide +kernel) (pa_cons (pe_fld (pv 1) rfl) pa_nil)) rfl)
    (pss_cons (ps_fld (pv 0) (pe_fld (pv 1) rfl) rfl)
    (pss_cons (ps_fld (pv 0) (pe_fld (pv 1) rfl) rfl)
    (pss_cons (ps_fld (pv 0) (pe_fld (pv 1) rfl) rfl)
    (pss_cons (ps_fld (pv 0) (pe_fld (pv 1) rfl) rfl)
    (pss_cons (ps_fld (pv 0) (pe_fld (pv 1) rfl) rfl)
    (pss_cons (ps_fld (pv 0) (pe_callTy call_list_of (by rfl) z_list (by decide +kernel) (pa_cons (pe_fld (pv 1) rfl) pa_nil)) rfl)
    (pss_cons (ps_expr (pe_meth (pe_fld (pv 0) rfl) M_mstd.c M_mstd.m M_mstd.G (hr.mono (by decide)) M_mstd.b .nil pass0 (pa_cons (pe_fld (pv 1) rfl) pa_nil)))
    (pss_one (ps_fld (pv 0) (pe_fld (pv 1) rfl) rfl)))))))))), ?_⟩
  obtain ⟨sv, tv, dv, hp, hz⟩ := C.hp
  obtain ⟨sv2, tv2, dv2, hq, hz2⟩ := B.hp
  have npq : p ≠ q := ne_of_none hp B.fp
  have npm : p ≠ A2.m := ne_of_none hp B.fm
  have keep : ∀ b o, H0 b = some o → b ≠ q ∧ b ≠ A2.m ∧ H b = some o := fun b o e => ⟨ne_of_none e B.fp, ne_of_none e B.fm, B.sm _ _ e⟩
  have hp := B.sm _ _ hp
  have hr := B.sm _ _ C.hr
  refine ⟨_, rfl, p, CB, A.dx, _, _, rfl, hp, T.cB, T.n_registers, bF_reg, A.r, _, rfl, .inl hr, fun r2 nr2 => ?_⟩
  have qr : q ≠ r2 := ne_of_none hq nr2
  refine ⟨_, rfl, q, CB, A2.dx, _, rfl, (by rw [upd_ne qr]; exact hq), T.cB, T.n_registers, (by show 13 < 1000; decide), ?_⟩
  rw [bP_reg]
  have s1 := same_upd' (o := .dK (regD x.a x.b x.pc x.sp)) nr2
  have hr2 : upd H r2 (.dK (regD x.a x.b x.pc x.sp)) r2 = some (.dK (regD x.a x.b x.pc x.sp)) := upd_same
  generalize upd H r2 (.dK (regD x.a x.b x.pc x.sp)) = G1 at *
  have hp := s1 _ _ hp
  refine ⟨_, rfl, p, CB, A.dx, _, _, rfl, (by rw [upd_ne npq]; exact hp), T.cB, T.n_zero, bF_zero, _, rfl, q, CB, A2.dx, _, rfl, upd_same, T.cB, T.n_zero, (by show 13 < 1000; decide), ?_⟩
  rw [bP_zero, upd_upd]
  refine ⟨_, rfl, p, CB, A.dx, _, _, rfl, (by rw [upd_ne npq]; exact hp), T.cB, T.n_lets, bF_lets, _, rfl, q, CB, A2.dx, _, rfl, upd_same, T.cB, T.n_lets, (by show 13 < 1000; decide), ?_⟩
  rw [bP_lets, upd_upd]
  refine ⟨_, rfl, p, CB, A.dx, _, _, rfl, (by rw [upd_ne npq]; exact hp), T.cB, T.n_asleep, bF_asleep, _, rfl, q, CB, A2.dx, _, rfl, upd_same, T.cB, T.n_asleep, (by show 13 < 1000; decide), ?_⟩
  rw [bP_asleep, upd_upd]
  refine ⟨_, rfl, p, CB, A.dx, _, _, rfl, (by rw [upd_ne npq]; exact hp), T.cB, T.n_beat, bF_beat, _, rfl, q, CB, A2.dx, _, rfl, upd_same, T.cB, T.n_beat, (by show 13 < 1000; decide), ?_⟩
  rw [bP_beat, upd_upd]
  refine ⟨_, rfl, p, CB, A.dx, _, _, rfl, (by rw [upd_ne npq]; exact hp), T.cB, T.n_stopped, bF_stop, _, rfl, q, CB, A2.dx, _, rfl, upd_same, T.cB, T.n_stopped, (by show 13 < 1000; decide), ?_⟩
  rw [bP_stop, upd_upd]
  have ht1 := s1 _ _ (B.sm _ _ C.ht)
  have ntq : A.t ≠ q := ne_of_none C.ht B.fp
  refine ⟨_, rfl, p, CB, A.dx, _, _, rfl, (by rw [upd_ne npq]; exact hp), T.cB, T.n_sent, bF_sent, A.t, _, rfl, .inl (SqL.of (by rw [upd_ne ntq]; exact ht1)), fun t2 nt2 => ?_⟩
  have qt : q ≠ t2 := fun z => by rw [← z, upd_same] at nt2; cases nt2
  rw [upd_ne qt.symm] at nt2
  rw [upd_comm qt]
  have s2 := same_upd' (o := .lst ts) nt2
  have ht2 : upd G1 t2 (.lst ts) t2 = some (.lst ts) := upd_same
  have nrt : r2 ≠ t2 := ne_of_none hr2 nt2
  have hr2 := s2 _ _ hr2
  have hp := s2 _ _ hp
  generalize upd G1 t2 (.lst ts) = G2 at *
  refine ⟨_, rfl, q, CB, A2.dx, _, rfl, upd_same, T.cB, T.n_sent, (by show 13 < 1000; decide), ?_⟩
  rw [bP_sent, upd_upd]
  have s12 := s1.trans s2
  have hm2 := s12 _ _ B.hm
  have nmq : A2.m ≠ q := B.pm.symm
  have hm1 := s12 _ _ (B.sm _ _ C.hm)
  have nm1 : A.m ≠ q := ne_of_none C.hm B.fp
  have hw1 := s12 _ _ (B.sm _ _ C.hw)
  have nw1 : A.w ≠ q := ne_of_none C.hw B.fp
  refine ⟨_, rfl, q, CB, A2.dx, _, _, rfl, upd_same, T.cB, T.n_memory, bF_mem, A2.m, A2.dm, _, rfl, (by rw [upd_ne nmq]; exact hm2), mN_stand, _, rfl, p, CB, A.dx, _, _, rfl, (by rw [upd_ne npq]; exact hp), T.cB, T.n_memory, bF_mem, A.m, A2.m, A.dm, A2.dm, A.w, A.s, A2.w, A2.s, x.mem, rfl, (by rw [upd_ne nmq]; exact hm2), (by rw [upd_ne nm1]; exact hm1), (by rw [upd_ne nw1]; exact hw1), fun w3 nw3 => ?_⟩
  have qw : q ≠ w3 := fun z => by rw [← z, upd_same] at nw3; cases nw3
  rw [upd_ne qw.symm] at nw3
  rw [upd_comm qw, upd_comm nmq.symm]
  have s3 := same_upd' (o := .lst (x.mem.map V.int)) nw3
  have hw3 : upd G2 w3 (.lst (x.mem.map V.int)) w3 = some (.lst (x.mem.map V.int)) := upd_same
  have ntw : t2 ≠ w3 := ne_of_none ht2 nw3
  have hr2 := s3 _ _ hr2
  have ht2 := s3 _ _ ht2
  have hp := s3 _ _ hp
  generalize upd G2 w3 (.lst (x.mem.map V.int)) = G3 at *
  have s13 := s12.trans s3
  have hm3 := s13 _ _ B.hm
  have k4 : ∀ b o, b ≠ A2.m → G3 b = some o → upd G3 A2.m (.ins CM A2.dm (mmF w3 A2.s)) b = some o := fun b o n e => by rw [upd_ne n]; exact e
  have hm4 : upd G3 A2.m (.ins CM A2.dm (mmF w3 A2.s)) A2.m = some (.ins CM A2.dm (mmF w3 A2.s)) := upd_same
  have hp := k4 _ _ npm hp
  have hr2 := k4 _ _ (ne_of hr2 hm3 (by intro z; cases z)) hr2
  have ht2 := k4 _ _ (ne_of ht2 hm3 (by intro z; cases z)) ht2
  have hw3 := k4 _ _ (ne_of hw3 hm3 (by intro z; cases z)) hw3
  have hs4 := k4 _ _ (ne_of (s13 _ _ B.hs) hm3 (by intro z; cases z)) (s13 _ _ B.hs)
  have hl4 := k4 _ _ (ne_of (s13 _ _ B.hl) hm3 (by intro z; cases z)) (s13 _ _ B.hl)
  have all4 : ∀ b o, b ≠ A2.m → H b = some o → upd G3 A2.m (.ins CM A2.dm (mmF w3 A2.s)) b = some o := fun b o n e => k4 b o n (s13 _ _ e)
  generalize upd G3 A2.m (.ins CM A2.dm (mmF w3 A2.s)) = G4 at *
  refine ⟨_, rfl, p, CB, A.dx, _, _, rfl, (by rw [upd_ne npq]; exact hp), T.cB, T.n_line_at, bF_la, _, rfl, q, CB, A2.dx, _, rfl, upd_same, T.cB, T.n_line_at, (by show 13 < 1000; decide), ?_⟩
  rw [bP_lat, upd_upd]
  have nrq : r2 ≠ q := qr.symm
  have nsq : A2.s ≠ q := ne_of B.hs hq (by intro z; cases z)
  have nlq : A2.l ≠ q := ne_of B.hl hq (by intro z; cases z)
  have sm0 : ∀ o', Same H0 (upd G4 q o') := fun o' b o e => by
    obtain ⟨z1, z2, z3⟩ := keep b o e
    rw [upd_ne z1]
    exact all4 b o z2 z3
  refine k _ ⟨{ dx := A2.dx, r := r2, m := A2.m, dm := A2.dm, w := w3, s := A2.s, t := t2, l := A2.l }, ts, ls2, {
    sm := sm0 _
    fp := B.fp
    fr := B.sm.free nr2
    fw := (B.sm.trans s12).free nw3
    ft := (B.sm.trans s1).free nt2
    fm := B.fm
    fs := B.fs
    fl := B.fl
    hp := ⟨sv, tv2, dv2, upd_same, hz.mono fun t xs e => sm0 _ _ _ e⟩
    hr := by rw [upd_ne nrq]; exact hr2
    hm := by rw [upd_ne nmq]; exact hm4
    hw := by rw [upd_ne qw.symm]; exact hw3
    hs := by rw [upd_ne nsq]; exact hs4
    ht := by rw [upd_ne qt.symm]; exact ht2
    hl := by rw [upd_ne nlq]; exact hl4
    pm := B.pm
    rs := (ne_of_none B.hs nr2).symm
    wt := ntw.symm
    wl := (ne_of_none (s12 _ _ B.hl) nw3).symm
    tl := (ne_of_none (s1 _ _ B.hl) nt2).symm
    us := C.us.mono fun t xs e => sm0 _ _ _ e
    ll := by
      rw [← el]
      refine B.ll.mono fun t xs e => ?_
      rw [upd_ne (ne_of e hq (by intro z; cases z))]
      exact all4 _ _ (ne_of e B.hm (by intro z; cases z)) e
    lm := C.lm }⟩
abbrev sMtwin : Stmt := inClass (topS 64) 1
def scMtwinN : List Str := ["self", "other"]
theorem scMtwin : FnScope scMtwinN ["self"] (defScope sMtwin) := ⟨rfl, rfl, rfl, by decide +kernel, rfl, by decide +kernel, by decide +kernel⟩
theorem ok_Mtwin {f : Addr} {fd : FuncData} {fC_board : Addr} {dC_board : FuncData} {fM_bstd : Addr} {dM_bstd : FuncData} (F : Fun K "twin" "Board.twin" sMtwin f fd) (T : Tx K mg CB CM)
    (C_board : CalC P w K mg base CB 6 "Board" ["self", "image", "line"] (spBI CB CM) fC_board dC_board)
    (M_bstd : CalM P w K mg base CB 2 "stand_as" ["self", "other"] (spBStd CB CM) fM_bstd dM_bstd) : FnOk P w K mg base CX0 8 f fd ["self"] (spTwin CB CM) := by
  refine F.ok scMtwin (fun vs H Q E h => by obtain ⟨_, _, _, _, _, rfl, _⟩ := h; rfl) (fun cdv A outer s H vs Q E hr h => ?_)
  have hu := hu_of hr
  obtain ⟨p, A, ts, ls, x, rfl, C, hri, k⟩ := h
  refine ⟨_, (pss_cons (ps_set (i := 1) scMtwin.nd rfl (.inl rfl) (pe_make C_board.M C_board.I (hr.mono (by decide)) rfl C_board.g C_board.b .nil pass0 (pa_cons (pe_lst pa_nil) (pa_cons (pe_fld (pv 0) rfl) pa_nil))))
    (pss_cons (ps_expr (pe_meth (pv 1) M_bstd.c M_bstd.m M_bstd.G (hr.mono (by decide)) M_bstd.b .nil pass0 (pa_cons (pv 0) pa_nil)))
    (pss_one (ps_ret (pv 1))))), ?_⟩
  refine ⟨Nat.zero_le _, fun l1 n1 => ?_⟩
  have s1 := same_upd' (o := .lst []) n1
  have h1 : upd H l1 (.lst []) l1 = some (.lst (([] : List Int).map V.int)) := upd_same
  generalize upd H l1 (.lst []) = G1 at *
  have C1 := C.same s1
  obtain ⟨sv, tv, dv, hp, hz⟩ := C1.hp
  refine ⟨_, rfl, p, CB, A.dx, _, _, rfl, hp, T.cB, T.n_line, bF_line, ?_⟩
  intro p1 dx1 nb1 ndx1 hdx1
  have s2 : Same G1 (upd (upd G1 dx1 (.own p1)) p1 (.ins CB dx1 [])) := fun z o ez => by
    rw [upd_ne (ne_of_none ez nb1), upd_ne (ne_of_none ez ndx1)]
    exact ez
  refine ⟨G1, p1, dx1, l1, A.l, ls, [], x.line, rfl, s2, nb1, upd_same, s2 _ _ h1, by decide, (fun z hz => by cases hz), s2 _ _ C1.hl, C1.ll.mono (fun t xs e => s2 _ _ e), hri, fun G2 R => ⟨rfl, ?_⟩⟩
  obtain ⟨A2, ts2, ls2, B2⟩ := R
  obtain ⟨sv2, tv2, dv2, hp2, hz2⟩ := B2.hp
  refine ⟨_, rfl, p1, A2.dx, _, rfl, hp2, bN_stand, _, rfl, G1, p, p1, A, A2, ts, ls, ts2, ls2, x, _, rfl, B2, C1, rfl, fun G3 R3 => ?_⟩
  obtain ⟨A3, ts3, ls3, B3⟩ := R3
  exact ⟨_, rfl, k _ _ ⟨A3, ts3, ls3, B3.weak s1⟩⟩
abbrev sLown : Stmt := topS 81
def scLownN : List Str := ["_law_stand", "_law_other"]
theorem scLown : FnScope scLownN ["_law_stand"] (defScope sLown) := ⟨rfl, rfl, rfl, by decide +kernel, rfl, by decide +kernel, by decide +kernel⟩
theorem ok_Lown {f : Addr} {fd : FuncData} (F : Fun K "_law_own_twin" "_law_own_twin" sLown f fd) (T : Tx K mg CB CM)
    (z_dict : mg "dict" = none) : FnOk P w K mg base CX0 1 f fd ["_law_stand"] (spOwn) := by
  refine F.ok scLown (fun vs H Q E h => by obtain ⟨_, _, _, _, _, _, rfl, _⟩ := h; rfl) (fun cdv A outer s H vs Q E hr h => ?_)
  have hu := hu_of hr
  have z_list := T.z_list
  obtain ⟨d, m, t, ln, us, x, rfl, L, q⟩ := h
  refine ⟨_, (pss_cons (ps_set (i := 1) scLown.nd rfl (.inl rfl) (pe_callTy call_dictD (by rfl) z_dict (by decide +kernel) (pa_cons (pv 0) pa_nil)))
    (pss_cons (ps_dput hu (pv 1) pe_str (pe_callTy call_list_of (by rfl) z_list (by decide +kernel) (pa_cons (pe_dget hu (pv 0) pe_str (fun _ _ => rfl)) pa_nil)) rfl)
    (pss_cons (ps_dput hu (pv 1) pe_str (pe_callTy call_list_of (by rfl) z_list (by decide +kernel) (pa_cons (pe_dget hu (pv 0) pe_str (fun _ _ => rfl)) pa_nil)) rfl)
    (pss_one (ps_ret (pv 1)))))), ?_⟩
  obtain ⟨sv, hd, hz⟩ := L.hd
  refine ⟨_, rfl, d, _, rfl, .inl hd, fun d2 n2 => ?_⟩
  have s1 := same_upd' (o := .dK (stD m t ln x sv)) n2
  have hd2 : upd H d2 (.dK (stD m t ln x sv)) d2 = some (.dK (stD m t ln x sv)) := upd_same
  generalize upd H d2 (.dK (stD m t ln x sv)) = G1 at *
  refine ⟨_, rfl, d, _, rfl, dg (k := Sum.inr "m") (s1 _ _ hd) lG_m, m, _, rfl, .inl (SqL.of (s1 _ _ L.hm)), fun m2 nm2 => ?_⟩
  have s2 := same_upd' (o := .lst (x.mem.map V.int)) nm2
  have hm2 : upd G1 m2 (.lst (x.mem.map V.int)) m2 = some (.lst (x.mem.map V.int)) := upd_same
  have nn : m2 ≠ d2 := (ne_of_none hd2 nm2).symm
  have hd2 := s2 _ _ hd2
  generalize upd G1 m2 (.lst (x.mem.map V.int)) = G2 at *
  refine ⟨_, rfl, d2, _, rfl, dpS (k := Sum.inr "m") hd2 (show putK (stD m t ln x sv) (Sum.inr "m") (.ref m2) = stD m2 t ln x sv by kernel_rfl), ?_⟩
  have k3 : ∀ b o, b ≠ d2 → G2 b = some o → upd G2 d2 (.dK (stD m2 t ln x sv)) b = some o := fun b o n e => by rw [upd_ne n]; exact e
  have hd3 : upd G2 d2 (.dK (stD m2 t ln x sv)) d2 = some (.dK (stD m2 t ln x sv)) := upd_same
  have ho : ∀ b o, H b = some o → upd G2 d2 (.dK (stD m2 t ln x sv)) b = some o := fun b o e => k3 b o (ne_of_none e n2) (s2 _ _ (s1 _ _ e))
  have hm3 := k3 _ _ nn hm2
  generalize upd G2 d2 (.dK (stD m2 t ln x sv)) = G3 at *
  refine ⟨_, rfl, d, _, rfl, dg (k := Sum.inr "sent") (ho _ _ hd) lG_sent, t, _, rfl, .inl (SqL.of (ho _ _ L.ht)), fun t2 nt2 => ?_⟩
  have s4 := same_upd' (o := .lst us) nt2
  have ht4 : upd G3 t2 (.lst us) t2 = some (.lst us) := upd_same
  have nt3 : t2 ≠ d2 := (ne_of_none hd3 nt2).symm
  have nmt : m2 ≠ t2 := ne_of_none hm3 nt2
  have hd4 := s4 _ _ hd3
  have hm4 := s4 _ _ hm3
  have ft2 : H t2 = none := by
    cases e : H t2 with
    | none => rfl
    | some o => rw [ho _ _ e] at nt2; cases nt2
  have ho4 : ∀ b o, H b = some o → upd G3 t2 (.lst us) b = some o := fun b o e => s4 _ _ (ho _ _ e)
  generalize upd G3 t2 (.lst us) = G4 at *
  refine ⟨_, rfl, d2, _, rfl, dpS (k := Sum.inr "sent") hd4 (show putK (stD m2 t ln x sv) (Sum.inr "sent") (.ref t2) = stD m2 t2 ln x sv by kernel_rfl), ?_⟩
  have hod : ∀ b o, H b = some o → upd G4 d2 (.dK (stD m2 t2 ln x sv)) b = some o := fun b o e => by rw [upd_ne (ne_of_none e n2)]; exact ho4 _ _ e
  refine ⟨_, rfl, q _ d2 m2 t2 hod n2 (s1.free nm2) ft2 {
    hd := ⟨sv, upd_same, hz.mono fun t xs e => hod _ _ e⟩
    hm := by rw [upd_ne nn]; exact hm4
    ht := by rw [upd_ne nt3]; exact ht4
    hl := hod _ _ L.hl
    us := L.us.mono fun t xs e => hod _ _ e
    lm := L.lm
    mt := nmt
    dl := (ne_of_none L.hl n2).symm }⟩
abbrev sLlike : Stmt := topS 77
def scLlikeN : List Str := ["_law_board", "_law_stand", "_law_low", "_law_high", "_law_found", "_law_address"]
theorem scLlike : FnScope scLlikeN ["_law_board", "_law_stand", "_law_low", "_law_high"] (defScope sLlike) := ⟨rfl, rfl, rfl, by decide +kernel, rfl, by decide +kernel, by decide +kernel⟩
theorem ok_Llike {f : Addr} {fd : FuncData} {fM_at : Addr} {dM_at : FuncData} (F : Fun K "_law_like_words" "_law_like_words" sLlike f fd) (T : Tx K mg CB CM)
    (M_at : CalM P w K mg base CM 1 "word_at" ["self", "address"] (spMAt CM) fM_at dM_at) : FnOk P w K mg base CX0 2 f fd ["_law_board", "_law_stand", "_law_low", "_law_high"] (spLike5 CB CM) := by
  refine F.ok scLlike (fun vs H Q E h => by obtain ⟨_, _, _, _, _, _, _, _, _, _, rfl, _⟩ := h; rfl) (fun cdv A outer s H vs Q E hr h => ?_)
  have hu := hu_of hr
  have z_range := T.z_range
  obtain ⟨p, d, m, t, ln, A, ts, ls, us, x, rfl, C, L, q⟩ := h
  have hu64 := hr.units
  refine ⟨_, (pss_cons (ps_setLc (i := 4) (own := [("_law_address", 5)]) (g := gName 5) (tt := tYes) (by rfl) scLlike.nd rfl rfl rfl (pi_range2 (by rfl) z_range (pa_cons (pv 2) (pa_cons (pv 3) pa_nil))) (blkOk_by (own := [("_law_address", 5)]) (N := scLlikeN) (sc := defScope sLlike) (by decide +kernel)) (fun _ _ _ _ _ => (pg_name (i := 5) scLlike.nd rfl (.inl rfl))) (fun _ _ _ _ _ => pts_nil) (fun _ _ _ _ _ => (pe_meth (pe_fldK (K := K) (by rfl) (pv 0) (by rfl)) M_at.c M_at.m M_at.G (hr.mono (by decide)) M_at.b .nil pass0 (pa_cons (pv 5) pa_nil))))
    (pss_one (ps_ret (pe_cmpR (op_eqD hu64) (pv 4) (pe_slice sl_list (pe_dget hu (pv 1) pe_str (fun _ _ => rfl)) (po_some (pv 2)) (po_some (pv 3))) (nomark _))))), ?_⟩
  refine ⟨_, rfl, _, rfl, 500, 774, rfl, ⟨by decide, by decide, by decide, by decide⟩, fun D nD => ?_⟩
  refine lc_range (lo := 500) (n := ((774 : Int) - 500).toNat) (fun i H' => Same H H' ∧ H' D = some (.lst (((List.range i).map fun k : Nat => rd x.mem (500 + (k : Int))).map V.int))) ⟨same_upd' nD, upd_same⟩ ?_ ?_
  · rintro i H' hi ⟨sm, hD⟩
    have hi : i < 274 := hi
    have Bj := C.same sm
    obtain ⟨sv1, tv1, dv1, hp1, hz1⟩ := Bj.hp
    refine ⟨rfl, ?_⟩
    refine ⟨_, rfl, p, CB, A.dx, _, _, rfl, hp1, T.cB, T.n_memory, bF_mem, A.m, A.dm, _, rfl, Bj.hm, mN_at, _, rfl, A.m, A.dm, A.w, A.s, x.mem, 500 + (i : Int), rfl, Bj.bp.mem, by omega, by omega, ?_⟩
    refine ⟨_, hD, ?_, same_of sm nD, ?_⟩
    · rw [List.length_map, List.length_map, List.length_range]
      exact small1000 (by omega)
    · rw [upd_same, List.range_succ, List.map_append, List.map_append]
      rfl
  rintro G1 ⟨s1, hD⟩
  have e1 : (List.range ((774 : Int) - 500).toNat).map (fun k : Nat => rd x.mem (500 + (k : Int))) = x.mem.drop 500 := map_rd5 x.mem L.lm
  rw [e1] at hD
  have L1 := L.same s1
  obtain ⟨svL, hdL, hzL⟩ := L1.hd
  refine ⟨_, rfl, _, rfl, d, _, rfl, dg (k := Sum.inr "m") hdL lG_m, _, rfl, _, rfl, _, rfl, _, rfl, m, _, rfl, SqL.of L1.hm, fun l2 n2 => ?_⟩
  rw [cut_tail5 _ L.lm]
  have hD := same_upd' (o := .lst ((x.mem.drop 500).map V.int)) n2 _ _ hD
  refine ⟨_, _, .lst (SqL.of hD) (dp_ints _), .lst (SqL.of upd_same) (dp_ints _), shaped_ints _, shaped_ints _, ?_⟩
  rw [SeqAt.eqv_refl (.list ((x.mem.drop 500).map PyData.int)) (show PyData.canLay0 (.list ((x.mem.drop 500).map PyData.int)) = true from can_ints _)]
  exact q _ (s1.trans (same_upd' n2))
end
end Bh

/-! Boards and the law's own, each pair apart from all others. -/
namespace Bh
open PySem PySem.Spec PyProof.Rows L2
theorem go_line : ∀ (n : Nat) (x : Bd), (passM n x).line = x.line
  | 0, _ => rfl
  | n + 1, x => by
    have h := go_line n (passOneM x)
    have e : (passOneM x).line = x.line := by
      unfold passOneM comeM
      split <;> rfl
    exact h.trans e
theorem put_line (a v : Int) (x : Bd) : (putWM a v x).line = x.line := by
  unfold putWM sendM
  split <;> rfl
theorem do_line {op : Nat} {n : Int} {ws : List Int} {x : Bd} (o : op < 23) : (doM op n ws x).line = x.line := by
  match op, o with

  | 0, _ => rfl
  | 1, _ => rfl
  | 2, _ => rfl
  | 3, _ => exact put_line _ _ _
  | 4, _ => rfl
  | 5, _ => rfl
  | 6, _ => rfl
  | 7, _ => rfl
  | 8, _ => rfl
  | 9, _ => exact put_line _ _ _
  | 10, _ => rfl
  | 11, _ => rfl
  | 12, _ => rfl
  | 13, _ => 
    show (if x.zero = true then { x with pc := n } else x).line = _
    split <;> rfl
  | 14, _ => 
    show (if 32768 ≤ x.a then { x with pc := n } else x).line = _
    split <;> rfl
  | 15, _ => exact put_line _ _ _
  | 16, _ => rfl
  | 17, _ => exact put_line _ _ _
  | 18, _ => rfl
  | 19, _ => rfl
  | 20, _ => rfl
  | 21, _ => rfl
  | 22, _ => rfl
  | n + 23, z => exact absurd z (by omega)
theorem turn_line (x : Bd) : (turnM x).2.line = x.line := by
  have dd : ∀ y : Bd, (deedM y).2.line = y.line := fun y => by
    unfold deedM
    split
    · rfl
    · split
      · rfl
      · split
        · rfl
        · split
          · rfl
          · have h1 := go_line (1 + (toM y).length) (doM (opM y) (xM y) (readsM y.mem (toM y)) { y with pc := y.pc + 1 })
            have h2 := do_line (op := opM y) (n := xM y) (ws := readsM y.mem (toM y)) (x := { y with pc := y.pc + 1 }) (by omega)
            exact h1.trans h2
  unfold turnM
  split
  · rfl
  · split
    · exact go_line 1 x
    · split
      · unfold intM
        split
        · rfl
        · have h3 := go_line 3 ({ putWM (x.sp - 1) (b2n x.zero) (putWM x.sp x.pc { x with asleep := false }) with sp := x.sp - 2, lets := false, pc := if Builtin.bitAnd (calledM { x with asleep := false }) 1 ≠ 0 then 1 else 2 } : Bd)
          have h1 := put_line (x.sp - 1) (b2n x.zero) (putWM x.sp x.pc { x with asleep := false })
          have h2 := put_line x.sp x.pc { x with asleep := false }
          exact h3.trans (h1.trans h2)
      · exact dd _
theorem new_ok {ns : List Int} {ls : List (Int × Int)} (hl : ns.length ≤ 512) (hw : WordsOk ns) (hr : riseM 0 ls) : Ok (newBd ns ls) where
  lm := by
    show (memOf ns).length = 774
    unfold memOf
    rw [List.length_append, List.length_append, List.length_replicate, List.length_replicate]
    omega
  w := memOf_ok hw
  a := (show W16 0 from ⟨by decide, by decide⟩)
  b := (show W16 0 from ⟨by decide, by decide⟩)
  pc := (show W16 0 from ⟨by decide, by decide⟩)
  ln := ln_new hr
/-- how a board stands in a run -/
structure Rn (n : Nat) (x : Bd) : Prop where
  ok : Ok x
  st : StOk x.stop
  se : x.sent.length ≤ 2 * n
  ri : riseM 0 x.line
theorem Rn.turn {n : Nat} {x : Bd} (h : Rn n x) : Rn (n + 1) (turnM x).2 := ⟨h.ok.turn, turn_stok h.st, by have := turn_sent x; have := h.se; omega, by rw [turn_line]; exact h.ri⟩
theorem Rn.more {n : Nat} {x : Bd} (h : Rn n x) : Rn (n + 1) x := ⟨h.ok, h.st, by have := h.se; omega, h.ri⟩
theorem Rn.new {ns : List Int} {ls : List (Int × Int)} (hl : ns.length ≤ 512) (hw : WordsOk ns) (hr : riseM 0 ls) : Rn 0 (newBd ns ls) := ⟨new_ok hl hw hr, (fun r e => by cases e), Nat.zero_le _, hr⟩
structure PairD (CB CM : Addr) (H : Hp) (F : Addr → Prop) (p d m t ln : Addr) (A : Ad) (ts ls us : List V) (x : Bd) : Prop where
  C : Bc CB CM H p A ts ls x
  L : Lw H d m t ln us x
  F : ∀ a, F a ↔ (FtB p A a ∨ a = d ∨ a = m ∨ a = t)
  D : ∀ a, FtB p A a → a ≠ d ∧ a ≠ m ∧ a ≠ t
def Pair (CB CM ln : Addr) (H : Hp) (F : Addr → Prop) (p d : Addr) (x : Bd) : Prop := ∃ m t A ts ls us, PairD CB CM H F p d m t ln A ts ls us x
section
variable {CB CM ln p d m t : Addr} {O H H' : Hp} {F : Addr → Prop} {A : Ad} {ts ls us : List V} {x : Bd}
theorem Pair.is (h : Pair CB CM ln H F p d x) {b : Addr} (hb : F b) : ∃ o, H b = some o ∧ ∀ xs, o ≠ .tup xs := by
  obtain ⟨m, t, A, ts, ls, us, P⟩ := h
  obtain ⟨sv, hd, _⟩ := P.L.hd
  rcases (P.F b).mp hb with z | z | z | z
  · exact P.C.is z
  · exact ⟨_, by rw [z]; exact hd, fun xs q => by cases q⟩
  · exact ⟨_, by rw [z]; exact P.L.hm, fun xs q => by cases q⟩
  · exact ⟨_, by rw [z]; exact P.L.ht, fun xs q => by cases q⟩
theorem Lw.move (L : Lw H d m t ln us x) (k : ∀ b o, (b = d ∨ b = m ∨ b = t) → H b = some o → H' b = some o) (tk : ∀ t xs, H t = some (.tup xs) → H' t = some (.tup xs)) (kl : ∀ kv, H ln = some (.dK kv) → H' ln = some (.dK kv)) : Lw H' d m t ln us x where
  hd := let ⟨sv, e, z⟩ := L.hd; ⟨sv, k _ _ (.inl rfl) e, z.mono tk⟩
  hm := k _ _ (.inr (.inl rfl)) L.hm
  ht := k _ _ (.inr (.inr rfl)) L.ht
  hl := kl _ L.hl
  us := L.us.mono tk
  lm := L.lm
  mt := L.mt
  dl := L.dl
theorem Pair.move (h : Pair CB CM ln H F p d x) (k : ∀ b o, F b → H b = some o → H' b = some o) (tk : ∀ t xs, H t = some (.tup xs) → H' t = some (.tup xs)) (kl : ∀ kv, H ln = some (.dK kv) → H' ln = some (.dK kv)) : Pair CB CM ln H' F p d x := by
  obtain ⟨m, t, A, ts, ls, us, P⟩ := h
  exact ⟨m, t, A, ts, ls, us, ⟨P.C.move (fun b o z => k b o ((P.F b).mpr (.inl z))) tk, P.L.move (fun b o z => k b o ((P.F b).mpr (.inr z))) tk kl, P.F, P.D⟩⟩
/-- all boards with the law's own, and what else stands fast -/
structure Pool (CB CM ln : Addr) (O H : Hp) (n : Nat) (p d : Nat → Addr) (X : Nat → Bd) (F : Nat → Addr → Prop) : Prop where
  k : ∀ i, i < n → Pair CB CM ln H (F i) (p i) (d i) (X i)
  a : ∀ i j, i < n → j < n → i ≠ j → ∀ b, F i b → ¬ F j b
  o : ∀ b v, O b = some v → H b = some v
  f : ∀ i b v, i < n → O b = some v → ¬ F i b
  l : ∃ kv, O ln = some (.dK kv)
def put1 {α : Type} (f : Nat → α) (i : Nat) (v : α) : Nat → α := fun j => if j = i then v else f j
theorem put_at {α : Type} (f : Nat → α) (i : Nat) (v : α) : put1 f i v i = v := if_pos rfl
theorem put_ne {α : Type} (f : Nat → α) {i j : Nat} (v : α) (h : j ≠ i) : put1 f i v j = f j := if_neg h
variable {n : Nat} {pf df : Nat → Addr} {X : Nat → Bd} {Ff : Nat → Addr → Prop}
theorem Pool.same (W : Pool CB CM ln O H n pf df X Ff) (s : Same H H') : Pool CB CM ln O H' n pf df X Ff where
  k := fun i hi => (W.k i hi).move (fun b o _ e => s b o e) (fun t xs e => s _ _ e) (fun kv e => s _ _ e)
  a := W.a
  o := fun b v e => s _ _ (W.o b v e)
  f := W.f
  l := W.l
/-- a cell that stands fast is written -/
theorem Pool.wr (W : Pool CB CM ln O H n pf df X Ff) {b : Addr} {v v' : HO} (e : O b = some v) (nt : ∀ xs, v ≠ .tup xs) (nl : b ≠ ln) : Pool CB CM ln (upd O b v') (upd H b v') n pf df X Ff where
  k := fun i hi => (W.k i hi).move (fun c o z ez => by rw [upd_ne (fun q : c = b => by rw [q] at z; exact W.f i b v hi e z)]; exact ez) (fun t xs z => by
    have q := W.o _ _ e
    rw [upd_ne (fun y => by rw [y, q] at z; exact nt xs (Option.some.inj z))]
    exact z) (fun kv z => by rw [upd_ne nl.symm]; exact z)
  a := W.a
  o := fun c u ez => by
    by_cases h : c = b
    · subst h
      rw [upd_same] at ez
      rw [upd_same]
      exact ez
    · rw [upd_ne h] at ez
      rw [upd_ne h]
      exact W.o c u ez
  f := fun i c u hi ez => by
    by_cases h : c = b
    · subst h
      exact W.f i c v hi e
    · rw [upd_ne h] at ez
      exact W.f i c u hi ez
  l := by
    obtain ⟨kv, ek⟩ := W.l
    exact ⟨kv, by rw [upd_ne nl.symm]; exact ek⟩
/-- one pair goes on -/
theorem Pool.step (W : Pool CB CM ln O H n pf df X Ff) {i : Nat} (hi : i < n) {F' : Addr → Prop} {x' : Bd} (kp : ∀ b v, ¬ Ff i b → H b = some v → H' b = some v) (fr : ∀ b, F' b → Ff i b ∨ H b = none) (P : Pair CB CM ln H' F' (pf i) (df i) x') :
    Pool CB CM ln O H' n pf df (put1 X i x') (put1 Ff i F') where
  k := fun j hj => by
    by_cases h : j = i
    · subst h
      rw [put_at, put_at]
      exact P
    · rw [put_ne _ _ h, put_ne _ _ h]
      refine (W.k j hj).move (fun b o z e => kp b o (W.a j i hj hi h b z) e) (fun t xs e => kp _ _ (fun z => ?_) e) (fun kv e => kp _ _ (fun z => ?_) e)
      · obtain ⟨o, eo, nt⟩ := (W.k i hi).is z
        rw [e] at eo
        exact nt xs (Option.some.inj eo).symm
      · obtain ⟨kv', ek⟩ := W.l
        exact W.f i ln _ hi ek z
  a := fun j l hj hl nn b => by
    have key : ∀ j, j < n → j ≠ i → ∀ b, F' b → Ff j b → False := fun j hj h b f' z => by
      rcases fr b f' with y | y
      · exact W.a i j hi hj (fun q => h q.symm) b y z
      · obtain ⟨o, eo, _⟩ := (W.k j hj).is z
        rw [y] at eo
        cases eo
    by_cases h : j = i
    · by_cases h2 : l = i
      · exact absurd (h.trans h2.symm) nn
      · subst h
        rw [put_at, put_ne _ _ h2]
        exact fun f' z => key l hl h2 b f' z
    · by_cases h2 : l = i
      · subst h2
        rw [put_at, put_ne _ _ h]
        exact fun z f' => key j hj h b f' z
      · rw [put_ne _ _ h, put_ne _ _ h2]
        exact W.a j l hj hl nn b
  o := fun b v e => kp b v (W.f i b v hi e) (W.o b v e)
  f := fun j b v hj e => by
    by_cases h : j = i
    · subst h
      rw [put_at]
      intro f'
      rcases fr b f' with y | y
      · exact W.f j b v hi e y
      · rw [W.o b v e] at y
        cases y
    · rw [put_ne _ _ h]
      exact W.f j b v hj e
  l := W.l
/-- one pair more -/
theorem Pool.add (W : Pool CB CM ln O H n pf df X Ff) (s : Same H H') {F' : Addr → Prop} {p' d' : Addr} {x' : Bd} (fr : ∀ b, F' b → H b = none) (P : Pair CB CM ln H' F' p' d' x') :
    Pool CB CM ln O H' (n + 1) (put1 pf n p') (put1 df n d') (put1 X n x') (put1 Ff n F') where
  k := fun j hj => by
    by_cases h : j = n
    · subst h
      rw [put_at, put_at, put_at, put_at]
      exact P
    · rw [put_ne _ _ h, put_ne _ _ h, put_ne _ _ h, put_ne _ _ h]
      exact (W.same s).k j (by omega)
  a := fun j l hj hl ne b => by
    have key : ∀ j, j < n → ∀ b, F' b → Ff j b → False := fun j hj b f' z => by
      obtain ⟨o, eo, _⟩ := (W.k j hj).is z
      rw [fr b f'] at eo
      cases eo
    by_cases h : j = n
    · by_cases h2 : l = n
      · exact absurd (h.trans h2.symm) ne
      · subst h
        rw [put_at, put_ne _ _ h2]
        exact fun f' z => key l (by omega) b f' z
    · by_cases h2 : l = n
      · subst h2
        rw [put_at, put_ne _ _ h]
        exact fun z f' => key j (by omega) b f' z
      · rw [put_ne _ _ h, put_ne _ _ h2]
        exact W.a j l (by omega) (by omega) ne b
  o := fun b v e => s _ _ (W.o b v e)
  f := fun j b v hj e => by
    by_cases h : j = n
    · subst h
      rw [put_at]
      intro f'
      have z := fr b f'
      rw [W.o b v e] at z
      cases z
    · rw [put_ne _ _ h]
      exact W.f j b v (by omega) e
  l := W.l
/-- both of a pair have gone on -/
theorem Pair.turned (W : PairD CB CM H F p d m t ln A ts ls us x) (nl : ¬ FtB p A ln) {H1 H2 : Hp} {A1 : Ad} {ts1 ls1 us1 : List V} {x1 : Bd} (B : Bp CB CM (baseOf H p A) H1 p A1 ts1 ls1 x1) (f : Fr d m t H1 H2) (L : Lw H2 d m t ln us1 x1) :
    (∀ b v, ¬ F b → H b = some v → H2 b = some v) ∧ (∀ b, (FtB p A1 b ∨ b = d ∨ b = m ∨ b = t) → F b ∨ H b = none) ∧ Pair CB CM ln H2 (fun b => FtB p A1 b ∨ b = d ∨ b = m ∨ b = t) p d x1 := by
  have ba : ∀ b, ¬ FtB p A b → baseOf H p A b = H b := fun b h => if_neg h
  have bn : ∀ b, FtB p A b → baseOf H p A b = none := fun b h => if_pos h
  obtain ⟨sv, hd, _⟩ := W.L.hd
  have nd : ¬ FtB p A d := fun z => (W.D d z).1 rfl
  have nm : ¬ FtB p A m := fun z => (W.D m z).2.1 rfl
  have nt : ¬ FtB p A t := fun z => (W.D t z).2.2 rfl
  have D1 : ∀ a, FtB p A1 a → a ≠ d ∧ a ≠ m ∧ a ≠ t := fun a z => by
    have y := B.foot z
    refine ⟨fun q => ?_, fun q => ?_, fun q => ?_⟩
    · rw [q, ba _ nd, hd] at y; cases y
    · rw [q, ba _ nm, W.L.hm] at y; cases y
    · rw [q, ba _ nt, W.L.ht] at y; cases y
  have h1 : ∀ b v, ¬ FtB p A b → H b = some v → H1 b = some v := fun b v n e => B.sm _ _ ((ba b n).trans e)
  have hd1 := h1 _ _ nd hd
  have hm1 := h1 _ _ nm W.L.hm
  have ht1 := h1 _ _ nt W.L.ht
  refine ⟨fun b v n e => ?_, fun b h => ?_, m, t, A1, ts1, ls1, us1, ?_, L, fun _ => Iff.rfl, D1⟩
  · have n' := fun z => n ((W.F b).mpr z)
    exact f b v (fun q => n' (.inr (.inl q))) (fun q => n' (.inr (.inr (.inl q)))) (fun q => n' (.inr (.inr (.inr q)))) (h1 _ _ (fun z => n' (.inl z)) e)
  · rcases h with z | z
    · by_cases y : FtB p A b
      · exact .inl ((W.F b).mpr (.inl y))
      · exact .inr ((ba b y).symm.trans (B.foot z))
    · exact .inl ((W.F b).mpr (.inr z))
  · refine B.bc.move (fun b o z e => ?_) (fun u xs e => ?_)
    · obtain ⟨a1, a2, a3⟩ := D1 b z
      exact f b o a1 a2 a3 e
    · exact f u _ (ne_of e hd1 (by intro q; cases q)) (ne_of e hm1 (by intro q; cases q)) (ne_of e ht1 (by intro q; cases q)) e
theorem Pair.fresh {H0 H1 H2 : Hp} {ts ls : List V} (B : Bp CB CM H0 H1 p A ts ls x) (s : Same H1 H2) (L : Lw H2 d m t ln us x) (fd : H1 d = none) (fm : H1 m = none) (ft : H1 t = none) : (∀ b, (FtB p A b ∨ b = d ∨ b = m ∨ b = t) → H0 b = none) ∧ Pair CB CM ln H2 (fun b => FtB p A b ∨ b = d ∨ b = m ∨ b = t) p d x := by
  refine ⟨fun b h => ?_, m, t, A, ts, ls, us, B.bc.same s, L, fun _ => Iff.rfl, fun a z => ?_⟩
  · rcases h with z | z | z | z
    · exact B.foot z
    · rw [z]; exact B.sm.free fd
    · rw [z]; exact B.sm.free fm
    · rw [z]; exact B.sm.free ft
  · obtain ⟨o, eo, _⟩ := B.bc.is z
    refine ⟨fun q => ?_, fun q => ?_, fun q => ?_⟩
    · rw [q, fd] at eo; cases eo
    · rw [q, fm] at eo; cases eo
    · rw [q, ft] at eo; cases eo
end
def refs (n : Nat) (p : Nat → Addr) : List V := (List.range n).map fun i => V.ref (p i)
theorem refs_len (n : Nat) (p : Nat → Addr) : (refs n p).length = n := by unfold refs; rw [List.length_map, List.length_range]
theorem refs_add (n : Nat) (p : Nat → Addr) (q : Addr) : refs (n + 1) (put1 p n q) = refs n p ++ [.ref q] := by
  unfold refs
  rw [List.range_succ, List.map_append]
  have e : (List.range n).map (fun i => V.ref (put1 p n q i)) = (List.range n).map fun i => V.ref (p i) := List.map_congr_left fun i hi => by
    rw [put_ne _ _ (Nat.ne_of_lt (List.mem_range.mp hi))]
  rw [e]
  show _ ++ [V.ref (put1 p n q n)] = _
  rw [put_at]
theorem refs_at {n i : Nat} (p : Nat → Addr) (h : i < n) : (refs n p)[i]? = some (.ref (p i)) := by
  unfold refs
  rw [List.getElem?_map, List.getElem?_range h]
  rfl
end Bh

/-! Twins: the law. -/
namespace Bh
open PySem PySem.Spec PyProof.Rows L2
section
variable {X : Cx}
/-- list + list, the left one only read -/
def rCatL (K : PySem.W.Frag) : R2 := fun x y H Q => ∃ l b xs zs, x = .ref l ∧ y = .ref b ∧ SqL K H l xs ∧ H b = some (.lst zs) ∧ xs.length + zs.length ≤ sizeLine ∧ ∀ p, H p = none → Q (.ref p) (upd H p (.lst (xs ++ zs)))
theorem op_catL : OpR X (binaryOp .Add) (rCatL X.K) := by
  intro pins s σ H x y v u Q I rx ry h
  obtain ⟨l, b, xs, zs, rfl, rfl, hH, hB, hz, q⟩ := h
  cases rx
  cases ry
  obtain ⟨its, r, ⟨⟨cls, dd, data, sl⟩, n, e, hc, hd, hda⟩, hl⟩ := I.list hH
  obtain ⟨z2, its2, n2, r2, hl2, e2⟩ := I.lstM hB
  simp only at hc hd hda
  subst hc hd hda
  have h1 := r.length
  refine concat_meets ⟨_, e, rfl⟩ ⟨_, e2, rfl⟩ noFill_list_add seq_list_add PySem.F.slot_list_add PySem.F.entry_list_add (PySem.F.args_list_add_2 _ _) (list_addW l b its.toArray its2.toArray n n2 none none sl #[] (by rw [List.size_toArray, List.size_toArray]; omega)) ⟨e, e2, ?_⟩
  have ea : its.toArray ++ its2.toArray = (its ++ its2).toArray := by simp
  rw [ea]
  exact ⟨.ref _, _, I.lnew (t' := s.toks) (r.append r2) (by rw [List.length_append]; omega), rfl, q _ I.fresh⟩
end
/-- how it stands when a turn begins -/
def Sit (CB CM ln c r lb ls : Addr) (ms ds : List Int) (i : Nat) (H : Hp) : Prop := ∃ O n pf df X Ff, Pool CB CM ln O H n pf df X Ff ∧ (∀ j, j < n → Rn i (X j)) ∧ 1 ≤ n ∧ n ≤ 3 ∧
  O c = some (.lst (ms.map V.int)) ∧ O r = some (.lst (ds.map V.int)) ∧ O lb = some (.lst (refs n pf)) ∧ O ls = some (.lst (refs n df)) ∧ lb ≠ ls ∧ c ≠ lb ∧ c ≠ ls ∧ r ≠ lb ∧ r ≠ ls
theorem Sit.same {CB CM ln c r lb ls : Addr} {ms ds : List Int} {i : Nat} {H H' : Hp} (h : Sit CB CM ln c r lb ls ms ds i H) (s : Same H H') : Sit CB CM ln c r lb ls ms ds i H' := by
  obtain ⟨O, n, pf, df, X, Ff, W, h⟩ := h
  exact ⟨O, n, pf, df, X, Ff, W.same s, h⟩
theorem refs_last {n : Nat} (p : Nat → Addr) (h : 1 ≤ n) : atI (refs n p) (-1) = some (.ref (p (n - 1))) := by
  obtain ⟨k, rfl⟩ : ∃ k, n = k + 1 := ⟨n - 1, by omega⟩
  unfold refs
  rw [List.range_succ, List.map_append]
  exact atI_last _ _
theorem refs_put {n : Nat} (p : Nat → Addr) : refs n p = refs n p := rfl
section
variable {P : Program} {w : World} {K : PySem.W.Frag} {mg : Str → Option Value} {base : Heap} {CB CM : Addr}
abbrev sLaw : Stmt := topS 82
def scLlawN : List Str := ["_law_script", "_law_cells", "_law_k", "_law_row", "_law_image", "_law_line", "_law_boards", "_law_stands", "_law_turn", "_law_at", "_law_j"]
theorem scLlaw : FnScope scLlawN ["_law_script"] (defScope sLaw) := ⟨rfl, rfl, rfl, by decide +kernel, rfl, by decide +kernel, by decide +kernel⟩
theorem ok_Llaw {f : Addr} {fd : FuncData} {fC_board : Addr} {dC_board : FuncData} {fL_dig : Addr} {dL_dig : FuncData} {fL_dimg : Addr} {dL_dimg : FuncData} {fL_dlin : Addr} {dL_dlin : FuncData} {fL_like : Addr} {dL_like : FuncData} {fL_new : Addr} {dL_new : FuncData} {fL_once : Addr} {dL_once : FuncData} {fL_own : Addr} {dL_own : FuncData} {fL_same : Addr} {dL_same : FuncData} {fM_turn : Addr} {dM_turn : FuncData} {fM_twin : Addr} {dM_twin : FuncData} (F : Fun K "law" "law" sLaw f fd) (T : Tx K mg CB CM)
    (C_board : CalC P w K mg base CB 6 "Board" ["self", "image", "line"] (spBI CB CM) fC_board dC_board)
    (L_dig : CalF P w K mg base 1 "_law_digits" ["_law_cell_here", "_law_many"] (spDig) fL_dig dL_dig)
    (L_dimg : CalF P w K mg base 2 "_law_drawn_image" ["_law_cell_here"] (spDrawn) fL_dimg dL_dimg)
    (L_dlin : CalF P w K mg base 2 "_law_drawn_line" ["_law_cell_here"] (spLineOf) fL_dlin dL_dlin)
    (L_like : CalF P w K mg base 2 "_law_like_words" ["_law_board", "_law_stand", "_law_low", "_law_high"] (spLike5 CB CM) fL_like dL_like)
    (L_new : CalF P w K mg base 1 "_law_new" ["_law_image", "_law_line"] (spNewL) fL_new dL_new)
    (L_once : CalF P w K mg base 5 "_law_once" ["_law_stand"] (spOnce) fL_once dL_once)
    (L_own : CalF P w K mg base 1 "_law_own_twin" ["_law_stand"] (spOwn) fL_own dL_own)
    (L_same : CalF P w K mg base 1 "_law_same" ["_law_board", "_law_stand"] (spSame CB CM) fL_same dL_same)
    (M_turn : CalM P w K mg base CB 6 "turn" ["self"] (spTurn CB CM) fM_turn dM_turn)
    (M_twin : CalM P w K mg base CB 8 "twin" ["self"] (spTwin CB CM) fM_twin dM_twin) : FnOk P w K mg base CX0 9 f fd ["_law_script"] (spLaw K) := by
  refine F.ok scLlaw (fun vs H Q E h => by obtain ⟨_, _, rfl, _⟩ := h; rfl) (fun cdv A outer s H vs Q E hr h => ?_)
  have hu := hu_of hr
  have z_len := T.z_len
  have z_range := T.z_range
  obtain ⟨a, ns, rfl, hS, hn, q⟩ := h
  have hu64 := hr.units
  refine ⟨_, (pss_cons (ps_set (i := 1) scLlaw.nd rfl (.inl rfl) (pe_slice sl_list (pe_op op_catL (pv 0) (pe_lst (pa_cons pe_int (pa_cons pe_int pa_nil)))) po_none (po_some pe_int)))
    (pss_cons (ps_for PassesOwn.never rfl (pi_range1 (by rfl) z_range (pa_cons (pe_op op_fdiv (pe_callB call_len_seq (by rfl) z_len PySem.boot_len (pa_cons (pv 1) pa_nil)) pe_int) pa_nil)) (pg_name (i := 2) scLlaw.nd rfl (.inl rfl))
      (pss_cons (ps_set (i := 3) scLlaw.nd rfl (.inl rfl) (pe_call L_dig.G (hr.mono (by decide)) (by rfl) L_dig.g L_dig.kp L_dig.b .nil pass0 (pa_cons (pe_ix ix_list (pv 1) (pe_op op_add (pe_op op_mul pe_int (pv 2)) pe_int) (fun _ _ => rfl)) (pa_cons pe_int pa_nil))))
    (pss_cons (ps_par (i := 4) (j := 5) (by rfl) scLlaw.nd rfl rfl (by decide) rfl rfl (pa_cons (pe_call L_dimg.G (hr.mono (by decide)) (by rfl) L_dimg.g L_dimg.kp L_dimg.b .nil pass0 (pa_cons (pe_ix ix_list (pv 1) (pe_op op_mul pe_int (pv 2)) (fun _ _ => rfl)) pa_nil)) (pa_cons (pe_call L_dlin.G (hr.mono (by decide)) (by rfl) L_dlin.g L_dlin.kp L_dlin.b .nil pass0 (pa_cons (pe_ix ix_list (pv 1) (pe_op op_add (pe_op op_mul pe_int (pv 2)) pe_int) (fun _ _ => rfl)) pa_nil)) pa_nil)) (by rfl))
    (pss_cons (ps_par (i := 6) (j := 7) (by rfl) scLlaw.nd rfl rfl (by decide) rfl rfl (pa_cons (pe_lst (pa_cons (pe_make C_board.M C_board.I (hr.mono (by decide)) rfl C_board.g C_board.b .nil pass0 (pa_cons (pv 4) (pa_cons (pv 5) pa_nil))) pa_nil)) (pa_cons (pe_lst (pa_cons (pe_call L_new.G (hr.mono (by decide)) (by rfl) L_new.g L_new.kp L_new.b .nil pass0 (pa_cons (pv 4) (pa_cons (pv 5) pa_nil))) pa_nil)) pa_nil)) (by rfl))
    (pss_cons (ps_for PassesOwn.never rfl (pi_range1 (by rfl) z_range (pa_cons pe_int pa_nil)) (pg_name (i := 8) scLlaw.nd rfl (.inl rfl))
      (pss_cons (ps_if (PW.pt (pw_and (pt_cmpR op_lt (pe_callB call_len_seq (by rfl) z_len PySem.boot_len (pa_cons (pv 6) pa_nil)) pe_int (nomark _)) (pw_and1 (pt_cmpR op_in_seq (pv 8) (pe_lst (pa_cons (pe_op op_mod (pe_ix ix_list (pv 3) pe_int (fun _ _ => rfl)) pe_int) (pa_cons (pe_op op_add pe_int (pe_op op_mod (pe_ix ix_list (pv 3) pe_int (fun _ _ => rfl)) pe_int)) pa_nil))) (by rfl))))) (pss_cons (ps_expr (pe_bm PySem.F.plainAttrs_list PySem.F.slot_list_append PySem.F.type_list_append mt_append (pv 6) (pa_cons (pe_meth0 (pe_ix ix_list (pv 6) (pe_un un_neg pe_int) (fun _ _ => rfl)) M_twin.c M_twin.m M_twin.G (hr.mono (by decide)) M_twin.b .nil pass0) pa_nil)))
    (pss_one (ps_expr (pe_bm PySem.F.plainAttrs_list PySem.F.slot_list_append PySem.F.type_list_append mt_append (pv 7) (pa_cons (pe_call L_own.G (hr.mono (by decide)) (by rfl) L_own.g L_own.kp L_own.b .nil pass0 (pa_cons (pe_ix ix_list (pv 7) (pe_un un_neg pe_int) (fun _ _ => rfl)) pa_nil)) pa_nil))))) pss_nil)
    (pss_cons (ps_set (i := 9) scLlaw.nd rfl (.inl rfl) (pe_op op_mod (pe_op op_fdiv (pe_ix ix_list (pv 3) (pe_op op_mod (pv 8) pe_int) (fun _ _ => rfl)) pe_int) (pe_callB call_len_seq (by rfl) z_len PySem.boot_len (pa_cons (pv 6) pa_nil))))
    (pss_cons (ps_if (pt_cmpR op_ne (pe_meth0 (pe_ix ix_list (pv 6) (pv 9) (fun _ _ => rfl)) M_turn.c M_turn.m M_turn.G (hr.mono (by decide)) M_turn.b .nil pass0) (pe_call L_once.G (hr.mono (by decide)) (by rfl) L_once.g L_once.kp L_once.b .nil pass0 (pa_cons (pe_ix ix_list (pv 7) (pv 9) (fun _ _ => rfl)) pa_nil)) (nomark _)) (pss_one (ps_ret pe_bl)) pss_nil)
    (pss_one (ps_for PassesOwn.never rfl (pi_range1 (by rfl) z_range (pa_cons (pe_callB call_len_seq (by rfl) z_len PySem.boot_len (pa_cons (pv 6) pa_nil)) pa_nil)) (pg_name (i := 10) scLlaw.nd rfl (.inl rfl))
      (pss_one (ps_if (pt_not (pt_val (pe_call L_same.G (hr.mono (by decide)) (by rfl) L_same.g L_same.kp L_same.b .nil pass0 (pa_cons (pe_ix ix_list (pv 6) (pv 10) (fun _ _ => rfl)) (pa_cons (pe_ix ix_list (pv 7) (pv 10) (fun _ _ => rfl)) pa_nil))))) (pss_one (ps_ret pe_bl)) pss_nil))))))))
    (pss_one (ps_for PassesOwn.never rfl (pi_range1 (by rfl) z_range (pa_cons (pe_callB call_len_seq (by rfl) z_len PySem.boot_len (pa_cons (pv 6) pa_nil)) pa_nil)) (pg_name (i := 10) scLlaw.nd rfl (.inl rfl))
      (pss_one (ps_if (pt_not (pt_val (pe_call L_like.G (hr.mono (by decide)) (by rfl) L_like.g L_like.kp L_like.b .nil pass0 (pa_cons (pe_ix ix_list (pv 6) (pv 10) (fun _ _ => rfl)) (pa_cons (pe_ix ix_list (pv 7) (pv 10) (fun _ _ => rfl)) (pa_cons pe_int (pa_cons pe_int pa_nil))))))) (pss_one (ps_ret pe_bl)) pss_nil)))))))))
    (pss_one (ps_ret pe_bl)))), ?_⟩
  refine ⟨_, rfl, (by show 2 ≤ sizeLine; decide), fun l0 n0 => ?_⟩
  have hS0 := (same_upd' (o := .lst [V.int 5, V.int 17]) n0).seq hS
  have h0 : upd H l0 (.lst [V.int 5, V.int 17]) l0 = some (.lst [V.int 5, V.int 17]) := upd_same
  generalize upd H l0 (.lst [V.int 5, V.int 17]) = G0 at *
  refine ⟨a, l0, _, _, rfl, rfl, hS0, h0, (by rw [List.length_map]; exact hsz (by show ns.length + 2 ≤ 100000; omega)), fun l1 n1 => ?_⟩
  have ecat : ns.map V.int ++ [V.int 5, V.int 17] = (ns ++ [5, 17]).map V.int := by rw [List.map_append]; rfl
  rw [ecat]
  have h1 : upd G0 l1 (.lst ((ns ++ [5, 17]).map V.int)) l1 = some (.lst ((ns ++ [5, 17]).map V.int)) := upd_same
  generalize upd G0 l1 (.lst ((ns ++ [5, 17]).map V.int)) = G1 at *
  obtain ⟨ms, ems, hms⟩ := cut_ints (ns ++ [5, 17]) none (some 6)
  refine ⟨_, rfl, l1, _, rfl, SqL.of h1, fun c nc => ?_⟩
  rw [ems]
  have hc : upd G1 c (.lst (ms.map V.int)) c = some (.lst (ms.map V.int)) := upd_same
  generalize upd G1 c (.lst (ms.map V.int)) = G2 at *
  have hml : ms.length ≤ 65 := by rw [List.length_append] at hms; have : ([5, 17] : List Int).length = 2 := rfl; omega
  refine ⟨_, rfl, c, _, rfl, .inl (SqL.of hc), _, _, rfl, rfl, ⟨by decide, by decide⟩, _, rfl, by omega, by rw [List.length_map]; omega, ?_⟩
  rw [List.length_map]
  refine for_range (lo := 0) (n := ((ms.length : Int) / 2).toNat) (fun i σ H' => H' c = some (.lst (ms.map V.int)) ∧ ∃ (y2 y3 y4 y5 y6 y7 y8 y9 y10 : Option V), σ = [some (.ref a), some (.ref c), y2, y3, y4, y5, y6, y7, y8, y9, y10]) ⟨hc, none, none, none, none, none, none, none, none, none, rfl⟩ ?_ ?_
  rotate_left
  · rintro σ H1 ⟨_, y2, y3, y4, y5, y6, y7, y8, y9, y10, rfl⟩
    exact q _
  rintro i σ H1 hi ⟨hc, y2, y3, y4, y5, y6, y7, y8, y9, y10, rfl⟩
  have hi : (i : Int) < (ms.length : Int) / 2 := by omega
  have hle : (ms.length : Int) / 2 * 2 ≤ ms.length := by omega
  refine ⟨_, rfl, _, rfl, _, _, rfl, rfl, .inl ⟨by decide, by decide⟩, _, _, rfl, rfl, c, _, _, _, rfl, rfl, SqL.of hc, atI_rd (m := ms) (i := 2 * (0 + (i : Int)) + 1) (by omega) (by omega), _, 60, rfl, by decide, fun G3 r ds hlen hdg s3 f3 hR => ?_⟩
  have hc3 := s3 _ _ hc
  refine ⟨_, rfl, _, rfl, _, _, rfl, rfl, .inl ⟨by decide, by decide⟩, c, _, _, _, rfl, rfl, SqL.of hc3, atI_rd (m := ms) (i := 2 * (0 + (i : Int))) (by omega) (by omega), rd ms (2 * (0 + (i : Int))), rfl, fun G4 im ws s4 f4 him hw1 hw2 hwo => ?_⟩
  have hc4 := s4 _ _ hc3
  have hR := s4 _ _ hR
  refine ⟨_, rfl, _, rfl, _, _, rfl, rfl, .inl ⟨by decide, by decide⟩, _, _, rfl, rfl, c, _, _, _, rfl, rfl, SqL.of hc4, atI_rd (m := ms) (i := 2 * (0 + (i : Int)) + 1) (by omega) (by omega), rd ms (2 * (0 + (i : Int)) + 1), rfl, fun G5 lin us0 ls0 s5 f5 hln hus hri hls => ?_⟩
  have him := s5 _ _ him
  have hR := s5 _ _ hR
  have hc5 := s5 _ _ hc4
  refine ⟨.ref im, .ref lin, rfl, ?_⟩
  refine ⟨_, rfl, _, rfl, ?_⟩
  intro p dx nb ndx hdx
  have s5b : Same G5 (upd (upd G5 dx (.own p)) p (.ins CB dx [])) := fun z o ez => by
    rw [upd_ne (ne_of_none ez nb), upd_ne (ne_of_none ez ndx)]
    exact ez
  refine ⟨G5, p, dx, im, lin, us0, ws, ls0, rfl, s5b, nb, upd_same, s5b _ _ him, by omega, hwo, s5b _ _ hln, hus.mono (fun t xs e => s5b _ _ e), hri, fun G6 R => ⟨rfl, (by show 1 ≤ sizeLine; decide), fun lb nlb => ?_⟩⟩
  obtain ⟨A, ts, lsv, B⟩ := R
  have r7 := same_upd' (o := .lst [V.ref p]) nlb
  have hlb : upd G6 lb (.lst [V.ref p]) lb = some (.lst [V.ref p]) := upd_same
  generalize upd G6 lb (.lst [V.ref p]) = G7 at *
  have s57 := B.sm.trans r7
  refine ⟨_, rfl, _, rfl, im, lin, us0, ws, ls0, rfl, s57 _ _ him, by omega, s57 _ _ hln, hus.mono (fun t xs e => s57 _ _ e), hri, by omega, fun G8 d m t ln s8 fd fm ft fln L => ⟨(by show 1 ≤ sizeLine; decide), fun ls nls => ?_⟩⟩
  refine ⟨.ref lb, .ref ls, rfl, ?_⟩
  have r9 := same_upd' (o := .lst [V.ref d]) nls
  have hls9 : upd G8 ls (.lst [V.ref d]) ls = some (.lst [V.ref d]) := upd_same
  have f8ls := nls
  generalize upd G8 ls (.lst [V.ref d]) = G9 at *
  have W0 : Sit CB CM ln c r lb ls ms ds 0 G9 := by
    obtain ⟨fr, Pp⟩ := Pair.fresh (B.same r7) s8 L fd fm ft
    obtain ⟨svL, hdL, _⟩ := L.hd
    have s59 := (s57.trans s8).trans r9
    have bad : ∀ b, (FtB p A b ∨ b = d ∨ b = m ∨ b = t) → ∃ o, G8 b = some o ∧ b ≠ lb ∧ b ≠ ls ∧ b ≠ ln := fun b h => by
      obtain ⟨o, eo, _⟩ := Pp.is h
      refine ⟨o, eo, fun z => ?_, fun z => ?_, fun z => ?_⟩
      · rcases h with h | h | h | h
        · obtain ⟨o', eo', _⟩ := B.bc.is h
          rw [z, nlb] at eo'; cases eo'
        · rw [← h, z, hlb] at fd; cases fd
        · rw [← h, z, hlb] at fm; cases fm
        · rw [← h, z, hlb] at ft; cases ft
      · rw [z, f8ls] at eo; cases eo
      · rcases h with h | h | h | h
        · obtain ⟨o', eo', _⟩ := (B.same r7).bc.is h
          rw [z, fln] at eo'; cases eo'
        · exact L.dl (h.symm.trans z)
        · exact ne_of L.hm L.hl (by intro y; cases y) (h.symm.trans z)
        · exact ne_of L.ht L.hl (by intro y; cases y) (h.symm.trans z)
    have old : ∀ b v, G5 b = some v → ¬ (FtB p A b ∨ b = d ∨ b = m ∨ b = t) := fun b v e h => by rw [fr b h] at e; cases e
    have ob : ∀ b v, ¬ (FtB p A b ∨ b = d ∨ b = m ∨ b = t) → G9 b = some v → (open Classical in (fun b => if FtB p A b ∨ b = d ∨ b = m ∨ b = t then none else G9 b) : Hp) b = some v := fun b v n e => (if_neg n).trans e
    have nlb' : lb ≠ ls := fun z => by
      have := s8 _ _ hlb
      rw [z, f8ls] at this; cases this
    have ncb : c ≠ lb := fun z => by
      have := B.sm _ _ hc5
      rw [z, nlb] at this; cases this
    have nrb : r ≠ lb := fun z => by
      have := B.sm _ _ hR
      rw [z, nlb] at this; cases this
    have ncs : c ≠ ls := fun z => by
      have := (s57.trans s8) _ _ hc5
      rw [z, f8ls] at this; cases this
    have nrs : r ≠ ls := fun z => by
      have := (s57.trans s8) _ _ hR
      rw [z, f8ls] at this; cases this
    refine ⟨(open Classical in fun b => if FtB p A b ∨ b = d ∨ b = m ∨ b = t then none else G9 b), 1, fun _ => p, fun _ => d, fun _ => newBd ws ls0, fun _ b => FtB p A b ∨ b = d ∨ b = m ∨ b = t, ?_, fun _ _ => Rn.new (by omega) hwo hri, Nat.le_refl _, by decide, ob _ _ (old _ _ hc5) (s59 _ _ hc5), ob _ _ (old _ _ hR) (s59 _ _ hR), ob _ _ (fun h => (bad _ h).choose_spec.2.1 rfl) ((s8.trans r9) _ _ hlb), ob _ _ (fun h => (bad _ h).choose_spec.2.2.1 rfl) hls9, nlb', ncb, ncs, nrb, nrs⟩
    exact {
      k := fun _ _ => Pp.move (fun b o _ e => r9 _ _ e) (fun t xs e => r9 _ _ e) (fun kv e => r9 _ _ e)
      a := fun i j hi hj n => absurd (show i = j by omega) n
      o := fun b v e => by
        by_cases z : FtB p A b ∨ b = d ∨ b = m ∨ b = t
        · exact absurd ((if_pos z).symm.trans e) (by intro y; cases y)
        · exact (if_neg z).symm.trans e
      f := fun i b v _ e z => by
        exact absurd ((if_pos z).symm.trans e) (by intro y; cases y)
      l := ⟨_, ob _ _ (fun h => (bad _ h).choose_spec.2.2.2 rfl) (r9 _ _ L.hl)⟩ }
  refine ⟨90, rfl, by decide, by decide, ?_⟩
  clear B L hls9 f8ls hlb r7 r9 s8 s57
  refine for_range (lo := 0) (n := ((90 : Int)).toNat) (fun i' σ H' => ∃ (y8 y9 y10 : Option V), σ = [some (.ref a), some (.ref c), some (.int (0 + (i : Int))), some (.ref r), some (.ref im), some (.ref lin), some (.ref lb), some (.ref ls), y8, y9, y10] ∧ Sit CB CM ln c r lb ls ms ds i' H') ⟨y8, y9, y10, rfl, W0⟩ ?_ ?_
  rotate_left
  · rintro σ H2 ⟨y8, y9, y10, rfl, W⟩
    obtain ⟨O, n, pf, df, X, Ff, W, rn, n1, n3, oc, orr, ob, ol, nbl⟩ := W
    refine ⟨_, rfl, lb, _, rfl, .inl (SqL.of (W.o _ _ ob)), (n : Int), by rw [refs_len], by omega, by omega, ?_⟩
    refine for_range (lo := 0) (n := ((n : Int)).toNat) (fun i' σ H' => ∃ (y10 : Option V), σ = [some (.ref a), some (.ref c), some (.int (0 + (i : Int))), some (.ref r), some (.ref im), some (.ref lin), some (.ref lb), some (.ref ls), y8, y9, y10] ∧ Pool CB CM ln O H' n pf df X Ff) ⟨y10, rfl, W⟩ ?_ ?_
    · rintro j σ H3 hj ⟨y10, rfl, W⟩
      have hj : j < n := by omega
      obtain ⟨m, t, A, ts, lsv, us, Pp⟩ := W.k j hj
      refine ⟨_, rfl, _, rfl, lb, _, _, _, rfl, rfl, SqL.of (W.o _ _ ob), (by rw [show (0 + (j : Int)) = ((j : Nat) : Int) by omega]; exact atI_nat (refs_at pf hj)), _, rfl, _, rfl, ls, _, _, _, rfl, rfl, SqL.of (W.o _ _ ol), (by rw [show (0 + (j : Int)) = ((j : Nat) : Int) by omega]; exact atI_nat (refs_at df hj)), pf j, df j, m, t, ln, A, ts, lsv, us, X j, rfl, Pp.C, Pp.L, fun H4 s4 => ?_⟩
      exact ⟨_, rfl, ifN (fun h => by cases h) (fun _ => ⟨_, rfl, W.same s4⟩)⟩
    rintro σ H3 ⟨y10, rfl, W⟩
    exact ⟨W.o _ _ oc, _, _, _, _, _, _, _, _, _, rfl⟩
  rintro j σ H2 hj ⟨y8, y9, y10, rfl, W⟩
  have hj : j < 90 := hj
  apply joinR (I := fun G => Sit CB CM ln c r lb ls ms ds j G)
  case body =>
    intro k
    have W' := W
    obtain ⟨O, n, pf, df, X, Ff, W, rn, n1, n3, oc, orr, ob, ol, nbl, ncl⟩ := W
    have hb := W.o _ _ ob
    have hl := W.o _ _ ol
    have hr2 := W.o _ _ orr
    obtain ⟨d0, e0, b0, c0⟩ := atN hdg (j := 0) (by decide) (by rw [hlen]; decide)
    obtain ⟨d1, e1, b1, c1⟩ := atN hdg (j := 1) (by decide) (by rw [hlen]; decide)
    refine ⟨_, rfl, lb, _, rfl, .inl (SqL.of hb), _, _, rfl, rfl, _, rfl, ifB (fun h => ?_) (fun _ => ?_)⟩
    rotate_left
    · refine ifB (fun h => by cases h) (fun _ => ?_)
      obtain ⟨H3, e3⟩ : ∃ H3, H3 = H2 := ⟨_, rfl⟩
      rw [← e3]
      rw [← e3] at W'
      clear e3
      exact k H3 W'
    have h := of_decide_eq_true h
    rw [refs_len] at h
    refine ⟨_, rfl, _, rfl, r, _, 0, _, rfl, rfl, SqL.of hr2, e0, _, _, rfl, rfl, (by show (0 : Int) < 40; decide), _, rfl, r, _, 1, _, rfl, rfl, SqL.of hr2, e1, _, _, rfl, rfl, (by show (0 : Int) < 40; decide), _, _, rfl, rfl, (by show 2 ≤ sizeLine; decide), fun l2 n2 => ?_⟩
    refine ⟨l2, _, rfl, .inl (SqL.of upd_same), rfl, rfl, _, rfl, ?_⟩
    have r1 := same_upd' (o := .lst [V.int (d0 % 40), V.int (40 + d1 % 40)]) n2
    generalize upd H2 l2 (.lst [V.int (d0 % 40), V.int (40 + d1 % 40)]) = G1 at *
    refine ifB (fun _ => ?_) (fun _ => k G1 (W'.same r1))
    have W1 := W.same r1
    obtain ⟨m, t, A, ts, lsv, us, Pp⟩ := W1.k (n - 1) (by omega)
    obtain ⟨sv1, tv1, dv1, hp1, hz1⟩ := Pp.C.hp
    have Rl := rn (n - 1) (by omega)
    refine ⟨_, rfl, .inl ⟨rfl, _, SqL.of (W1.o _ _ ob)⟩, _, rfl, _, rfl, lb, _, _, _, rfl, rfl, SqL.of (W1.o _ _ ob), refs_last pf n1, pf (n - 1), A.dx, _, rfl, hp1, bN_twin, pf (n - 1), A, ts, lsv, X (n - 1), rfl, Pp.C, Rl.ri, fun H3 q2 R3 => ?_⟩
    obtain ⟨A3, ts3, ls3, B3⟩ := R3
    have W3 := W1.same B3.sm
    refine ⟨lb, refs n pf, .ref q2, rfl, rfl, W3.o _ _ ob, (by rw [refs_len]; exact small1000 (by omega)), ?_⟩
    rw [← refs_add]
    have nbn : lb ≠ ln := by
      obtain ⟨kv, ek⟩ := W.l
      exact ne_of ob ek (by intro z; cases z)
    have nln : ls ≠ ln := by
      obtain ⟨kv, ek⟩ := W.l
      exact ne_of ol ek (by intro z; cases z)
    have Wb := W1.wr (v' := .lst (refs (n + 1) (put1 pf n q2))) ob (fun xs z => by cases z) nbn
    have Wc := W3.wr (v' := .lst (refs (n + 1) (put1 pf n q2))) ob (fun xs z => by cases z) nbn
    have hb1 := W1.o _ _ ob
    have nf : ∀ b, FtB q2 A3 b → b ≠ lb := fun b z y => by
      have e := B3.foot z
      rw [y, hb1] at e
      cases e
    have sb : Same (upd G1 lb (.lst (refs (n + 1) (put1 pf n q2)))) (upd H3 lb (.lst (refs (n + 1) (put1 pf n q2)))) := fun b o e => by
      by_cases y : b = lb
      · subst y
        rw [upd_same] at e ⊢
        exact e
      · rw [upd_ne y] at e ⊢
        exact B3.sm _ _ e
    have B4 : Bp CB CM (upd G1 lb (.lst (refs (n + 1) (put1 pf n q2)))) (upd H3 lb (.lst (refs (n + 1) (put1 pf n q2)))) q2 A3 ts3 ls3 (X (n - 1)) := (B3.bc.move (fun b o z e => by rw [upd_ne (nf b z)]; exact e) (fun u xs e => by
      have hb3 := W3.o _ _ ob
      rw [upd_ne (ne_of e hb3 (by intro z; cases z))]
      exact e)).over sb (fun b z => by rw [upd_ne (nf b z)]; exact B3.foot z)
    clear B3 nf
    generalize upd H3 lb (.lst (refs (n + 1) (put1 pf n q2))) = G4 at *
    generalize upd G1 lb (.lst (refs (n + 1) (put1 pf n q2))) = G3 at *
    obtain ⟨m4, t4, A4, ts4, lsv4, us4, P4⟩ := Wc.k (n - 1) (by omega)
    have ol1 : upd O lb (.lst (refs (n + 1) (put1 pf n q2))) ls = some (.lst (refs n df)) := by rw [upd_ne nbl.symm]; exact ol
    refine ⟨_, rfl, .inl ⟨rfl, _, SqL.of (Wc.o _ _ ol1)⟩, _, rfl, _, rfl, ls, _, _, _, rfl, rfl, SqL.of (Wc.o _ _ ol1), refs_last df n1, df (n - 1), m4, t4, ln, us4, X (n - 1), rfl, P4.L, fun H5 d2 m2 t2 s5 fd fm ft L5 => ?_⟩
    obtain ⟨fr5, P5⟩ := Pair.fresh B4 s5 L5 fd fm ft
    have W5 := Wb.add (sb.trans s5) fr5 P5
    refine ⟨ls, refs n df, .ref d2, rfl, rfl, W5.o _ _ ol1, (by rw [refs_len]; exact small1000 (by omega)), ?_⟩
    rw [← refs_add]
    have W6 := W5.wr (v' := .lst (refs (n + 1) (put1 df n d2))) ol1 (fun xs z => by cases z) nln
    generalize upd H5 ls (.lst (refs (n + 1) (put1 df n d2))) = G6 at *
    refine k G6 ⟨_, n + 1, _, _, _, _, W6, fun i hi => ?_, by omega, by omega, ?_, ?_, ?_, upd_same, nbl, ncl⟩
    · by_cases y : i = n
      · subst y
        rw [put_at]
        exact Rl
      · rw [put_ne _ _ y]
        exact rn i (by omega)
    · rw [upd_ne ncl.2.1, upd_ne ncl.1]
      exact oc
    · rw [upd_ne ncl.2.2.2, upd_ne ncl.2.2.1]
      exact orr
    · rw [upd_ne nbl, upd_same]
  case key =>
    intro H3 W
    obtain ⟨O, n, pf, df, X, Ff, W, rn, n1, n3, oc, orr, ob, ol, nbl, ncl⟩ := W
    have hb := W.o _ _ ob
    have hl := W.o _ _ ol
    have hr2 := W.o _ _ orr
    have m0 : 0 ≤ (0 + (j : Int)) % 60 := by omega
    have m1 : (0 + (j : Int)) % 60 < ds.length := by rw [hlen]; omega
    refine ⟨_, rfl, _, rfl, _, _, rfl, rfl, (by show (0 : Int) < 60; decide), r, _, _, _, rfl, rfl, SqL.of hr2, atI_rd (m := ds) m0 m1, _, _, rfl, rfl, ⟨by decide, by decide⟩, _, rfl, lb, _, rfl, .inl (SqL.of hb), _, _, rfl, rfl, (by rw [refs_len]; omega), ?_⟩
    rw [refs_len]
    obtain ⟨kk, ek, hk⟩ : ∃ kk : Nat, rd ds ((0 + (j : Int)) % 60) / 3 % (n : Int) = (kk : Int) ∧ kk < n := by
      have q0 := Int.emod_nonneg (rd ds ((0 + (j : Int)) % 60) / 3) (show (n : Int) ≠ 0 by omega)
      have q1 := Int.emod_lt_of_pos (rd ds ((0 + (j : Int)) % 60) / 3) (show (0 : Int) < (n : Int) by omega)
      generalize rd ds ((0 + (j : Int)) % 60) / 3 % (n : Int) = z at *
      exact ⟨z.toNat, by omega, by omega⟩
    show gName 9 (V.int (rd ds ((0 + (j : Int)) % 60) / 3 % (n : Int))) _ _ _
    rw [ek]
    obtain ⟨m, t, A, ts, lsv, us, Pp⟩ := W.k kk hk
    obtain ⟨sv1, tv1, dv1, hp1, hz1⟩ := Pp.C.hp
    have Rk := rn kk hk
    have se := Rk.se
    have nln : ¬ FtB (pf kk) A ln := fun z => by
      obtain ⟨kv, e⟩ := W.l
      exact W.f kk ln _ hk e ((Pp.F ln).mpr (.inl z))
    refine ⟨_, rfl, _, rfl, lb, _, _, _, rfl, rfl, SqL.of hb, atI_nat (refs_at pf hk), pf kk, A.dx, _, rfl, hp1, bN_turn, _, pf kk, X kk, rfl, ⟨A, ts, lsv, Pp.C.bp⟩, by omega, Rk.ok.pcok, fun H4 R4 => ?_⟩
    obtain ⟨A4, ts4, ls4, B4⟩ := R4
    have key4 : ∀ b v, O b = some v → H4 b = some v := fun b v e => by
      have nf := fun z => W.f kk b v hk e ((Pp.F b).mpr (.inl z))
      have e1 : baseOf H3 (pf kk) A b = H3 b := if_neg nf
      exact B4.sm _ _ (e1.trans (W.o b v e))
    have L4 : Lw H4 (df kk) m t ln us (X kk) := by
      have bt := Pp.C.bp.base_tup
      refine Pp.L.move (fun b o z e => ?_) (fun u xs e => B4.sm _ _ (bt u xs e)) (fun kv e => ?_)
      · have nf : ¬ FtB (pf kk) A b := fun y => by
          obtain ⟨y1, y2, y3⟩ := Pp.D b y
          rcases z with z | z | z
          · exact y1 z
          · exact y2 z
          · exact y3 z
        have e1 : baseOf H3 (pf kk) A b = H3 b := if_neg nf
        exact B4.sm _ _ (e1.trans e)
      · have e1 : baseOf H3 (pf kk) A ln = H3 ln := if_neg nln
        exact B4.sm _ _ (e1.trans e)
    refine ⟨_, rfl, _, rfl, ls, _, _, _, rfl, rfl, SqL.of (key4 _ _ ol), atI_nat (refs_at df hk), df kk, m, t, ln, us, X kk, rfl, L4, Rk.ok, by omega, fun H5 us5 F5 L5 => ?_⟩
    refine ⟨rfl, _, rfl, ifN (fun h => absurd rfl (of_decide_eq_false h)) (fun _ => ?_)⟩
    obtain ⟨T1, T2, T3⟩ := Pair.turned Pp nln B4 F5 L5
    have W5 := W.step hk T1 T2 T3
    have rn5 : ∀ i, i < n → Rn (j + 1) (put1 X kk (turnM (X kk)).2 i) := fun i hi => by
      by_cases y : i = kk
      · subst y
        rw [put_at]
        exact (rn _ hi).turn
      · rw [put_ne _ _ y]
        exact (rn i hi).more
    refine ⟨_, rfl, lb, _, rfl, .inl (SqL.of (W5.o _ _ ob)), (n : Int), by rw [refs_len], by omega, by omega, ?_⟩
    clear T1 T2 T3 L5 F5 B4 L4 key4
    generalize put1 X kk (turnM (X kk)).2 = X5 at *
    generalize put1 Ff kk (fun b => FtB (pf kk) A4 b ∨ b = df kk ∨ b = m ∨ b = t) = Ff5 at *
    refine for_range (lo := 0) (n := ((n : Int)).toNat) (fun i' σ H' => ∃ (y10 : Option V), σ = [some (.ref a), some (.ref c), some (.int (0 + (i : Int))), some (.ref r), some (.ref im), some (.ref lin), some (.ref lb), some (.ref ls), some (.int (0 + (j : Int))), some (.int (kk : Int)), y10] ∧ Pool CB CM ln O H' n pf df X5 Ff5) ⟨y10, rfl, W5⟩ ?_ ?_
    · rintro i3 σ H6 hj3 ⟨y10, rfl, W6⟩
      have hj3 : i3 < n := by omega
      obtain ⟨m, t, A, ts, lsv, us, Pp⟩ := W6.k i3 hj3
      refine ⟨_, rfl, _, rfl, lb, _, _, _, rfl, rfl, SqL.of (W6.o _ _ ob), (by rw [show (0 + (i3 : Int)) = ((i3 : Nat) : Int) by omega]; exact atI_nat (refs_at pf hj3)), _, rfl, _, rfl, ls, _, _, _, rfl, rfl, SqL.of (W6.o _ _ ol), (by rw [show (0 + (i3 : Int)) = ((i3 : Nat) : Int) by omega]; exact atI_nat (refs_at df hj3)), _, pf i3, df i3, m, t, ln, us, X5 i3, rfl, ⟨A, ts, lsv, Pp.C.bp⟩, Pp.L, (rn5 i3 hj3).st, fun H7 s7 => ?_⟩
      exact ⟨_, rfl, ifN (fun h => by cases h) (fun _ => ⟨_, rfl, W6.same s7⟩)⟩
    rintro σ H6 ⟨y10, rfl, W6⟩
    exact ⟨_, _, _, rfl, O, n, pf, df, X5, Ff5, W6, rn5, n1, n3, oc, orr, ob, ol, nbl, ncl⟩
end
end Bh

/-! What the top has written; the head. -/
namespace Bh
open PySem PySem.Spec PyProof.Rows L2
def relB : List Str → List Value → Bool
  | [], [] => true
  | x :: xs, u :: us => Value.isStrOf x u && relB xs us
  | _, _ => false
theorem relB_vals : ∀ {xs : List Str} {us : List Value}, relB xs us = true → Vals (xs.map V.str) us
  | [], [], _ => .nil
  | x :: xs, u :: us, h => by
    unfold relB at h
    rw [Bool.and_eq_true] at h
    obtain ⟨t, e⟩ := Value.isStrOf_shape h.1
    exact .cons ⟨t, e⟩ (relB_vals h.2)
  | [], _ :: _, h => by cases h
  | _ :: _, [], h => by cases h
theorem tup_of {K : PySem.W.Frag} {a : Addr} {xs : List Str} {its : Array Value} {n : Nat} {sl : Array (Option Value)} (l : K.lookup a = some ⟨.type "tuple", none, .seq its n, sl⟩) (v : relB xs its.toList = true) (hx : xs.length ≤ 1000) : ∀ H, SqT K H a (xs.map V.str) := fun H => by
  have r := relB_vals v
  have hl := r.length
  rw [List.length_map] at hl
  refine .inr ⟨_, its, n, l, rfl, rfl, ?_, r⟩
  rw [← Array.length_toList, ← hl]
  exact Nat.le_of_lt (small1000 hx)
theorem fun_mk {K : PySem.W.Frag} {x qual : Str} {st : Stmt} {f : Addr} {oc : Value} {od : Option Addr} {kV doc pm : Value} {an : Option Addr} {cdv ct : Value} {osl : Array (Option Value)} (l : K.lookup f = some ⟨oc, od, .func (PySem.W.fnOf x qual (defArgs st) (defBody st) (defScope st) .none kV doc pm an cdv ct), osl⟩)
    (c : PySem.W.codeIn K cdv qual = true) (kp : PySem.W.keepIn K (.ref f) = true) : Fun K x qual st f (PySem.W.fnOf x qual (defArgs st) (defBody st) (defScope st) .none kV doc pm an cdv ct) := ⟨⟨_, _, _, _, _, _, _, _, _, rfl, l, c⟩, kp⟩
set_option linter.unusedVariables false in
theorem all_mk {l : PySem.W.OpenLaw} {w : World} {K : PySem.W.Frag} {h : Heap} {mg : Str → Option Value} {fa CB CM : Addr} (X : K.In h) (G : h.Ns mainGlobals mg) (hfa : mg "law" = some (.ref fa))
    {f_barof f_iswhole f_isbetween f_isword f_isimage f_isline f_islinerow f_touchesof f_give f_firstregisters f_dolit f_doget f_doput f_doadd f_dosub f_doand f_doxor f_doputb f_dotob f_doswap f_dogo f_doifz f_doifn f_docall f_doret f_dopush f_dopop f_dosleep f_dolet f_doback f_dohalf f_lawdigits f_lawnew f_lawgoby f_lawbarred f_lawlay f_lawhalts f_lawonce f_lawdeed f_lawdone f_lawsame f_lawlikewords f_lawwordby f_lawdrawnimage f_lawdrawnline f_lawowntwin f_law f_CMinit f_CMwordat f_CMread f_CMput f_CMcalledflags f_CMtakeline f_CMgotimer f_CMstandas f_CBinit f_CBcoming f_CBturn f_CBbegininterrupt f_CBdodeed f_CBmaytouch f_CBstop f_CBputbyturn f_CBputword f_CBpassbeats f_CBcomeline f_CBtwin f_CBstandas aR aO aD : Addr} {od_barof an_barof od_iswhole an_iswhole od_isbetween an_isbetween od_isword an_isword od_isimage an_isimage od_isline an_isline od_islinerow an_islinerow od_touchesof an_touchesof od_give an_give od_firstregisters an_firstregisters od_dolit an_dolit od_doget an_doget od_doput an_doput od_doadd an_doadd od_dosub an_dosub od_doand an_doand od_doxor an_doxor od_doputb an_doputb od_dotob an_dotob od_doswap an_doswap od_dogo an_dogo od_doifz an_doifz od_doifn an_doifn od_docall an_docall od_doret an_doret od_dopush an_dopush od_dopop an_dopop od_dosleep an_dosleep od_dolet an_dolet od_doback an_doback od_dohalf an_dohalf od_lawdigits an_lawdigits od_lawnew an_lawnew od_lawgoby an_lawgoby od_lawbarred an_lawbarred od_lawlay an_lawlay od_lawhalts an_lawhalts od_lawonce an_lawonce od_lawdeed an_lawdeed od_lawdone an_lawdone od_lawsame an_lawsame od_lawlikewords an_lawlikewords od_lawwordby an_lawwordby od_lawdrawnimage an_lawdrawnimage od_lawdrawnline an_lawdrawnline od_lawowntwin an_lawowntwin od_law an_law od_CMinit an_CMinit od_CMwordat an_CMwordat od_CMread an_CMread od_CMput an_CMput od_CMcalledflags an_CMcalledflags od_CMtakeline an_CMtakeline od_CMgotimer an_CMgotimer od_CMstandas an_CMstandas od_CBinit an_CBinit od_CBcoming an_CBcoming od_CBturn an_CBturn od_CBbegininterrupt an_CBbegininterrupt od_CBdodeed an_CBdodeed od_CBmaytouch an_CBmaytouch od_CBstop an_CBstop od_CBputbyturn an_CBputbyturn od_CBputword an_CBputword od_CBpassbeats an_CBpassbeats od_CBcomeline an_CBcomeline od_CBtwin an_CBtwin od_CBstandas an_CBstandas : Option Addr} {sl_barof sl_iswhole sl_isbetween sl_isword sl_isimage sl_isline sl_islinerow sl_touchesof sl_give sl_firstregisters sl_dolit sl_doget sl_doput sl_doadd sl_dosub sl_doand sl_doxor sl_doputb sl_dotob sl_doswap sl_dogo sl_doifz sl_doifn sl_docall sl_doret sl_dopush sl_dopop sl_dosleep sl_dolet sl_doback sl_dohalf sl_lawdigits sl_lawnew sl_lawgoby sl_lawbarred sl_lawlay sl_lawhalts sl_lawonce sl_lawdeed sl_lawdone sl_lawsame sl_lawlikewords sl_lawwordby sl_lawdrawnimage sl_lawdrawnline sl_lawowntwin sl_law sl_CMinit sl_CMwordat sl_CMread sl_CMput sl_CMcalledflags sl_CMtakeline sl_CMgotimer sl_CMstandas sl_CBinit sl_CBcoming sl_CBturn sl_CBbegininterrupt sl_CBdodeed sl_CBmaytouch sl_CBstop sl_CBputbyturn sl_CBputword sl_CBpassbeats sl_CBcomeline sl_CBtwin sl_CBstandas sl_aR sl_aO : Array (Option Value)} {oc_barof kV_barof dc_barof pm_barof cd_barof ct_barof oc_iswhole kV_iswhole dc_iswhole pm_iswhole cd_iswhole ct_iswhole oc_isbetween kV_isbetween dc_isbetween pm_isbetween cd_isbetween ct_isbetween oc_isword kV_isword dc_isword pm_isword cd_isword ct_isword oc_isimage kV_isimage dc_isimage pm_isimage cd_isimage ct_isimage oc_isline kV_isline dc_isline pm_isline cd_isline ct_isline oc_islinerow kV_islinerow dc_islinerow pm_islinerow cd_islinerow ct_islinerow oc_touchesof kV_touchesof dc_touchesof pm_touchesof cd_touchesof ct_touchesof oc_give kV_give dc_give pm_give cd_give ct_give oc_firstregisters kV_firstregisters dc_firstregisters pm_firstregisters cd_firstregisters ct_firstregisters oc_dolit kV_dolit dc_dolit pm_dolit cd_dolit ct_dolit oc_doget kV_doget dc_doget pm_doget cd_doget ct_doget oc_doput kV_doput dc_doput pm_doput cd_doput ct_doput oc_doadd kV_doadd dc_doadd pm_doadd cd_doadd ct_doadd oc_dosub kV_dosub dc_dosub pm_dosub cd_dosub ct_dosub oc_doand kV_doand dc_doand pm_doand cd_doand ct_doand oc_doxor kV_doxor dc_doxor pm_doxor cd_doxor ct_doxor oc_doputb kV_doputb dc_doputb pm_doputb cd_doputb ct_doputb oc_dotob kV_dotob dc_dotob pm_dotob cd_dotob ct_dotob oc_doswap kV_doswap dc_doswap pm_doswap cd_doswap ct_doswap oc_dogo kV_dogo dc_dogo pm_dogo cd_dogo ct_dogo oc_doifz kV_doifz dc_doifz pm_doifz cd_doifz ct_doifz oc_doifn kV_doifn dc_doifn pm_doifn cd_doifn ct_doifn oc_docall kV_docall dc_docall pm_docall cd_docall ct_docall oc_doret kV_doret dc_doret pm_doret cd_doret ct_doret oc_dopush kV_dopush dc_dopush pm_dopush cd_dopush ct_dopush oc_dopop kV_dopop dc_dopop pm_dopop cd_dopop ct_dopop oc_dosleep kV_dosleep dc_dosleep pm_dosleep cd_dosleep ct_dosleep oc_dolet kV_dolet dc_dolet pm_dolet cd_dolet ct_dolet oc_doback kV_doback dc_doback pm_doback cd_doback ct_doback oc_dohalf kV_dohalf dc_dohalf pm_dohalf cd_dohalf ct_dohalf oc_lawdigits kV_lawdigits dc_lawdigits pm_lawdigits cd_lawdigits ct_lawdigits oc_lawnew kV_lawnew dc_lawnew pm_lawnew cd_lawnew ct_lawnew oc_lawgoby kV_lawgoby dc_lawgoby pm_lawgoby cd_lawgoby ct_lawgoby oc_lawbarred kV_lawbarred dc_lawbarred pm_lawbarred cd_lawbarred ct_lawbarred oc_lawlay kV_lawlay dc_lawlay pm_lawlay cd_lawlay ct_lawlay oc_lawhalts kV_lawhalts dc_lawhalts pm_lawhalts cd_lawhalts ct_lawhalts oc_lawonce kV_lawonce dc_lawonce pm_lawonce cd_lawonce ct_lawonce oc_lawdeed kV_lawdeed dc_lawdeed pm_lawdeed cd_lawdeed ct_lawdeed oc_lawdone kV_lawdone dc_lawdone pm_lawdone cd_lawdone ct_lawdone oc_lawsame kV_lawsame dc_lawsame pm_lawsame cd_lawsame ct_lawsame oc_lawlikewords kV_lawlikewords dc_lawlikewords pm_lawlikewords cd_lawlikewords ct_lawlikewords oc_lawwordby kV_lawwordby dc_lawwordby pm_lawwordby cd_lawwordby ct_lawwordby oc_lawdrawnimage kV_lawdrawnimage dc_lawdrawnimage pm_lawdrawnimage cd_lawdrawnimage ct_lawdrawnimage oc_lawdrawnline kV_lawdrawnline dc_lawdrawnline pm_lawdrawnline cd_lawdrawnline ct_lawdrawnline oc_lawowntwin kV_lawowntwin dc_lawowntwin pm_lawowntwin cd_lawowntwin ct_lawowntwin oc_law kV_law dc_law pm_law cd_law ct_law oc_CMinit kV_CMinit dc_CMinit pm_CMinit cd_CMinit ct_CMinit oc_CMwordat kV_CMwordat dc_CMwordat pm_CMwordat cd_CMwordat ct_CMwordat oc_CMread kV_CMread dc_CMread pm_CMread cd_CMread ct_CMread oc_CMput kV_CMput dc_CMput pm_CMput cd_CMput ct_CMput oc_CMcalledflags kV_CMcalledflags dc_CMcalledflags pm_CMcalledflags cd_CMcalledflags ct_CMcalledflags oc_CMtakeline kV_CMtakeline dc_CMtakeline pm_CMtakeline cd_CMtakeline ct_CMtakeline oc_CMgotimer kV_CMgotimer dc_CMgotimer pm_CMgotimer cd_CMgotimer ct_CMgotimer oc_CMstandas kV_CMstandas dc_CMstandas pm_CMstandas cd_CMstandas ct_CMstandas oc_CBinit kV_CBinit dc_CBinit pm_CBinit cd_CBinit ct_CBinit oc_CBcoming kV_CBcoming dc_CBcoming pm_CBcoming cd_CBcoming ct_CBcoming oc_CBturn kV_CBturn dc_CBturn pm_CBturn cd_CBturn ct_CBturn oc_CBbegininterrupt kV_CBbegininterrupt dc_CBbegininterrupt pm_CBbegininterrupt cd_CBbegininterrupt ct_CBbegininterrupt oc_CBdodeed kV_CBdodeed dc_CBdodeed pm_CBdodeed cd_CBdodeed ct_CBdodeed oc_CBmaytouch kV_CBmaytouch dc_CBmaytouch pm_CBmaytouch cd_CBmaytouch ct_CBmaytouch oc_CBstop kV_CBstop dc_CBstop pm_CBstop cd_CBstop ct_CBstop oc_CBputbyturn kV_CBputbyturn dc_CBputbyturn pm_CBputbyturn cd_CBputbyturn ct_CBputbyturn oc_CBputword kV_CBputword dc_CBputword pm_CBputword cd_CBputword ct_CBputword oc_CBpassbeats kV_CBpassbeats dc_CBpassbeats pm_CBpassbeats cd_CBpassbeats ct_CBpassbeats oc_CBcomeline kV_CBcomeline dc_CBcomeline pm_CBcomeline cd_CBcomeline ct_CBcomeline oc_CBtwin kV_CBtwin dc_CBtwin pm_CBtwin cd_CBtwin ct_CBtwin oc_CBstandas kV_CBstandas dc_CBstandas pm_CBstandas cd_CBstandas ct_CBstandas : Value} {t_FLASH_END t_RAM_END t_PLACES_END t_COUNT t_TOP t_FLAGS t_MASK t_LINE_IN t_LINE_OUT t_TIMER_FLAG t_LINE_FLAG t_WORD_MOST t_ERASED t_X_SPAN t_LINE_MOST t_STACK_TOP t_INTERRUPT_BEATS t_TIMER_PC t_LINE_PC t_WORDS t_HIGH : Tok} {its_aR its_aO : Array Value} {n_aR n_aO n_aD : Nat} {es_aD : Array DictEntry}
    (a_barof : PySem.W.nsIn K mainGlobals "bar_of" = some (some (.ref f_barof)))
    (l_barof : K.lookup f_barof = some ⟨oc_barof, od_barof, .func (PySem.W.fnOf "bar_of" "bar_of" (defArgs sFbar) (defBody sFbar) (defScope sFbar) .none kV_barof dc_barof pm_barof an_barof cd_barof ct_barof), sl_barof⟩)
    (c_barof : PySem.W.codeIn K cd_barof "bar_of" = true)
    (k_barof : PySem.W.keepIn K (.ref f_barof) = true)
    (a_iswhole : PySem.W.nsIn K mainGlobals "is_whole" = some (some (.ref f_iswhole)))
    (l_iswhole : K.lookup f_iswhole = some ⟨oc_iswhole, od_iswhole, .func (PySem.W.fnOf "is_whole" "is_whole" (defArgs sFwhole) (defBody sFwhole) (defScope sFwhole) .none kV_iswhole dc_iswhole pm_iswhole an_iswhole cd_iswhole ct_iswhole), sl_iswhole⟩)
    (c_iswhole : PySem.W.codeIn K cd_iswhole "is_whole" = true)
    (k_iswhole : PySem.W.keepIn K (.ref f_iswhole) = true)
    (a_isbetween : PySem.W.nsIn K mainGlobals "is_between" = some (some (.ref f_isbetween)))
    (l_isbetween : K.lookup f_isbetween = some ⟨oc_isbetween, od_isbetween, .func (PySem.W.fnOf "is_between" "is_between" (defArgs sFbetw) (defBody sFbetw) (defScope sFbetw) .none kV_isbetween dc_isbetween pm_isbetween an_isbetween cd_isbetween ct_isbetween), sl_isbetween⟩)
    (c_isbetween : PySem.W.codeIn K cd_isbetween "is_between" = true)
    (k_isbetween : PySem.W.keepIn K (.ref f_isbetween) = true)
    (a_isword : PySem.W.nsIn K mainGlobals "is_word" = some (some (.ref f_isword)))
    (l_isword : K.lookup f_isword = some ⟨oc_isword, od_isword, .func (PySem.W.fnOf "is_word" "is_word" (defArgs sFword) (defBody sFword) (defScope sFword) .none kV_isword dc_isword pm_isword an_isword cd_isword ct_isword), sl_isword⟩)
    (c_isword : PySem.W.codeIn K cd_isword "is_word" = true)
    (k_isword : PySem.W.keepIn K (.ref f_isword) = true)
    (a_isimage : PySem.W.nsIn K mainGlobals "is_image" = some (some (.ref f_isimage)))
    (l_isimage : K.lookup f_isimage = some ⟨oc_isimage, od_isimage, .func (PySem.W.fnOf "is_image" "is_image" (defArgs sFimage) (defBody sFimage) (defScope sFimage) .none kV_isimage dc_isimage pm_isimage an_isimage cd_isimage ct_isimage), sl_isimage⟩)
    (c_isimage : PySem.W.codeIn K cd_isimage "is_image" = true)
    (k_isimage : PySem.W.keepIn K (.ref f_isimage) = true)
    (a_isline : PySem.W.nsIn K mainGlobals "is_line" = some (some (.ref f_isline)))
    (l_isline : K.lookup f_isline = some ⟨oc_isline, od_isline, .func (PySem.W.fnOf "is_line" "is_line" (defArgs sFline) (defBody sFline) (defScope sFline) .none kV_isline dc_isline pm_isline an_isline cd_isline ct_isline), sl_isline⟩)
    (c_isline : PySem.W.codeIn K cd_isline "is_line" = true)
    (k_isline : PySem.W.keepIn K (.ref f_isline) = true)
    (a_islinerow : PySem.W.nsIn K mainGlobals "is_line_row" = some (some (.ref f_islinerow)))
    (l_islinerow : K.lookup f_islinerow = some ⟨oc_islinerow, od_islinerow, .func (PySem.W.fnOf "is_line_row" "is_line_row" (defArgs sFlrow) (defBody sFlrow) (defScope sFlrow) .none kV_islinerow dc_islinerow pm_islinerow an_islinerow cd_islinerow ct_islinerow), sl_islinerow⟩)
    (c_islinerow : PySem.W.codeIn K cd_islinerow "is_line_row" = true)
    (k_islinerow : PySem.W.keepIn K (.ref f_islinerow) = true)
    (a_touchesof : PySem.W.nsIn K mainGlobals "touches_of" = some (some (.ref f_touchesof)))
    (l_touchesof : K.lookup f_touchesof = some ⟨oc_touchesof, od_touchesof, .func (PySem.W.fnOf "touches_of" "touches_of" (defArgs sFtou) (defBody sFtou) (defScope sFtou) .none kV_touchesof dc_touchesof pm_touchesof an_touchesof cd_touchesof ct_touchesof), sl_touchesof⟩)
    (c_touchesof : PySem.W.codeIn K cd_touchesof "touches_of" = true)
    (k_touchesof : PySem.W.keepIn K (.ref f_touchesof) = true)
    (a_give : PySem.W.nsIn K mainGlobals "give" = some (some (.ref f_give)))
    (l_give : K.lookup f_give = some ⟨oc_give, od_give, .func (PySem.W.fnOf "give" "give" (defArgs sFgive) (defBody sFgive) (defScope sFgive) .none kV_give dc_give pm_give an_give cd_give ct_give), sl_give⟩)
    (c_give : PySem.W.codeIn K cd_give "give" = true)
    (k_give : PySem.W.keepIn K (.ref f_give) = true)
    (a_firstregisters : PySem.W.nsIn K mainGlobals "first_registers" = some (some (.ref f_firstregisters)))
    (l_firstregisters : K.lookup f_firstregisters = some ⟨oc_firstregisters, od_firstregisters, .func (PySem.W.fnOf "first_registers" "first_registers" (defArgs sFfirst) (defBody sFfirst) (defScope sFfirst) .none kV_firstregisters dc_firstregisters pm_firstregisters an_firstregisters cd_firstregisters ct_firstregisters), sl_firstregisters⟩)
    (c_firstregisters : PySem.W.codeIn K cd_firstregisters "first_registers" = true)
    (k_firstregisters : PySem.W.keepIn K (.ref f_firstregisters) = true)
    (a_dolit : PySem.W.nsIn K mainGlobals "do_lit" = some (some (.ref f_dolit)))
    (l_dolit : K.lookup f_dolit = some ⟨oc_dolit, od_dolit, .func (PySem.W.fnOf "do_lit" "do_lit" (defArgs sD1) (defBody sD1) (defScope sD1) .none kV_dolit dc_dolit pm_dolit an_dolit cd_dolit ct_dolit), sl_dolit⟩)
    (c_dolit : PySem.W.codeIn K cd_dolit "do_lit" = true)
    (k_dolit : PySem.W.keepIn K (.ref f_dolit) = true)
    (a_doget : PySem.W.nsIn K mainGlobals "do_get" = some (some (.ref f_doget)))
    (l_doget : K.lookup f_doget = some ⟨oc_doget, od_doget, .func (PySem.W.fnOf "do_get" "do_get" (defArgs sD2) (defBody sD2) (defScope sD2) .none kV_doget dc_doget pm_doget an_doget cd_doget ct_doget), sl_doget⟩)
    (c_doget : PySem.W.codeIn K cd_doget "do_get" = true)
    (k_doget : PySem.W.keepIn K (.ref f_doget) = true)
    (a_doput : PySem.W.nsIn K mainGlobals "do_put" = some (some (.ref f_doput)))
    (l_doput : K.lookup f_doput = some ⟨oc_doput, od_doput, .func (PySem.W.fnOf "do_put" "do_put" (defArgs sD3) (defBody sD3) (defScope sD3) .none kV_doput dc_doput pm_doput an_doput cd_doput ct_doput), sl_doput⟩)
    (c_doput : PySem.W.codeIn K cd_doput "do_put" = true)
    (k_doput : PySem.W.keepIn K (.ref f_doput) = true)
    (a_doadd : PySem.W.nsIn K mainGlobals "do_add" = some (some (.ref f_doadd)))
    (l_doadd : K.lookup f_doadd = some ⟨oc_doadd, od_doadd, .func (PySem.W.fnOf "do_add" "do_add" (defArgs sD4) (defBody sD4) (defScope sD4) .none kV_doadd dc_doadd pm_doadd an_doadd cd_doadd ct_doadd), sl_doadd⟩)
    (c_doadd : PySem.W.codeIn K cd_doadd "do_add" = true)
    (k_doadd : PySem.W.keepIn K (.ref f_doadd) = true)
    (a_dosub : PySem.W.nsIn K mainGlobals "do_sub" = some (some (.ref f_dosub)))
    (l_dosub : K.lookup f_dosub = some ⟨oc_dosub, od_dosub, .func (PySem.W.fnOf "do_sub" "do_sub" (defArgs sD5) (defBody sD5) (defScope sD5) .none kV_dosub dc_dosub pm_dosub an_dosub cd_dosub ct_dosub), sl_dosub⟩)
    (c_dosub : PySem.W.codeIn K cd_dosub "do_sub" = true)
    (k_dosub : PySem.W.keepIn K (.ref f_dosub) = true)
    (a_doand : PySem.W.nsIn K mainGlobals "do_and" = some (some (.ref f_doand)))
    (l_doand : K.lookup f_doand = some ⟨oc_doand, od_doand, .func (PySem.W.fnOf "do_and" "do_and" (defArgs sD6) (defBody sD6) (defScope sD6) .none kV_doand dc_doand pm_doand an_doand cd_doand ct_doand), sl_doand⟩)
    (c_doand : PySem.W.codeIn K cd_doand "do_and" = true)
    (k_doand : PySem.W.keepIn K (.ref f_doand) = true)
    (a_doxor : PySem.W.nsIn K mainGlobals "do_xor" = some (some (.ref f_doxor)))
    (l_doxor : K.lookup f_doxor = some ⟨oc_doxor, od_doxor, .func (PySem.W.fnOf "do_xor" "do_xor" (defArgs sD7) (defBody sD7) (defScope sD7) .none kV_doxor dc_doxor pm_doxor an_doxor cd_doxor ct_doxor), sl_doxor⟩)
    (c_doxor : PySem.W.codeIn K cd_doxor "do_xor" = true)
    (k_doxor : PySem.W.keepIn K (.ref f_doxor) = true)
    (a_doputb : PySem.W.nsIn K mainGlobals "do_putb" = some (some (.ref f_doputb)))
    (l_doputb : K.lookup f_doputb = some ⟨oc_doputb, od_doputb, .func (PySem.W.fnOf "do_putb" "do_putb" (defArgs sD9) (defBody sD9) (defScope sD9) .none kV_doputb dc_doputb pm_doputb an_doputb cd_doputb ct_doputb), sl_doputb⟩)
    (c_doputb : PySem.W.codeIn K cd_doputb "do_putb" = true)
    (k_doputb : PySem.W.keepIn K (.ref f_doputb) = true)
    (a_dotob : PySem.W.nsIn K mainGlobals "do_tob" = some (some (.ref f_dotob)))
    (l_dotob : K.lookup f_dotob = some ⟨oc_dotob, od_dotob, .func (PySem.W.fnOf "do_tob" "do_tob" (defArgs sD10) (defBody sD10) (defScope sD10) .none kV_dotob dc_dotob pm_dotob an_dotob cd_dotob ct_dotob), sl_dotob⟩)
    (c_dotob : PySem.W.codeIn K cd_dotob "do_tob" = true)
    (k_dotob : PySem.W.keepIn K (.ref f_dotob) = true)
    (a_doswap : PySem.W.nsIn K mainGlobals "do_swap" = some (some (.ref f_doswap)))
    (l_doswap : K.lookup f_doswap = some ⟨oc_doswap, od_doswap, .func (PySem.W.fnOf "do_swap" "do_swap" (defArgs sD11) (defBody sD11) (defScope sD11) .none kV_doswap dc_doswap pm_doswap an_doswap cd_doswap ct_doswap), sl_doswap⟩)
    (c_doswap : PySem.W.codeIn K cd_doswap "do_swap" = true)
    (k_doswap : PySem.W.keepIn K (.ref f_doswap) = true)
    (a_dogo : PySem.W.nsIn K mainGlobals "do_go" = some (some (.ref f_dogo)))
    (l_dogo : K.lookup f_dogo = some ⟨oc_dogo, od_dogo, .func (PySem.W.fnOf "do_go" "do_go" (defArgs sD12) (defBody sD12) (defScope sD12) .none kV_dogo dc_dogo pm_dogo an_dogo cd_dogo ct_dogo), sl_dogo⟩)
    (c_dogo : PySem.W.codeIn K cd_dogo "do_go" = true)
    (k_dogo : PySem.W.keepIn K (.ref f_dogo) = true)
    (a_doifz : PySem.W.nsIn K mainGlobals "do_ifz" = some (some (.ref f_doifz)))
    (l_doifz : K.lookup f_doifz = some ⟨oc_doifz, od_doifz, .func (PySem.W.fnOf "do_ifz" "do_ifz" (defArgs sD13) (defBody sD13) (defScope sD13) .none kV_doifz dc_doifz pm_doifz an_doifz cd_doifz ct_doifz), sl_doifz⟩)
    (c_doifz : PySem.W.codeIn K cd_doifz "do_ifz" = true)
    (k_doifz : PySem.W.keepIn K (.ref f_doifz) = true)
    (a_doifn : PySem.W.nsIn K mainGlobals "do_ifn" = some (some (.ref f_doifn)))
    (l_doifn : K.lookup f_doifn = some ⟨oc_doifn, od_doifn, .func (PySem.W.fnOf "do_ifn" "do_ifn" (defArgs sD14) (defBody sD14) (defScope sD14) .none kV_doifn dc_doifn pm_doifn an_doifn cd_doifn ct_doifn), sl_doifn⟩)
    (c_doifn : PySem.W.codeIn K cd_doifn "do_ifn" = true)
    (k_doifn : PySem.W.keepIn K (.ref f_doifn) = true)
    (a_docall : PySem.W.nsIn K mainGlobals "do_call" = some (some (.ref f_docall)))
    (l_docall : K.lookup f_docall = some ⟨oc_docall, od_docall, .func (PySem.W.fnOf "do_call" "do_call" (defArgs sD15) (defBody sD15) (defScope sD15) .none kV_docall dc_docall pm_docall an_docall cd_docall ct_docall), sl_docall⟩)
    (c_docall : PySem.W.codeIn K cd_docall "do_call" = true)
    (k_docall : PySem.W.keepIn K (.ref f_docall) = true)
    (a_doret : PySem.W.nsIn K mainGlobals "do_ret" = some (some (.ref f_doret)))
    (l_doret : K.lookup f_doret = some ⟨oc_doret, od_doret, .func (PySem.W.fnOf "do_ret" "do_ret" (defArgs sD16) (defBody sD16) (defScope sD16) .none kV_doret dc_doret pm_doret an_doret cd_doret ct_doret), sl_doret⟩)
    (c_doret : PySem.W.codeIn K cd_doret "do_ret" = true)
    (k_doret : PySem.W.keepIn K (.ref f_doret) = true)
    (a_dopush : PySem.W.nsIn K mainGlobals "do_push" = some (some (.ref f_dopush)))
    (l_dopush : K.lookup f_dopush = some ⟨oc_dopush, od_dopush, .func (PySem.W.fnOf "do_push" "do_push" (defArgs sD17) (defBody sD17) (defScope sD17) .none kV_dopush dc_dopush pm_dopush an_dopush cd_dopush ct_dopush), sl_dopush⟩)
    (c_dopush : PySem.W.codeIn K cd_dopush "do_push" = true)
    (k_dopush : PySem.W.keepIn K (.ref f_dopush) = true)
    (a_dopop : PySem.W.nsIn K mainGlobals "do_pop" = some (some (.ref f_dopop)))
    (l_dopop : K.lookup f_dopop = some ⟨oc_dopop, od_dopop, .func (PySem.W.fnOf "do_pop" "do_pop" (defArgs sD18) (defBody sD18) (defScope sD18) .none kV_dopop dc_dopop pm_dopop an_dopop cd_dopop ct_dopop), sl_dopop⟩)
    (c_dopop : PySem.W.codeIn K cd_dopop "do_pop" = true)
    (k_dopop : PySem.W.keepIn K (.ref f_dopop) = true)
    (a_dosleep : PySem.W.nsIn K mainGlobals "do_sleep" = some (some (.ref f_dosleep)))
    (l_dosleep : K.lookup f_dosleep = some ⟨oc_dosleep, od_dosleep, .func (PySem.W.fnOf "do_sleep" "do_sleep" (defArgs sD19) (defBody sD19) (defScope sD19) .none kV_dosleep dc_dosleep pm_dosleep an_dosleep cd_dosleep ct_dosleep), sl_dosleep⟩)
    (c_dosleep : PySem.W.codeIn K cd_dosleep "do_sleep" = true)
    (k_dosleep : PySem.W.keepIn K (.ref f_dosleep) = true)
    (a_dolet : PySem.W.nsIn K mainGlobals "do_let" = some (some (.ref f_dolet)))
    (l_dolet : K.lookup f_dolet = some ⟨oc_dolet, od_dolet, .func (PySem.W.fnOf "do_let" "do_let" (defArgs sD20) (defBody sD20) (defScope sD20) .none kV_dolet dc_dolet pm_dolet an_dolet cd_dolet ct_dolet), sl_dolet⟩)
    (c_dolet : PySem.W.codeIn K cd_dolet "do_let" = true)
    (k_dolet : PySem.W.keepIn K (.ref f_dolet) = true)
    (a_doback : PySem.W.nsIn K mainGlobals "do_back" = some (some (.ref f_doback)))
    (l_doback : K.lookup f_doback = some ⟨oc_doback, od_doback, .func (PySem.W.fnOf "do_back" "do_back" (defArgs sD21) (defBody sD21) (defScope sD21) .none kV_doback dc_doback pm_doback an_doback cd_doback ct_doback), sl_doback⟩)
    (c_doback : PySem.W.codeIn K cd_doback "do_back" = true)
    (k_doback : PySem.W.keepIn K (.ref f_doback) = true)
    (a_dohalf : PySem.W.nsIn K mainGlobals "do_half" = some (some (.ref f_dohalf)))
    (l_dohalf : K.lookup f_dohalf = some ⟨oc_dohalf, od_dohalf, .func (PySem.W.fnOf "do_half" "do_half" (defArgs sD22) (defBody sD22) (defScope sD22) .none kV_dohalf dc_dohalf pm_dohalf an_dohalf cd_dohalf ct_dohalf), sl_dohalf⟩)
    (c_dohalf : PySem.W.codeIn K cd_dohalf "do_half" = true)
    (k_dohalf : PySem.W.keepIn K (.ref f_dohalf) = true)
    (a_lawdigits : PySem.W.nsIn K mainGlobals "_law_digits" = some (some (.ref f_lawdigits)))
    (l_lawdigits : K.lookup f_lawdigits = some ⟨oc_lawdigits, od_lawdigits, .func (PySem.W.fnOf "_law_digits" "_law_digits" (defArgs sLdig) (defBody sLdig) (defScope sLdig) .none kV_lawdigits dc_lawdigits pm_lawdigits an_lawdigits cd_lawdigits ct_lawdigits), sl_lawdigits⟩)
    (c_lawdigits : PySem.W.codeIn K cd_lawdigits "_law_digits" = true)
    (k_lawdigits : PySem.W.keepIn K (.ref f_lawdigits) = true)
    (a_lawnew : PySem.W.nsIn K mainGlobals "_law_new" = some (some (.ref f_lawnew)))
    (l_lawnew : K.lookup f_lawnew = some ⟨oc_lawnew, od_lawnew, .func (PySem.W.fnOf "_law_new" "_law_new" (defArgs sLnew) (defBody sLnew) (defScope sLnew) .none kV_lawnew dc_lawnew pm_lawnew an_lawnew cd_lawnew ct_lawnew), sl_lawnew⟩)
    (c_lawnew : PySem.W.codeIn K cd_lawnew "_law_new" = true)
    (k_lawnew : PySem.W.keepIn K (.ref f_lawnew) = true)
    (a_lawgoby : PySem.W.nsIn K mainGlobals "_law_go_by" = some (some (.ref f_lawgoby)))
    (l_lawgoby : K.lookup f_lawgoby = some ⟨oc_lawgoby, od_lawgoby, .func (PySem.W.fnOf "_law_go_by" "_law_go_by" (defArgs sLgoby) (defBody sLgoby) (defScope sLgoby) .none kV_lawgoby dc_lawgoby pm_lawgoby an_lawgoby cd_lawgoby ct_lawgoby), sl_lawgoby⟩)
    (c_lawgoby : PySem.W.codeIn K cd_lawgoby "_law_go_by" = true)
    (k_lawgoby : PySem.W.keepIn K (.ref f_lawgoby) = true)
    (a_lawbarred : PySem.W.nsIn K mainGlobals "_law_barred" = some (some (.ref f_lawbarred)))
    (l_lawbarred : K.lookup f_lawbarred = some ⟨oc_lawbarred, od_lawbarred, .func (PySem.W.fnOf "_law_barred" "_law_barred" (defArgs sLbar) (defBody sLbar) (defScope sLbar) .none kV_lawbarred dc_lawbarred pm_lawbarred an_lawbarred cd_lawbarred ct_lawbarred), sl_lawbarred⟩)
    (c_lawbarred : PySem.W.codeIn K cd_lawbarred "_law_barred" = true)
    (k_lawbarred : PySem.W.keepIn K (.ref f_lawbarred) = true)
    (a_lawlay : PySem.W.nsIn K mainGlobals "_law_lay" = some (some (.ref f_lawlay)))
    (l_lawlay : K.lookup f_lawlay = some ⟨oc_lawlay, od_lawlay, .func (PySem.W.fnOf "_law_lay" "_law_lay" (defArgs sLlay) (defBody sLlay) (defScope sLlay) .none kV_lawlay dc_lawlay pm_lawlay an_lawlay cd_lawlay ct_lawlay), sl_lawlay⟩)
    (c_lawlay : PySem.W.codeIn K cd_lawlay "_law_lay" = true)
    (k_lawlay : PySem.W.keepIn K (.ref f_lawlay) = true)
    (a_lawhalts : PySem.W.nsIn K mainGlobals "_law_halts" = some (some (.ref f_lawhalts)))
    (l_lawhalts : K.lookup f_lawhalts = some ⟨oc_lawhalts, od_lawhalts, .func (PySem.W.fnOf "_law_halts" "_law_halts" (defArgs sLhalts) (defBody sLhalts) (defScope sLhalts) .none kV_lawhalts dc_lawhalts pm_lawhalts an_lawhalts cd_lawhalts ct_lawhalts), sl_lawhalts⟩)
    (c_lawhalts : PySem.W.codeIn K cd_lawhalts "_law_halts" = true)
    (k_lawhalts : PySem.W.keepIn K (.ref f_lawhalts) = true)
    (a_lawonce : PySem.W.nsIn K mainGlobals "_law_once" = some (some (.ref f_lawonce)))
    (l_lawonce : K.lookup f_lawonce = some ⟨oc_lawonce, od_lawonce, .func (PySem.W.fnOf "_law_once" "_law_once" (defArgs sLonce) (defBody sLonce) (defScope sLonce) .none kV_lawonce dc_lawonce pm_lawonce an_lawonce cd_lawonce ct_lawonce), sl_lawonce⟩)
    (c_lawonce : PySem.W.codeIn K cd_lawonce "_law_once" = true)
    (k_lawonce : PySem.W.keepIn K (.ref f_lawonce) = true)
    (a_lawdeed : PySem.W.nsIn K mainGlobals "_law_deed" = some (some (.ref f_lawdeed)))
    (l_lawdeed : K.lookup f_lawdeed = some ⟨oc_lawdeed, od_lawdeed, .func (PySem.W.fnOf "_law_deed" "_law_deed" (defArgs sLdeed) (defBody sLdeed) (defScope sLdeed) .none kV_lawdeed dc_lawdeed pm_lawdeed an_lawdeed cd_lawdeed ct_lawdeed), sl_lawdeed⟩)
    (c_lawdeed : PySem.W.codeIn K cd_lawdeed "_law_deed" = true)
    (k_lawdeed : PySem.W.keepIn K (.ref f_lawdeed) = true)
    (a_lawdone : PySem.W.nsIn K mainGlobals "_law_done" = some (some (.ref f_lawdone)))
    (l_lawdone : K.lookup f_lawdone = some ⟨oc_lawdone, od_lawdone, .func (PySem.W.fnOf "_law_done" "_law_done" (defArgs sLdone) (defBody sLdone) (defScope sLdone) .none kV_lawdone dc_lawdone pm_lawdone an_lawdone cd_lawdone ct_lawdone), sl_lawdone⟩)
    (c_lawdone : PySem.W.codeIn K cd_lawdone "_law_done" = true)
    (k_lawdone : PySem.W.keepIn K (.ref f_lawdone) = true)
    (a_lawsame : PySem.W.nsIn K mainGlobals "_law_same" = some (some (.ref f_lawsame)))
    (l_lawsame : K.lookup f_lawsame = some ⟨oc_lawsame, od_lawsame, .func (PySem.W.fnOf "_law_same" "_law_same" (defArgs sLsame) (defBody sLsame) (defScope sLsame) .none kV_lawsame dc_lawsame pm_lawsame an_lawsame cd_lawsame ct_lawsame), sl_lawsame⟩)
    (c_lawsame : PySem.W.codeIn K cd_lawsame "_law_same" = true)
    (k_lawsame : PySem.W.keepIn K (.ref f_lawsame) = true)
    (a_lawlikewords : PySem.W.nsIn K mainGlobals "_law_like_words" = some (some (.ref f_lawlikewords)))
    (l_lawlikewords : K.lookup f_lawlikewords = some ⟨oc_lawlikewords, od_lawlikewords, .func (PySem.W.fnOf "_law_like_words" "_law_like_words" (defArgs sLlike) (defBody sLlike) (defScope sLlike) .none kV_lawlikewords dc_lawlikewords pm_lawlikewords an_lawlikewords cd_lawlikewords ct_lawlikewords), sl_lawlikewords⟩)
    (c_lawlikewords : PySem.W.codeIn K cd_lawlikewords "_law_like_words" = true)
    (k_lawlikewords : PySem.W.keepIn K (.ref f_lawlikewords) = true)
    (a_lawwordby : PySem.W.nsIn K mainGlobals "_law_word_by" = some (some (.ref f_lawwordby)))
    (l_lawwordby : K.lookup f_lawwordby = some ⟨oc_lawwordby, od_lawwordby, .func (PySem.W.fnOf "_law_word_by" "_law_word_by" (defArgs sLwby) (defBody sLwby) (defScope sLwby) .none kV_lawwordby dc_lawwordby pm_lawwordby an_lawwordby cd_lawwordby ct_lawwordby), sl_lawwordby⟩)
    (c_lawwordby : PySem.W.codeIn K cd_lawwordby "_law_word_by" = true)
    (k_lawwordby : PySem.W.keepIn K (.ref f_lawwordby) = true)
    (a_lawdrawnimage : PySem.W.nsIn K mainGlobals "_law_drawn_image" = some (some (.ref f_lawdrawnimage)))
    (l_lawdrawnimage : K.lookup f_lawdrawnimage = some ⟨oc_lawdrawnimage, od_lawdrawnimage, .func (PySem.W.fnOf "_law_drawn_image" "_law_drawn_image" (defArgs sLdimg) (defBody sLdimg) (defScope sLdimg) .none kV_lawdrawnimage dc_lawdrawnimage pm_lawdrawnimage an_lawdrawnimage cd_lawdrawnimage ct_lawdrawnimage), sl_lawdrawnimage⟩)
    (c_lawdrawnimage : PySem.W.codeIn K cd_lawdrawnimage "_law_drawn_image" = true)
    (k_lawdrawnimage : PySem.W.keepIn K (.ref f_lawdrawnimage) = true)
    (a_lawdrawnline : PySem.W.nsIn K mainGlobals "_law_drawn_line" = some (some (.ref f_lawdrawnline)))
    (l_lawdrawnline : K.lookup f_lawdrawnline = some ⟨oc_lawdrawnline, od_lawdrawnline, .func (PySem.W.fnOf "_law_drawn_line" "_law_drawn_line" (defArgs sLdlin) (defBody sLdlin) (defScope sLdlin) .none kV_lawdrawnline dc_lawdrawnline pm_lawdrawnline an_lawdrawnline cd_lawdrawnline ct_lawdrawnline), sl_lawdrawnline⟩)
    (c_lawdrawnline : PySem.W.codeIn K cd_lawdrawnline "_law_drawn_line" = true)
    (k_lawdrawnline : PySem.W.keepIn K (.ref f_lawdrawnline) = true)
    (a_lawowntwin : PySem.W.nsIn K mainGlobals "_law_own_twin" = some (some (.ref f_lawowntwin)))
    (l_lawowntwin : K.lookup f_lawowntwin = some ⟨oc_lawowntwin, od_lawowntwin, .func (PySem.W.fnOf "_law_own_twin" "_law_own_twin" (defArgs sLown) (defBody sLown) (defScope sLown) .none kV_lawowntwin dc_lawowntwin pm_lawowntwin an_lawowntwin cd_lawowntwin ct_lawowntwin), sl_lawowntwin⟩)
    (c_lawowntwin : PySem.W.codeIn K cd_lawowntwin "_law_own_twin" = true)
    (k_lawowntwin : PySem.W.keepIn K (.ref f_lawowntwin) = true)
    (a_law : PySem.W.nsIn K mainGlobals "law" = some (some (.ref f_law)))
    (l_law : K.lookup f_law = some ⟨oc_law, od_law, .func (PySem.W.fnOf "law" "law" (defArgs sLaw) (defBody sLaw) (defScope sLaw) .none kV_law dc_law pm_law an_law cd_law ct_law), sl_law⟩)
    (c_law : PySem.W.codeIn K cd_law "law" = true)
    (k_law : PySem.W.keepIn K (.ref f_law) = true)
    (aCM : PySem.W.nsIn K mainGlobals "Memory" = some (some (.ref CM)))
    (a_CMinit : PySem.W.findIn K (.ref CM) "__init__" = some (some (.ref f_CMinit)))
    (i_CMinit : PySem.W.isFn K (.ref f_CMinit) = true)
    (l_CMinit : K.lookup f_CMinit = some ⟨oc_CMinit, od_CMinit, .func (PySem.W.fnOf "__init__" "Memory.__init__" (defArgs sCmem) (defBody sCmem) (defScope sCmem) .none kV_CMinit dc_CMinit pm_CMinit an_CMinit cd_CMinit ct_CMinit), sl_CMinit⟩)
    (c_CMinit : PySem.W.codeIn K cd_CMinit "Memory.__init__" = true)
    (k_CMinit : PySem.W.keepIn K (.ref f_CMinit) = true)
    (a_CMwordat : PySem.W.findIn K (.ref CM) "word_at" = some (some (.ref f_CMwordat)))
    (i_CMwordat : PySem.W.isFn K (.ref f_CMwordat) = true)
    (l_CMwordat : K.lookup f_CMwordat = some ⟨oc_CMwordat, od_CMwordat, .func (PySem.W.fnOf "word_at" "Memory.word_at" (defArgs sMat) (defBody sMat) (defScope sMat) .none kV_CMwordat dc_CMwordat pm_CMwordat an_CMwordat cd_CMwordat ct_CMwordat), sl_CMwordat⟩)
    (c_CMwordat : PySem.W.codeIn K cd_CMwordat "Memory.word_at" = true)
    (k_CMwordat : PySem.W.keepIn K (.ref f_CMwordat) = true)
    (a_CMread : PySem.W.findIn K (.ref CM) "read" = some (some (.ref f_CMread)))
    (i_CMread : PySem.W.isFn K (.ref f_CMread) = true)
    (l_CMread : K.lookup f_CMread = some ⟨oc_CMread, od_CMread, .func (PySem.W.fnOf "read" "Memory.read" (defArgs sMread) (defBody sMread) (defScope sMread) .none kV_CMread dc_CMread pm_CMread an_CMread cd_CMread ct_CMread), sl_CMread⟩)
    (c_CMread : PySem.W.codeIn K cd_CMread "Memory.read" = true)
    (k_CMread : PySem.W.keepIn K (.ref f_CMread) = true)
    (a_CMput : PySem.W.findIn K (.ref CM) "put" = some (some (.ref f_CMput)))
    (i_CMput : PySem.W.isFn K (.ref f_CMput) = true)
    (l_CMput : K.lookup f_CMput = some ⟨oc_CMput, od_CMput, .func (PySem.W.fnOf "put" "Memory.put" (defArgs sMput) (defBody sMput) (defScope sMput) .none kV_CMput dc_CMput pm_CMput an_CMput cd_CMput ct_CMput), sl_CMput⟩)
    (c_CMput : PySem.W.codeIn K cd_CMput "Memory.put" = true)
    (k_CMput : PySem.W.keepIn K (.ref f_CMput) = true)
    (a_CMcalledflags : PySem.W.findIn K (.ref CM) "called_flags" = some (some (.ref f_CMcalledflags)))
    (i_CMcalledflags : PySem.W.isFn K (.ref f_CMcalledflags) = true)
    (l_CMcalledflags : K.lookup f_CMcalledflags = some ⟨oc_CMcalledflags, od_CMcalledflags, .func (PySem.W.fnOf "called_flags" "Memory.called_flags" (defArgs sMcalled) (defBody sMcalled) (defScope sMcalled) .none kV_CMcalledflags dc_CMcalledflags pm_CMcalledflags an_CMcalledflags cd_CMcalledflags ct_CMcalledflags), sl_CMcalledflags⟩)
    (c_CMcalledflags : PySem.W.codeIn K cd_CMcalledflags "Memory.called_flags" = true)
    (k_CMcalledflags : PySem.W.keepIn K (.ref f_CMcalledflags) = true)
    (a_CMtakeline : PySem.W.findIn K (.ref CM) "take_line" = some (some (.ref f_CMtakeline)))
    (i_CMtakeline : PySem.W.isFn K (.ref f_CMtakeline) = true)
    (l_CMtakeline : K.lookup f_CMtakeline = some ⟨oc_CMtakeline, od_CMtakeline, .func (PySem.W.fnOf "take_line" "Memory.take_line" (defArgs sMtake) (defBody sMtake) (defScope sMtake) .none kV_CMtakeline dc_CMtakeline pm_CMtakeline an_CMtakeline cd_CMtakeline ct_CMtakeline), sl_CMtakeline⟩)
    (c_CMtakeline : PySem.W.codeIn K cd_CMtakeline "Memory.take_line" = true)
    (k_CMtakeline : PySem.W.keepIn K (.ref f_CMtakeline) = true)
    (a_CMgotimer : PySem.W.findIn K (.ref CM) "go_timer" = some (some (.ref f_CMgotimer)))
    (i_CMgotimer : PySem.W.isFn K (.ref f_CMgotimer) = true)
    (l_CMgotimer : K.lookup f_CMgotimer = some ⟨oc_CMgotimer, od_CMgotimer, .func (PySem.W.fnOf "go_timer" "Memory.go_timer" (defArgs sMtimer) (defBody sMtimer) (defScope sMtimer) .none kV_CMgotimer dc_CMgotimer pm_CMgotimer an_CMgotimer cd_CMgotimer ct_CMgotimer), sl_CMgotimer⟩)
    (c_CMgotimer : PySem.W.codeIn K cd_CMgotimer "Memory.go_timer" = true)
    (k_CMgotimer : PySem.W.keepIn K (.ref f_CMgotimer) = true)
    (a_CMstandas : PySem.W.findIn K (.ref CM) "stand_as" = some (some (.ref f_CMstandas)))
    (i_CMstandas : PySem.W.isFn K (.ref f_CMstandas) = true)
    (l_CMstandas : K.lookup f_CMstandas = some ⟨oc_CMstandas, od_CMstandas, .func (PySem.W.fnOf "stand_as" "Memory.stand_as" (defArgs sMmstd) (defBody sMmstd) (defScope sMmstd) .none kV_CMstandas dc_CMstandas pm_CMstandas an_CMstandas cd_CMstandas ct_CMstandas), sl_CMstandas⟩)
    (c_CMstandas : PySem.W.codeIn K cd_CMstandas "Memory.stand_as" = true)
    (k_CMstandas : PySem.W.keepIn K (.ref f_CMstandas) = true)
    (pgCM : PySem.W.plainGet K CM Str.empty = true)
    (hdCM : PySem.W.hasDictIn K CM = true)
    (poCM : PySem.W.plainOver K CM = true)
    (saCM : PySem.W.findIn K (.ref CM) "__setattr__" = some (some (.builtin "object.__setattr__")))
    (mkCM : PySem.W.makesIn K CM = true)
    (kcCM : PySem.W.keepIn K (.ref CM) = true)
    (aCB : PySem.W.nsIn K mainGlobals "Board" = some (some (.ref CB)))
    (a_CBinit : PySem.W.findIn K (.ref CB) "__init__" = some (some (.ref f_CBinit)))
    (i_CBinit : PySem.W.isFn K (.ref f_CBinit) = true)
    (l_CBinit : K.lookup f_CBinit = some ⟨oc_CBinit, od_CBinit, .func (PySem.W.fnOf "__init__" "Board.__init__" (defArgs sCboard) (defBody sCboard) (defScope sCboard) .none kV_CBinit dc_CBinit pm_CBinit an_CBinit cd_CBinit ct_CBinit), sl_CBinit⟩)
    (c_CBinit : PySem.W.codeIn K cd_CBinit "Board.__init__" = true)
    (k_CBinit : PySem.W.keepIn K (.ref f_CBinit) = true)
    (a_CBcoming : PySem.W.findIn K (.ref CB) "coming" = some (some (.ref f_CBcoming)))
    (i_CBcoming : PySem.W.isFn K (.ref f_CBcoming) = true)
    (l_CBcoming : K.lookup f_CBcoming = some ⟨oc_CBcoming, od_CBcoming, .func (PySem.W.fnOf "coming" "Board.coming" (defArgs sMcoming) (defBody sMcoming) (defScope sMcoming) .none kV_CBcoming dc_CBcoming pm_CBcoming an_CBcoming cd_CBcoming ct_CBcoming), sl_CBcoming⟩)
    (c_CBcoming : PySem.W.codeIn K cd_CBcoming "Board.coming" = true)
    (k_CBcoming : PySem.W.keepIn K (.ref f_CBcoming) = true)
    (a_CBturn : PySem.W.findIn K (.ref CB) "turn" = some (some (.ref f_CBturn)))
    (i_CBturn : PySem.W.isFn K (.ref f_CBturn) = true)
    (l_CBturn : K.lookup f_CBturn = some ⟨oc_CBturn, od_CBturn, .func (PySem.W.fnOf "turn" "Board.turn" (defArgs sMturn) (defBody sMturn) (defScope sMturn) .none kV_CBturn dc_CBturn pm_CBturn an_CBturn cd_CBturn ct_CBturn), sl_CBturn⟩)
    (c_CBturn : PySem.W.codeIn K cd_CBturn "Board.turn" = true)
    (k_CBturn : PySem.W.keepIn K (.ref f_CBturn) = true)
    (a_CBbegininterrupt : PySem.W.findIn K (.ref CB) "begin_interrupt" = some (some (.ref f_CBbegininterrupt)))
    (i_CBbegininterrupt : PySem.W.isFn K (.ref f_CBbegininterrupt) = true)
    (l_CBbegininterrupt : K.lookup f_CBbegininterrupt = some ⟨oc_CBbegininterrupt, od_CBbegininterrupt, .func (PySem.W.fnOf "begin_interrupt" "Board.begin_interrupt" (defArgs sMbegin) (defBody sMbegin) (defScope sMbegin) .none kV_CBbegininterrupt dc_CBbegininterrupt pm_CBbegininterrupt an_CBbegininterrupt cd_CBbegininterrupt ct_CBbegininterrupt), sl_CBbegininterrupt⟩)
    (c_CBbegininterrupt : PySem.W.codeIn K cd_CBbegininterrupt "Board.begin_interrupt" = true)
    (k_CBbegininterrupt : PySem.W.keepIn K (.ref f_CBbegininterrupt) = true)
    (a_CBdodeed : PySem.W.findIn K (.ref CB) "do_deed" = some (some (.ref f_CBdodeed)))
    (i_CBdodeed : PySem.W.isFn K (.ref f_CBdodeed) = true)
    (l_CBdodeed : K.lookup f_CBdodeed = some ⟨oc_CBdodeed, od_CBdodeed, .func (PySem.W.fnOf "do_deed" "Board.do_deed" (defArgs sMdo) (defBody sMdo) (defScope sMdo) .none kV_CBdodeed dc_CBdodeed pm_CBdodeed an_CBdodeed cd_CBdodeed ct_CBdodeed), sl_CBdodeed⟩)
    (c_CBdodeed : PySem.W.codeIn K cd_CBdodeed "Board.do_deed" = true)
    (k_CBdodeed : PySem.W.keepIn K (.ref f_CBdodeed) = true)
    (a_CBmaytouch : PySem.W.findIn K (.ref CB) "may_touch" = some (some (.ref f_CBmaytouch)))
    (i_CBmaytouch : PySem.W.isFn K (.ref f_CBmaytouch) = true)
    (l_CBmaytouch : K.lookup f_CBmaytouch = some ⟨oc_CBmaytouch, od_CBmaytouch, .func (PySem.W.fnOf "may_touch" "Board.may_touch" (defArgs sMmay) (defBody sMmay) (defScope sMmay) .none kV_CBmaytouch dc_CBmaytouch pm_CBmaytouch an_CBmaytouch cd_CBmaytouch ct_CBmaytouch), sl_CBmaytouch⟩)
    (c_CBmaytouch : PySem.W.codeIn K cd_CBmaytouch "Board.may_touch" = true)
    (k_CBmaytouch : PySem.W.keepIn K (.ref f_CBmaytouch) = true)
    (a_CBstop : PySem.W.findIn K (.ref CB) "stop" = some (some (.ref f_CBstop)))
    (i_CBstop : PySem.W.isFn K (.ref f_CBstop) = true)
    (l_CBstop : K.lookup f_CBstop = some ⟨oc_CBstop, od_CBstop, .func (PySem.W.fnOf "stop" "Board.stop" (defArgs sMstop) (defBody sMstop) (defScope sMstop) .none kV_CBstop dc_CBstop pm_CBstop an_CBstop cd_CBstop ct_CBstop), sl_CBstop⟩)
    (c_CBstop : PySem.W.codeIn K cd_CBstop "Board.stop" = true)
    (k_CBstop : PySem.W.keepIn K (.ref f_CBstop) = true)
    (a_CBputbyturn : PySem.W.findIn K (.ref CB) "put_by_turn" = some (some (.ref f_CBputbyturn)))
    (i_CBputbyturn : PySem.W.isFn K (.ref f_CBputbyturn) = true)
    (l_CBputbyturn : K.lookup f_CBputbyturn = some ⟨oc_CBputbyturn, od_CBputbyturn, .func (PySem.W.fnOf "put_by_turn" "Board.put_by_turn" (defArgs sMpbt) (defBody sMpbt) (defScope sMpbt) .none kV_CBputbyturn dc_CBputbyturn pm_CBputbyturn an_CBputbyturn cd_CBputbyturn ct_CBputbyturn), sl_CBputbyturn⟩)
    (c_CBputbyturn : PySem.W.codeIn K cd_CBputbyturn "Board.put_by_turn" = true)
    (k_CBputbyturn : PySem.W.keepIn K (.ref f_CBputbyturn) = true)
    (a_CBputword : PySem.W.findIn K (.ref CB) "put_word" = some (some (.ref f_CBputword)))
    (i_CBputword : PySem.W.isFn K (.ref f_CBputword) = true)
    (l_CBputword : K.lookup f_CBputword = some ⟨oc_CBputword, od_CBputword, .func (PySem.W.fnOf "put_word" "Board.put_word" (defArgs sMpw) (defBody sMpw) (defScope sMpw) .none kV_CBputword dc_CBputword pm_CBputword an_CBputword cd_CBputword ct_CBputword), sl_CBputword⟩)
    (c_CBputword : PySem.W.codeIn K cd_CBputword "Board.put_word" = true)
    (k_CBputword : PySem.W.keepIn K (.ref f_CBputword) = true)
    (a_CBpassbeats : PySem.W.findIn K (.ref CB) "pass_beats" = some (some (.ref f_CBpassbeats)))
    (i_CBpassbeats : PySem.W.isFn K (.ref f_CBpassbeats) = true)
    (l_CBpassbeats : K.lookup f_CBpassbeats = some ⟨oc_CBpassbeats, od_CBpassbeats, .func (PySem.W.fnOf "pass_beats" "Board.pass_beats" (defArgs sMpass) (defBody sMpass) (defScope sMpass) .none kV_CBpassbeats dc_CBpassbeats pm_CBpassbeats an_CBpassbeats cd_CBpassbeats ct_CBpassbeats), sl_CBpassbeats⟩)
    (c_CBpassbeats : PySem.W.codeIn K cd_CBpassbeats "Board.pass_beats" = true)
    (k_CBpassbeats : PySem.W.keepIn K (.ref f_CBpassbeats) = true)
    (a_CBcomeline : PySem.W.findIn K (.ref CB) "come_line" = some (some (.ref f_CBcomeline)))
    (i_CBcomeline : PySem.W.isFn K (.ref f_CBcomeline) = true)
    (l_CBcomeline : K.lookup f_CBcomeline = some ⟨oc_CBcomeline, od_CBcomeline, .func (PySem.W.fnOf "come_line" "Board.come_line" (defArgs sMcome) (defBody sMcome) (defScope sMcome) .none kV_CBcomeline dc_CBcomeline pm_CBcomeline an_CBcomeline cd_CBcomeline ct_CBcomeline), sl_CBcomeline⟩)
    (c_CBcomeline : PySem.W.codeIn K cd_CBcomeline "Board.come_line" = true)
    (k_CBcomeline : PySem.W.keepIn K (.ref f_CBcomeline) = true)
    (a_CBtwin : PySem.W.findIn K (.ref CB) "twin" = some (some (.ref f_CBtwin)))
    (i_CBtwin : PySem.W.isFn K (.ref f_CBtwin) = true)
    (l_CBtwin : K.lookup f_CBtwin = some ⟨oc_CBtwin, od_CBtwin, .func (PySem.W.fnOf "twin" "Board.twin" (defArgs sMtwin) (defBody sMtwin) (defScope sMtwin) .none kV_CBtwin dc_CBtwin pm_CBtwin an_CBtwin cd_CBtwin ct_CBtwin), sl_CBtwin⟩)
    (c_CBtwin : PySem.W.codeIn K cd_CBtwin "Board.twin" = true)
    (k_CBtwin : PySem.W.keepIn K (.ref f_CBtwin) = true)
    (a_CBstandas : PySem.W.findIn K (.ref CB) "stand_as" = some (some (.ref f_CBstandas)))
    (i_CBstandas : PySem.W.isFn K (.ref f_CBstandas) = true)
    (l_CBstandas : K.lookup f_CBstandas = some ⟨oc_CBstandas, od_CBstandas, .func (PySem.W.fnOf "stand_as" "Board.stand_as" (defArgs sMbstd) (defBody sMbstd) (defScope sMbstd) .none kV_CBstandas dc_CBstandas pm_CBstandas an_CBstandas cd_CBstandas ct_CBstandas), sl_CBstandas⟩)
    (c_CBstandas : PySem.W.codeIn K cd_CBstandas "Board.stand_as" = true)
    (k_CBstandas : PySem.W.keepIn K (.ref f_CBstandas) = true)
    (pgCB : PySem.W.plainGet K CB Str.empty = true)
    (hdCB : PySem.W.hasDictIn K CB = true)
    (poCB : PySem.W.plainOver K CB = true)
    (saCB : PySem.W.findIn K (.ref CB) "__setattr__" = some (some (.builtin "object.__setattr__")))
    (mkCB : PySem.W.makesIn K CB = true)
    (kcCB : PySem.W.keepIn K (.ref CB) = true)
    (n_registers : PySem.W.findIn K (.ref CB) "registers" = some none)
    (n_zero : PySem.W.findIn K (.ref CB) "zero" = some none)
    (n_lets : PySem.W.findIn K (.ref CB) "lets" = some none)
    (n_asleep : PySem.W.findIn K (.ref CB) "asleep" = some none)
    (n_beat : PySem.W.findIn K (.ref CB) "beat" = some none)
    (n_stopped : PySem.W.findIn K (.ref CB) "stopped" = some none)
    (n_sent : PySem.W.findIn K (.ref CB) "sent" = some none)
    (n_memory : PySem.W.findIn K (.ref CB) "memory" = some none)
    (n_line : PySem.W.findIn K (.ref CB) "line" = some none)
    (n_line_at : PySem.W.findIn K (.ref CB) "line_at" = some none)
    (n_touched : PySem.W.findIn K (.ref CB) "touched" = some none)
    (n_did : PySem.W.findIn K (.ref CB) "did" = some none)
    (n_bend : PySem.W.findIn K (.ref CB) "bend" = some none)
    (n_words : PySem.W.findIn K (.ref CM) "words" = some none)
    (n_swapped : PySem.W.findIn K (.ref CM) "swapped" = some none)
    (g_FLASH_END : PySem.W.nsIn K mainGlobals "FLASH_END" = some (some (.int 512 t_FLASH_END)))
    (g_RAM_END : PySem.W.nsIn K mainGlobals "RAM_END" = some (some (.int 768 t_RAM_END)))
    (g_PLACES_END : PySem.W.nsIn K mainGlobals "PLACES_END" = some (some (.int 774 t_PLACES_END)))
    (g_COUNT : PySem.W.nsIn K mainGlobals "COUNT" = some (some (.int 768 t_COUNT)))
    (g_TOP : PySem.W.nsIn K mainGlobals "TOP" = some (some (.int 769 t_TOP)))
    (g_FLAGS : PySem.W.nsIn K mainGlobals "FLAGS" = some (some (.int 770 t_FLAGS)))
    (g_MASK : PySem.W.nsIn K mainGlobals "MASK" = some (some (.int 771 t_MASK)))
    (g_LINE_IN : PySem.W.nsIn K mainGlobals "LINE_IN" = some (some (.int 772 t_LINE_IN)))
    (g_LINE_OUT : PySem.W.nsIn K mainGlobals "LINE_OUT" = some (some (.int 773 t_LINE_OUT)))
    (g_TIMER_FLAG : PySem.W.nsIn K mainGlobals "TIMER_FLAG" = some (some (.int 1 t_TIMER_FLAG)))
    (g_LINE_FLAG : PySem.W.nsIn K mainGlobals "LINE_FLAG" = some (some (.int 2 t_LINE_FLAG)))
    (g_WORD_MOST : PySem.W.nsIn K mainGlobals "WORD_MOST" = some (some (.int 65535 t_WORD_MOST)))
    (g_ERASED : PySem.W.nsIn K mainGlobals "ERASED" = some (some (.int 65535 t_ERASED)))
    (g_X_SPAN : PySem.W.nsIn K mainGlobals "X_SPAN" = some (some (.int 1024 t_X_SPAN)))
    (g_LINE_MOST : PySem.W.nsIn K mainGlobals "LINE_MOST" = some (some (.int 3 t_LINE_MOST)))
    (g_STACK_TOP : PySem.W.nsIn K mainGlobals "STACK_TOP" = some (some (.int 767 t_STACK_TOP)))
    (g_INTERRUPT_BEATS : PySem.W.nsIn K mainGlobals "INTERRUPT_BEATS" = some (some (.int 3 t_INTERRUPT_BEATS)))
    (g_TIMER_PC : PySem.W.nsIn K mainGlobals "TIMER_PC" = some (some (.int 1 t_TIMER_PC)))
    (g_LINE_PC : PySem.W.nsIn K mainGlobals "LINE_PC" = some (some (.int 2 t_LINE_PC)))
    (g_WORDS : PySem.W.nsIn K mainGlobals "WORDS" = some (some (.int 65536 t_WORDS)))
    (g_HIGH : PySem.W.nsIn K mainGlobals "HIGH" = some (some (.int 32768 t_HIGH)))
    (g_aR : PySem.W.nsIn K mainGlobals "READS_AT_X" = some (some (.ref aR)))
    (l_aR : K.lookup aR = some ⟨.type "tuple", none, .seq its_aR n_aR, sl_aR⟩)
    (v_aR : relB rdN its_aR.toList = true)
    (g_aO : PySem.W.nsIn K mainGlobals "OP_NAMES" = some (some (.ref aO)))
    (l_aO : K.lookup aO = some ⟨.type "tuple", none, .seq its_aO n_aO, sl_aO⟩)
    (v_aO : relB opN its_aO.toList = true)
    (g_aD : PySem.W.nsIn K mainGlobals "DOINGS" = some (some (.ref aD)))
    (l_aD : K.lookup aD = some ⟨.type "dict", none, .dict es_aD n_aD, #[]⟩)
    (kl_aD : PySem.W.KeysLit w.params es_aD.toList)
    (d_lit : PySem.W.nsIn K aD "lit" = some (some (.ref f_dolit)))
    (d_get : PySem.W.nsIn K aD "get" = some (some (.ref f_doget)))
    (d_put : PySem.W.nsIn K aD "put" = some (some (.ref f_doput)))
    (d_add : PySem.W.nsIn K aD "add" = some (some (.ref f_doadd)))
    (d_sub : PySem.W.nsIn K aD "sub" = some (some (.ref f_dosub)))
    (d_and : PySem.W.nsIn K aD "and" = some (some (.ref f_doand)))
    (d_xor : PySem.W.nsIn K aD "xor" = some (some (.ref f_doxor)))
    (d_getb : PySem.W.nsIn K aD "getb" = some (some (.ref f_doget)))
    (d_putb : PySem.W.nsIn K aD "putb" = some (some (.ref f_doputb)))
    (d_tob : PySem.W.nsIn K aD "tob" = some (some (.ref f_dotob)))
    (d_swap : PySem.W.nsIn K aD "swap" = some (some (.ref f_doswap)))
    (d_go : PySem.W.nsIn K aD "go" = some (some (.ref f_dogo)))
    (d_ifz : PySem.W.nsIn K aD "ifz" = some (some (.ref f_doifz)))
    (d_ifn : PySem.W.nsIn K aD "ifn" = some (some (.ref f_doifn)))
    (d_call : PySem.W.nsIn K aD "call" = some (some (.ref f_docall)))
    (d_ret : PySem.W.nsIn K aD "ret" = some (some (.ref f_doret)))
    (d_push : PySem.W.nsIn K aD "push" = some (some (.ref f_dopush)))
    (d_pop : PySem.W.nsIn K aD "pop" = some (some (.ref f_dopop)))
    (d_sleep : PySem.W.nsIn K aD "sleep" = some (some (.ref f_dosleep)))
    (d_let : PySem.W.nsIn K aD "let" = some (some (.ref f_dolet)))
    (d_back : PySem.W.nsIn K aD "back" = some (some (.ref f_doback)))
    (d_half : PySem.W.nsIn K aD "half" = some (some (.ref f_dohalf)))
    (z_len : PySem.W.nsIn K mainGlobals "len" = some none)
    (z_range : PySem.W.nsIn K mainGlobals "range" = some none)
    (z_isinstance : PySem.W.nsIn K mainGlobals "isinstance" = some none)
    (z_all : PySem.W.nsIn K mainGlobals "all" = some none)
    (z_int : PySem.W.nsIn K mainGlobals "int" = some none)
    (z_bool : PySem.W.nsIn K mainGlobals "bool" = some none)
    (z_list : PySem.W.nsIn K mainGlobals "list" = some none)
    (z_tuple : PySem.W.nsIn K mainGlobals "tuple" = some none)
    (z_divmod : PySem.W.nsIn K mainGlobals "divmod" = some none)
    (z_dict : PySem.W.nsIn K mainGlobals "dict" = some none)
    : ∃ fd : FuncData, (∀ (s : Shared) (v : Value), BindsTo s fd ⟨[v], []⟩ [("_law_script", v)]) ∧ ∀ base : Heap, K.In base → base.Ns mainGlobals mg → FnOk l.prog w K mg base CX0 9 fa fd ["_law_script"] (spLaw K) := by
  have e := hfa.symm.trans (PySem.W.mg_of X G a_law)
  cases e
  have T : Tx K mg CB CM := {
    g_FLASH_END := ⟨_, PySem.W.mg_of X G g_FLASH_END⟩
    g_RAM_END := ⟨_, PySem.W.mg_of X G g_RAM_END⟩
    g_PLACES_END := ⟨_, PySem.W.mg_of X G g_PLACES_END⟩
    g_COUNT := ⟨_, PySem.W.mg_of X G g_COUNT⟩
    g_TOP := ⟨_, PySem.W.mg_of X G g_TOP⟩
    g_FLAGS := ⟨_, PySem.W.mg_of X G g_FLAGS⟩
    g_MASK := ⟨_, PySem.W.mg_of X G g_MASK⟩
    g_LINE_IN := ⟨_, PySem.W.mg_of X G g_LINE_IN⟩
    g_LINE_OUT := ⟨_, PySem.W.mg_of X G g_LINE_OUT⟩
    g_TIMER_FLAG := ⟨_, PySem.W.mg_of X G g_TIMER_FLAG⟩
    g_LINE_FLAG := ⟨_, PySem.W.mg_of X G g_LINE_FLAG⟩
    g_WORD_MOST := ⟨_, PySem.W.mg_of X G g_WORD_MOST⟩
    g_ERASED := ⟨_, PySem.W.mg_of X G g_ERASED⟩
    g_X_SPAN := ⟨_, PySem.W.mg_of X G g_X_SPAN⟩
    g_LINE_MOST := ⟨_, PySem.W.mg_of X G g_LINE_MOST⟩
    g_STACK_TOP := ⟨_, PySem.W.mg_of X G g_STACK_TOP⟩
    g_INTERRUPT_BEATS := ⟨_, PySem.W.mg_of X G g_INTERRUPT_BEATS⟩
    g_TIMER_PC := ⟨_, PySem.W.mg_of X G g_TIMER_PC⟩
    g_LINE_PC := ⟨_, PySem.W.mg_of X G g_LINE_PC⟩
    g_WORDS := ⟨_, PySem.W.mg_of X G g_WORDS⟩
    g_HIGH := ⟨_, PySem.W.mg_of X G g_HIGH⟩
    z_len := PySem.W.mg_none_of X G z_len
    z_range := PySem.W.mg_none_of X G z_range
    z_isinstance := PySem.W.mg_none_of X G z_isinstance
    z_all := PySem.W.mg_none_of X G z_all
    z_int := PySem.W.mg_none_of X G z_int
    z_bool := PySem.W.mg_none_of X G z_bool
    z_list := PySem.W.mg_none_of X G z_list
    z_tuple := PySem.W.mg_none_of X G z_tuple
    z_divmod := PySem.W.mg_none_of X G z_divmod
    g_READS_AT_X := ⟨aR, PySem.W.mg_of X G g_aR, tup_of l_aR v_aR (by decide)⟩
    g_OP_NAMES := ⟨aO, PySem.W.mg_of X G g_aO, tup_of l_aO v_aO (by decide)⟩
    cB := ⟨pgCB, hdCB, poCB, saCB⟩
    cM := ⟨pgCM, hdCM, poCM, saCM⟩
    n_registers := n_registers
    n_zero := n_zero
    n_lets := n_lets
    n_asleep := n_asleep
    n_beat := n_beat
    n_stopped := n_stopped
    n_sent := n_sent
    n_memory := n_memory
    n_line := n_line
    n_line_at := n_line_at
    n_touched := n_touched
    n_did := n_did
    n_bend := n_bend
    n_words := n_words
    n_swapped := n_swapped }
  have F_barof := fun_mk (st := sFbar) l_barof c_barof k_barof
  have b_barof := F_barof.binds (ps := ["kind", "address"]) fun _ _ _ _ _ _ us hl => match us, hl with | [_, _], _ => rfl
  have F_iswhole := fun_mk (st := sFwhole) l_iswhole c_iswhole k_iswhole
  have b_iswhole := F_iswhole.binds (ps := ["thing"]) fun _ _ _ _ _ _ us hl => match us, hl with | [_], _ => rfl
  have F_isbetween := fun_mk (st := sFbetw) l_isbetween c_isbetween k_isbetween
  have b_isbetween := F_isbetween.binds (ps := ["thing", "least", "greatest"]) fun _ _ _ _ _ _ us hl => match us, hl with | [_, _, _], _ => rfl
  have F_isword := fun_mk (st := sFword) l_isword c_isword k_isword
  have b_isword := F_isword.binds (ps := ["thing"]) fun _ _ _ _ _ _ us hl => match us, hl with | [_], _ => rfl
  have F_isimage := fun_mk (st := sFimage) l_isimage c_isimage k_isimage
  have b_isimage := F_isimage.binds (ps := ["thing"]) fun _ _ _ _ _ _ us hl => match us, hl with | [_], _ => rfl
  have F_isline := fun_mk (st := sFline) l_isline c_isline k_isline
  have b_isline := F_isline.binds (ps := ["thing"]) fun _ _ _ _ _ _ us hl => match us, hl with | [_], _ => rfl
  have F_islinerow := fun_mk (st := sFlrow) l_islinerow c_islinerow k_islinerow
  have b_islinerow := F_islinerow.binds (ps := ["row", "last"]) fun _ _ _ _ _ _ us hl => match us, hl with | [_, _], _ => rfl
  have F_touchesof := fun_mk (st := sFtou) l_touchesof c_touchesof k_touchesof
  have b_touchesof := F_touchesof.binds (ps := ["name", "x", "registers"]) fun _ _ _ _ _ _ us hl => match us, hl with | [_, _, _], _ => rfl
  have F_give := fun_mk (st := sFgive) l_give c_give k_give
  have b_give := F_give.binds (ps := ["board", "word"]) fun _ _ _ _ _ _ us hl => match us, hl with | [_, _], _ => rfl
  have F_firstregisters := fun_mk (st := sFfirst) l_firstregisters c_firstregisters k_firstregisters
  have b_firstregisters := F_firstregisters.binds (ps := []) fun _ _ _ _ _ _ us hl => match us, hl with | [], _ => rfl
  have F_dolit := fun_mk (st := sD1) l_dolit c_dolit k_dolit
  have b_dolit := F_dolit.binds (ps := ["board", "x", "words"]) fun _ _ _ _ _ _ us hl => match us, hl with | [_, _, _], _ => rfl
  have F_doget := fun_mk (st := sD2) l_doget c_doget k_doget
  have b_doget := F_doget.binds (ps := ["board", "x", "words"]) fun _ _ _ _ _ _ us hl => match us, hl with | [_, _, _], _ => rfl
  have F_doput := fun_mk (st := sD3) l_doput c_doput k_doput
  have b_doput := F_doput.binds (ps := ["board", "x", "words"]) fun _ _ _ _ _ _ us hl => match us, hl with | [_, _, _], _ => rfl
  have F_doadd := fun_mk (st := sD4) l_doadd c_doadd k_doadd
  have b_doadd := F_doadd.binds (ps := ["board", "x", "words"]) fun _ _ _ _ _ _ us hl => match us, hl with | [_, _, _], _ => rfl
  have F_dosub := fun_mk (st := sD5) l_dosub c_dosub k_dosub
  have b_dosub := F_dosub.binds (ps := ["board", "x", "words"]) fun _ _ _ _ _ _ us hl => match us, hl with | [_, _, _], _ => rfl
  have F_doand := fun_mk (st := sD6) l_doand c_doand k_doand
  have b_doand := F_doand.binds (ps := ["board", "x", "words"]) fun _ _ _ _ _ _ us hl => match us, hl with | [_, _, _], _ => rfl
  have F_doxor := fun_mk (st := sD7) l_doxor c_doxor k_doxor
  have b_doxor := F_doxor.binds (ps := ["board", "x", "words"]) fun _ _ _ _ _ _ us hl => match us, hl with | [_, _, _], _ => rfl
  have F_doputb := fun_mk (st := sD9) l_doputb c_doputb k_doputb
  have b_doputb := F_doputb.binds (ps := ["board", "x", "words"]) fun _ _ _ _ _ _ us hl => match us, hl with | [_, _, _], _ => rfl
  have F_dotob := fun_mk (st := sD10) l_dotob c_dotob k_dotob
  have b_dotob := F_dotob.binds (ps := ["board", "x", "words"]) fun _ _ _ _ _ _ us hl => match us, hl with | [_, _, _], _ => rfl
  have F_doswap := fun_mk (st := sD11) l_doswap c_doswap k_doswap
  have b_doswap := F_doswap.binds (ps := ["board", "x", "words"]) fun _ _ _ _ _ _ us hl => match us, hl with | [_, _, _], _ => rfl
  have F_dogo := fun_mk (st := sD12) l_dogo c_dogo k_dogo
  have b_dogo := F_dogo.binds (ps := ["board", "x", "words"]) fun _ _ _ _ _ _ us hl => match us, hl with | [_, _, _], _ => rfl
  have F_doifz := fun_mk (st := sD13) l_doifz c_doifz k_doifz
  have b_doifz := F_doifz.binds (ps := ["board", "x", "words"]) fun _ _ _ _ _ _ us hl => match us, hl with | [_, _, _], _ => rfl
  have F_doifn := fun_mk (st := sD14) l_doifn c_doifn k_doifn
  have b_doifn := F_doifn.binds (ps := ["board", "x", "words"]) fun _ _ _ _ _ _ us hl => match us, hl with | [_, _, _], _ => rfl
  have F_docall := fun_mk (st := sD15) l_docall c_docall k_docall
  have b_docall := F_docall.binds (ps := ["board", "x", "words"]) fun _ _ _ _ _ _ us hl => match us, hl with | [_, _, _], _ => rfl
  have F_doret := fun_mk (st := sD16) l_doret c_doret k_doret
  have b_doret := F_doret.binds (ps := ["board", "x", "words"]) fun _ _ _ _ _ _ us hl => match us, hl with | [_, _, _], _ => rfl
  have F_dopush := fun_mk (st := sD17) l_dopush c_dopush k_dopush
  have b_dopush := F_dopush.binds (ps := ["board", "x", "words"]) fun _ _ _ _ _ _ us hl => match us, hl with | [_, _, _], _ => rfl
  have F_dopop := fun_mk (st := sD18) l_dopop c_dopop k_dopop
  have b_dopop := F_dopop.binds (ps := ["board", "x", "words"]) fun _ _ _ _ _ _ us hl => match us, hl with | [_, _, _], _ => rfl
  have F_dosleep := fun_mk (st := sD19) l_dosleep c_dosleep k_dosleep
  have b_dosleep := F_dosleep.binds (ps := ["board", "x", "words"]) fun _ _ _ _ _ _ us hl => match us, hl with | [_, _, _], _ => rfl
  have F_dolet := fun_mk (st := sD20) l_dolet c_dolet k_dolet
  have b_dolet := F_dolet.binds (ps := ["board", "x", "words"]) fun _ _ _ _ _ _ us hl => match us, hl with | [_, _, _], _ => rfl
  have F_doback := fun_mk (st := sD21) l_doback c_doback k_doback
  have b_doback := F_doback.binds (ps := ["board", "x", "words"]) fun _ _ _ _ _ _ us hl => match us, hl with | [_, _, _], _ => rfl
  have F_dohalf := fun_mk (st := sD22) l_dohalf c_dohalf k_dohalf
  have b_dohalf := F_dohalf.binds (ps := ["board", "x", "words"]) fun _ _ _ _ _ _ us hl => match us, hl with | [_, _, _], _ => rfl
  have F_lawdigits := fun_mk (st := sLdig) l_lawdigits c_lawdigits k_lawdigits
  have b_lawdigits := F_lawdigits.binds (ps := ["_law_cell_here", "_law_many"]) fun _ _ _ _ _ _ us hl => match us, hl with | [_, _], _ => rfl
  have F_lawnew := fun_mk (st := sLnew) l_lawnew c_lawnew k_lawnew
  have b_lawnew := F_lawnew.binds (ps := ["_law_image", "_law_line"]) fun _ _ _ _ _ _ us hl => match us, hl with | [_, _], _ => rfl
  have F_lawgoby := fun_mk (st := sLgoby) l_lawgoby c_lawgoby k_lawgoby
  have b_lawgoby := F_lawgoby.binds (ps := ["_law_stand", "_law_many"]) fun _ _ _ _ _ _ us hl => match us, hl with | [_, _], _ => rfl
  have F_lawbarred := fun_mk (st := sLbar) l_lawbarred c_lawbarred k_lawbarred
  have b_lawbarred := F_lawbarred.binds (ps := ["_law_stand", "_law_reads", "_law_puts"]) fun _ _ _ _ _ _ us hl => match us, hl with | [_, _, _], _ => rfl
  have F_lawlay := fun_mk (st := sLlay) l_lawlay c_lawlay k_lawlay
  have b_lawlay := F_lawlay.binds (ps := ["_law_stand", "_law_address", "_law_word"]) fun _ _ _ _ _ _ us hl => match us, hl with | [_, _, _], _ => rfl
  have F_lawhalts := fun_mk (st := sLhalts) l_lawhalts c_lawhalts k_lawhalts
  have b_lawhalts := F_lawhalts.binds (ps := ["_law_stand", "_law_cause"]) fun _ _ _ _ _ _ us hl => match us, hl with | [_, _], _ => rfl
  have F_lawonce := fun_mk (st := sLonce) l_lawonce c_lawonce k_lawonce
  have b_lawonce := F_lawonce.binds (ps := ["_law_stand"]) fun _ _ _ _ _ _ us hl => match us, hl with | [_], _ => rfl
  have F_lawdeed := fun_mk (st := sLdeed) l_lawdeed c_lawdeed k_lawdeed
  have b_lawdeed := F_lawdeed.binds (ps := ["_law_stand"]) fun _ _ _ _ _ _ us hl => match us, hl with | [_], _ => rfl
  have F_lawdone := fun_mk (st := sLdone) l_lawdone c_lawdone k_lawdone
  have b_lawdone := F_lawdone.binds (ps := ["_law_stand", "_law_op", "_law_x", "_law_words", "_law_puts"]) fun _ _ _ _ _ _ us hl => match us, hl with | [_, _, _, _, _], _ => rfl
  have F_lawsame := fun_mk (st := sLsame) l_lawsame c_lawsame k_lawsame
  have b_lawsame := F_lawsame.binds (ps := ["_law_board", "_law_stand"]) fun _ _ _ _ _ _ us hl => match us, hl with | [_, _], _ => rfl
  have F_lawlikewords := fun_mk (st := sLlike) l_lawlikewords c_lawlikewords k_lawlikewords
  have b_lawlikewords := F_lawlikewords.binds (ps := ["_law_board", "_law_stand", "_law_low", "_law_high"]) fun _ _ _ _ _ _ us hl => match us, hl with | [_, _, _, _], _ => rfl
  have F_lawwordby := fun_mk (st := sLwby) l_lawwordby c_lawwordby k_lawwordby
  have b_lawwordby := F_lawwordby.binds (ps := ["_law_number", "_law_many"]) fun _ _ _ _ _ _ us hl => match us, hl with | [_, _], _ => rfl
  have F_lawdrawnimage := fun_mk (st := sLdimg) l_lawdrawnimage c_lawdrawnimage k_lawdrawnimage
  have b_lawdrawnimage := F_lawdrawnimage.binds (ps := ["_law_cell_here"]) fun _ _ _ _ _ _ us hl => match us, hl with | [_], _ => rfl
  have F_lawdrawnline := fun_mk (st := sLdlin) l_lawdrawnline c_lawdrawnline k_lawdrawnline
  have b_lawdrawnline := F_lawdrawnline.binds (ps := ["_law_cell_here"]) fun _ _ _ _ _ _ us hl => match us, hl with | [_], _ => rfl
  have F_lawowntwin := fun_mk (st := sLown) l_lawowntwin c_lawowntwin k_lawowntwin
  have b_lawowntwin := F_lawowntwin.binds (ps := ["_law_stand"]) fun _ _ _ _ _ _ us hl => match us, hl with | [_], _ => rfl
  have F_law := fun_mk (st := sLaw) l_law c_law k_law
  have F_CMinit := fun_mk (st := sCmem) l_CMinit c_CMinit k_CMinit
  have b_CMinit := F_CMinit.binds (ps := ["self", "image"]) fun _ _ _ _ _ _ us hl => match us, hl with | [_, _], _ => rfl
  have F_CMwordat := fun_mk (st := sMat) l_CMwordat c_CMwordat k_CMwordat
  have b_CMwordat := F_CMwordat.binds (ps := ["self", "address"]) fun _ _ _ _ _ _ us hl => match us, hl with | [_, _], _ => rfl
  have F_CMread := fun_mk (st := sMread) l_CMread c_CMread k_CMread
  have b_CMread := F_CMread.binds (ps := ["self", "address", "pc"]) fun _ _ _ _ _ _ us hl => match us, hl with | [_, _, _], _ => rfl
  have F_CMput := fun_mk (st := sMput) l_CMput c_CMput k_CMput
  have b_CMput := F_CMput.binds (ps := ["self", "address", "word"]) fun _ _ _ _ _ _ us hl => match us, hl with | [_, _, _], _ => rfl
  have F_CMcalledflags := fun_mk (st := sMcalled) l_CMcalledflags c_CMcalledflags k_CMcalledflags
  have b_CMcalledflags := F_CMcalledflags.binds (ps := ["self"]) fun _ _ _ _ _ _ us hl => match us, hl with | [_], _ => rfl
  have F_CMtakeline := fun_mk (st := sMtake) l_CMtakeline c_CMtakeline k_CMtakeline
  have b_CMtakeline := F_CMtakeline.binds (ps := ["self", "value"]) fun _ _ _ _ _ _ us hl => match us, hl with | [_, _], _ => rfl
  have F_CMgotimer := fun_mk (st := sMtimer) l_CMgotimer c_CMgotimer k_CMgotimer
  have b_CMgotimer := F_CMgotimer.binds (ps := ["self"]) fun _ _ _ _ _ _ us hl => match us, hl with | [_], _ => rfl
  have F_CMstandas := fun_mk (st := sMmstd) l_CMstandas c_CMstandas k_CMstandas
  have b_CMstandas := F_CMstandas.binds (ps := ["self", "other"]) fun _ _ _ _ _ _ us hl => match us, hl with | [_, _], _ => rfl
  have F_CBinit := fun_mk (st := sCboard) l_CBinit c_CBinit k_CBinit
  have b_CBinit := F_CBinit.binds (ps := ["self", "image", "line"]) fun _ _ _ _ _ _ us hl => match us, hl with | [_, _, _], _ => rfl
  have F_CBcoming := fun_mk (st := sMcoming) l_CBcoming c_CBcoming k_CBcoming
  have b_CBcoming := F_CBcoming.binds (ps := ["self"]) fun _ _ _ _ _ _ us hl => match us, hl with | [_], _ => rfl
  have F_CBturn := fun_mk (st := sMturn) l_CBturn c_CBturn k_CBturn
  have b_CBturn := F_CBturn.binds (ps := ["self"]) fun _ _ _ _ _ _ us hl => match us, hl with | [_], _ => rfl
  have F_CBbegininterrupt := fun_mk (st := sMbegin) l_CBbegininterrupt c_CBbegininterrupt k_CBbegininterrupt
  have b_CBbegininterrupt := F_CBbegininterrupt.binds (ps := ["self"]) fun _ _ _ _ _ _ us hl => match us, hl with | [_], _ => rfl
  have F_CBdodeed := fun_mk (st := sMdo) l_CBdodeed c_CBdodeed k_CBdodeed
  have b_CBdodeed := F_CBdodeed.binds (ps := ["self"]) fun _ _ _ _ _ _ us hl => match us, hl with | [_], _ => rfl
  have F_CBmaytouch := fun_mk (st := sMmay) l_CBmaytouch c_CBmaytouch k_CBmaytouch
  have b_CBmaytouch := F_CBmaytouch.binds (ps := ["self", "touches"]) fun _ _ _ _ _ _ us hl => match us, hl with | [_, _], _ => rfl
  have F_CBstop := fun_mk (st := sMstop) l_CBstop c_CBstop k_CBstop
  have b_CBstop := F_CBstop.binds (ps := ["self", "stop"]) fun _ _ _ _ _ _ us hl => match us, hl with | [_, _], _ => rfl
  have F_CBputbyturn := fun_mk (st := sMpbt) l_CBputbyturn c_CBputbyturn k_CBputbyturn
  have b_CBputbyturn := F_CBputbyturn.binds (ps := ["self", "address", "word"]) fun _ _ _ _ _ _ us hl => match us, hl with | [_, _, _], _ => rfl
  have F_CBputword := fun_mk (st := sMpw) l_CBputword c_CBputword k_CBputword
  have b_CBputword := F_CBputword.binds (ps := ["self", "address", "word"]) fun _ _ _ _ _ _ us hl => match us, hl with | [_, _, _], _ => rfl
  have F_CBpassbeats := fun_mk (st := sMpass) l_CBpassbeats c_CBpassbeats k_CBpassbeats
  have b_CBpassbeats := F_CBpassbeats.binds (ps := ["self", "many"]) fun _ _ _ _ _ _ us hl => match us, hl with | [_, _], _ => rfl
  have F_CBcomeline := fun_mk (st := sMcome) l_CBcomeline c_CBcomeline k_CBcomeline
  have b_CBcomeline := F_CBcomeline.binds (ps := ["self"]) fun _ _ _ _ _ _ us hl => match us, hl with | [_], _ => rfl
  have F_CBtwin := fun_mk (st := sMtwin) l_CBtwin c_CBtwin k_CBtwin
  have b_CBtwin := F_CBtwin.binds (ps := ["self"]) fun _ _ _ _ _ _ us hl => match us, hl with | [_], _ => rfl
  have F_CBstandas := fun_mk (st := sMbstd) l_CBstandas c_CBstandas k_CBstandas
  have b_CBstandas := F_CBstandas.binds (ps := ["self", "other"]) fun _ _ _ _ _ _ us hl => match us, hl with | [_, _], _ => rfl
  refine ⟨PySem.W.fnOf "law" "law" (defArgs sLaw) (defBody sLaw) (defScope sLaw) .none kV_law dc_law pm_law an_law cd_law ct_law, fun s v => .of_eq rfl, fun base _ _ => ?_⟩
  have X_F_bar : CalF l.prog w K mg base 1 "bar_of" ["kind", "address"] (spBar) _ _ := ⟨PySem.W.mg_of X G a_barof, k_barof, b_barof, ok_Fbar F_barof T⟩
  have X_M_at : CalM l.prog w K mg base CM 1 "word_at" ["self", "address"] (spMAt CM) _ _ := ⟨⟨pgCM, hdCM, poCM, saCM⟩, ⟨a_CMwordat, i_CMwordat, k_CMwordat⟩, b_CMwordat, ok_Mat F_CMwordat T⟩
  have X_M_read : CalM l.prog w K mg base CM 1 "read" ["self", "address", "pc"] (spMRead CM) _ _ := ⟨⟨pgCM, hdCM, poCM, saCM⟩, ⟨a_CMread, i_CMread, k_CMread⟩, b_CMread, ok_Mread F_CMread T⟩
  have X_M_put : CalM l.prog w K mg base CM 1 "put" ["self", "address", "word"] (spMPut CM) _ _ := ⟨⟨pgCM, hdCM, poCM, saCM⟩, ⟨a_CMput, i_CMput, k_CMput⟩, b_CMput, ok_Mput F_CMput T⟩
  have X_M_called : CalM l.prog w K mg base CM 1 "called_flags" ["self"] (spMCall CM) _ _ := ⟨⟨pgCM, hdCM, poCM, saCM⟩, ⟨a_CMcalledflags, i_CMcalledflags, k_CMcalledflags⟩, b_CMcalledflags, ok_Mcalled F_CMcalledflags T⟩
  have X_M_take : CalM l.prog w K mg base CM 1 "take_line" ["self", "value"] (spMTake CM) _ _ := ⟨⟨pgCM, hdCM, poCM, saCM⟩, ⟨a_CMtakeline, i_CMtakeline, k_CMtakeline⟩, b_CMtakeline, ok_Mtake F_CMtakeline T⟩
  have X_M_timer : CalM l.prog w K mg base CM 1 "go_timer" ["self"] (spMTim CM) _ _ := ⟨⟨pgCM, hdCM, poCM, saCM⟩, ⟨a_CMgotimer, i_CMgotimer, k_CMgotimer⟩, b_CMgotimer, ok_Mtimer F_CMgotimer T⟩
  have X_F_whole : CalF l.prog w K mg base 1 "is_whole" ["thing"] (spWhole) _ _ := ⟨PySem.W.mg_of X G a_iswhole, k_iswhole, b_iswhole, ok_Fwhole F_iswhole T⟩
  have X_F_betw : CalF l.prog w K mg base 2 "is_between" ["thing", "least", "greatest"] (spBetw) _ _ := ⟨PySem.W.mg_of X G a_isbetween, k_isbetween, b_isbetween, ok_Fbetw F_isbetween T X_F_whole⟩
  have X_F_word : CalF l.prog w K mg base 3 "is_word" ["thing"] (spWord) _ _ := ⟨PySem.W.mg_of X G a_isword, k_isword, b_isword, ok_Fword F_isword T X_F_betw⟩
  have X_F_image : CalF l.prog w K mg base 4 "is_image" ["thing"] (spImg) _ _ := ⟨PySem.W.mg_of X G a_isimage, k_isimage, b_isimage, ok_Fimage F_isimage T X_F_word⟩
  have X_F_lrow : CalF l.prog w K mg base 3 "is_line_row" ["row", "last"] (spLRow) _ _ := ⟨PySem.W.mg_of X G a_islinerow, k_islinerow, b_islinerow, ok_Flrow F_islinerow T X_F_betw X_F_whole⟩
  have X_F_line : CalF l.prog w K mg base 4 "is_line" ["thing"] (spLine) _ _ := ⟨PySem.W.mg_of X G a_isline, k_isline, b_isline, ok_Fline F_isline T X_F_lrow⟩
  have X_C_mem : CalC l.prog w K mg base CM 1 "Memory" ["self", "image"] (spMI CM) _ _ := ⟨⟨mkCM, a_CMinit, i_CMinit, kcCM⟩, PySem.W.mg_of X G aCM, b_CMinit, ok_Cmem F_CMinit T⟩
  have X_F_tou : CalF l.prog w K mg base 1 "touches_of" ["name", "x", "registers"] (spTou) _ _ := ⟨PySem.W.mg_of X G a_touchesof, k_touchesof, b_touchesof, ok_Ftou F_touchesof T⟩
  have X_F_give : CalF l.prog w K mg base 1 "give" ["board", "word"] (spGive CB CM) _ _ := ⟨PySem.W.mg_of X G a_give, k_give, b_give, ok_Fgive F_give T⟩
  have X_M_pw : CalM l.prog w K mg base CB 2 "put_word" ["self", "address", "word"] (spPw CB CM) _ _ := ⟨⟨pgCB, hdCB, poCB, saCB⟩, ⟨a_CBputword, i_CBputword, k_CBputword⟩, b_CBputword, ok_Mpw F_CBputword T X_M_put⟩
  have X_M_pbt : CalM l.prog w K mg base CB 3 "put_by_turn" ["self", "address", "word"] (spPw CB CM) _ _ := ⟨⟨pgCB, hdCB, poCB, saCB⟩, ⟨a_CBputbyturn, i_CBputbyturn, k_CBputbyturn⟩, b_CBputbyturn, ok_Mpbt F_CBputbyturn T X_M_pw⟩
  have FD : DoF l.prog w K mg base CB CM (fun op => match op with | 1 => f_dolit | 2 => f_doget | 3 => f_doput | 4 => f_doadd | 5 => f_dosub | 6 => f_doand | 7 => f_doxor | 8 => f_doget | 9 => f_doputb | 10 => f_dotob | 11 => f_doswap | 12 => f_dogo | 13 => f_doifz | 14 => f_doifn | 15 => f_docall | 16 => f_doret | 17 => f_dopush | 18 => f_dopop | 19 => f_dosleep | 20 => f_dolet | 21 => f_doback | _ => f_dohalf) (fun op => match op with | 1 => PySem.W.fnOf "do_lit" "do_lit" (defArgs sD1) (defBody sD1) (defScope sD1) .none kV_dolit dc_dolit pm_dolit an_dolit cd_dolit ct_dolit | 2 => PySem.W.fnOf "do_get" "do_get" (defArgs sD2) (defBody sD2) (defScope sD2) .none kV_doget dc_doget pm_doget an_doget cd_doget ct_doget | 3 => PySem.W.fnOf "do_put" "do_put" (defArgs sD3) (defBody sD3) (defScope sD3) .none kV_doput dc_doput pm_doput an_doput cd_doput ct_doput | 4 => PySem.W.fnOf "do_add" "do_add" (defArgs sD4) (defBody sD4) (defScope sD4) .none kV_doadd dc_doadd pm_doadd an_doadd cd_doadd ct_doadd | 5 => PySem.W.fnOf "do_sub" "do_sub" (defArgs sD5) (defBody sD5) (defScope sD5) .none kV_dosub dc_dosub pm_dosub an_dosub cd_dosub ct_dosub | 6 => PySem.W.fnOf "do_and" "do_and" (defArgs sD6) (defBody sD6) (defScope sD6) .none kV_doand dc_doand pm_doand an_doand cd_doand ct_doand | 7 => PySem.W.fnOf "do_xor" "do_xor" (defArgs sD7) (defBody sD7) (defScope sD7) .none kV_doxor dc_doxor pm_doxor an_doxor cd_doxor ct_doxor | 8 => PySem.W.fnOf "do_get" "do_get" (defArgs sD2) (defBody sD2) (defScope sD2) .none kV_doget dc_doget pm_doget an_doget cd_doget ct_doget | 9 => PySem.W.fnOf "do_putb" "do_putb" (defArgs sD9) (defBody sD9) (defScope sD9) .none kV_doputb dc_doputb pm_doputb an_doputb cd_doputb ct_doputb | 10 => PySem.W.fnOf "do_tob" "do_tob" (defArgs sD10) (defBody sD10) (defScope sD10) .none kV_dotob dc_dotob pm_dotob an_dotob cd_dotob ct_dotob | 11 => PySem.W.fnOf "do_swap" "do_swap" (defArgs sD11) (defBody sD11) (defScope sD11) .none kV_doswap dc_doswap pm_doswap an_doswap cd_doswap ct_doswap | 12 => PySem.W.fnOf "do_go" "do_go" (defArgs sD12) (defBody sD12) (defScope sD12) .none kV_dogo dc_dogo pm_dogo an_dogo cd_dogo ct_dogo | 13 => PySem.W.fnOf "do_ifz" "do_ifz" (defArgs sD13) (defBody sD13) (defScope sD13) .none kV_doifz dc_doifz pm_doifz an_doifz cd_doifz ct_doifz | 14 => PySem.W.fnOf "do_ifn" "do_ifn" (defArgs sD14) (defBody sD14) (defScope sD14) .none kV_doifn dc_doifn pm_doifn an_doifn cd_doifn ct_doifn | 15 => PySem.W.fnOf "do_call" "do_call" (defArgs sD15) (defBody sD15) (defScope sD15) .none kV_docall dc_docall pm_docall an_docall cd_docall ct_docall | 16 => PySem.W.fnOf "do_ret" "do_ret" (defArgs sD16) (defBody sD16) (defScope sD16) .none kV_doret dc_doret pm_doret an_doret cd_doret ct_doret | 17 => PySem.W.fnOf "do_push" "do_push" (defArgs sD17) (defBody sD17) (defScope sD17) .none kV_dopush dc_dopush pm_dopush an_dopush cd_dopush ct_dopush | 18 => PySem.W.fnOf "do_pop" "do_pop" (defArgs sD18) (defBody sD18) (defScope sD18) .none kV_dopop dc_dopop pm_dopop an_dopop cd_dopop ct_dopop | 19 => PySem.W.fnOf "do_sleep" "do_sleep" (defArgs sD19) (defBody sD19) (defScope sD19) .none kV_dosleep dc_dosleep pm_dosleep an_dosleep cd_dosleep ct_dosleep | 20 => PySem.W.fnOf "do_let" "do_let" (defArgs sD20) (defBody sD20) (defScope sD20) .none kV_dolet dc_dolet pm_dolet an_dolet cd_dolet ct_dolet | 21 => PySem.W.fnOf "do_back" "do_back" (defArgs sD21) (defBody sD21) (defScope sD21) .none kV_doback dc_doback pm_doback an_doback cd_doback ct_doback | _ => PySem.W.fnOf "do_half" "do_half" (defArgs sD22) (defBody sD22) (defScope sD22) .none kV_dohalf dc_dohalf pm_dohalf an_dohalf cd_dohalf ct_dohalf) := {
    G := fun op h1 h2 => match op, h1, h2 with
      | 1, _, _ => ok_D1 F_dolit T X_F_give
      | 2, _, _ => ok_D2 F_doget T X_F_give
      | 3, _, _ => ok_D3 F_doput T X_M_pbt
      | 4, _, _ => ok_D4 F_doadd T X_F_give
      | 5, _, _ => ok_D5 F_dosub T X_F_give
      | 6, _, _ => ok_D6 F_doand T X_F_give
      | 7, _, _ => ok_D7 F_doxor T X_F_give
      | 8, _, _ => ok_D8 F_doget T X_F_give
      | 9, _, _ => ok_D9 F_doputb T X_M_pbt
      | 10, _, _ => ok_D10 F_dotob T 
      | 11, _, _ => ok_D11 F_doswap T X_F_give
      | 12, _, _ => ok_D12 F_dogo T 
      | 13, _, _ => ok_D13 F_doifz T 
      | 14, _, _ => ok_D14 F_doifn T 
      | 15, _, _ => ok_D15 F_docall T X_M_pbt
      | 16, _, _ => ok_D16 F_doret T 
      | 17, _, _ => ok_D17 F_dopush T X_M_pbt
      | 18, _, _ => ok_D18 F_dopop T X_F_give
      | 19, _, _ => ok_D19 F_dosleep T 
      | 20, _, _ => ok_D20 F_dolet T 
      | 21, _, _ => ok_D21 F_doback T 
      | 22, _, _ => ok_D22 F_dohalf T X_F_give
      | 0, h, _ => by omega
      | n + 23, _, h => by omega
    kp := fun op h1 h2 => match op, h1, h2 with
      | 1, _, _ => k_dolit
      | 2, _, _ => k_doget
      | 3, _, _ => k_doput
      | 4, _, _ => k_doadd
      | 5, _, _ => k_dosub
      | 6, _, _ => k_doand
      | 7, _, _ => k_doxor
      | 8, _, _ => k_doget
      | 9, _, _ => k_doputb
      | 10, _, _ => k_dotob
      | 11, _, _ => k_doswap
      | 12, _, _ => k_dogo
      | 13, _, _ => k_doifz
      | 14, _, _ => k_doifn
      | 15, _, _ => k_docall
      | 16, _, _ => k_doret
      | 17, _, _ => k_dopush
      | 18, _, _ => k_dopop
      | 19, _, _ => k_dosleep
      | 20, _, _ => k_dolet
      | 21, _, _ => k_doback
      | 22, _, _ => k_dohalf
      | 0, h, _ => by omega
      | n + 23, _, h => by omega
    b := fun op h1 h2 => match op, h1, h2 with
      | 1, _, _ => b_dolit
      | 2, _, _ => b_doget
      | 3, _, _ => b_doput
      | 4, _, _ => b_doadd
      | 5, _, _ => b_dosub
      | 6, _, _ => b_doand
      | 7, _, _ => b_doxor
      | 8, _, _ => b_doget
      | 9, _, _ => b_doputb
      | 10, _, _ => b_dotob
      | 11, _, _ => b_doswap
      | 12, _, _ => b_dogo
      | 13, _, _ => b_doifz
      | 14, _, _ => b_doifn
      | 15, _, _ => b_docall
      | 16, _, _ => b_doret
      | 17, _, _ => b_dopush
      | 18, _, _ => b_dopop
      | 19, _, _ => b_dosleep
      | 20, _, _ => b_dolet
      | 21, _, _ => b_doback
      | 22, _, _ => b_dohalf
      | 0, h, _ => by omega
      | n + 23, _, h => by omega
    D := ⟨aD, PySem.W.mg_of X G g_aD, fun op h1 h2 => match op, h1, h2 with
      | 1, _, _ => ⟨es_aD, n_aD, _, l_aD, kl_aD, d_lit, rfl⟩
      | 2, _, _ => ⟨es_aD, n_aD, _, l_aD, kl_aD, d_get, rfl⟩
      | 3, _, _ => ⟨es_aD, n_aD, _, l_aD, kl_aD, d_put, rfl⟩
      | 4, _, _ => ⟨es_aD, n_aD, _, l_aD, kl_aD, d_add, rfl⟩
      | 5, _, _ => ⟨es_aD, n_aD, _, l_aD, kl_aD, d_sub, rfl⟩
      | 6, _, _ => ⟨es_aD, n_aD, _, l_aD, kl_aD, d_and, rfl⟩
      | 7, _, _ => ⟨es_aD, n_aD, _, l_aD, kl_aD, d_xor, rfl⟩
      | 8, _, _ => ⟨es_aD, n_aD, _, l_aD, kl_aD, d_getb, rfl⟩
      | 9, _, _ => ⟨es_aD, n_aD, _, l_aD, kl_aD, d_putb, rfl⟩
      | 10, _, _ => ⟨es_aD, n_aD, _, l_aD, kl_aD, d_tob, rfl⟩
      | 11, _, _ => ⟨es_aD, n_aD, _, l_aD, kl_aD, d_swap, rfl⟩
      | 12, _, _ => ⟨es_aD, n_aD, _, l_aD, kl_aD, d_go, rfl⟩
      | 13, _, _ => ⟨es_aD, n_aD, _, l_aD, kl_aD, d_ifz, rfl⟩
      | 14, _, _ => ⟨es_aD, n_aD, _, l_aD, kl_aD, d_ifn, rfl⟩
      | 15, _, _ => ⟨es_aD, n_aD, _, l_aD, kl_aD, d_call, rfl⟩
      | 16, _, _ => ⟨es_aD, n_aD, _, l_aD, kl_aD, d_ret, rfl⟩
      | 17, _, _ => ⟨es_aD, n_aD, _, l_aD, kl_aD, d_push, rfl⟩
      | 18, _, _ => ⟨es_aD, n_aD, _, l_aD, kl_aD, d_pop, rfl⟩
      | 19, _, _ => ⟨es_aD, n_aD, _, l_aD, kl_aD, d_sleep, rfl⟩
      | 20, _, _ => ⟨es_aD, n_aD, _, l_aD, kl_aD, d_let, rfl⟩
      | 21, _, _ => ⟨es_aD, n_aD, _, l_aD, kl_aD, d_back, rfl⟩
      | 22, _, _ => ⟨es_aD, n_aD, _, l_aD, kl_aD, d_half, rfl⟩
      | 0, h, _ => by omega
      | n + 23, _, h => by omega⟩ }
  have X_M_come : CalM l.prog w K mg base CB 2 "come_line" ["self"] (spCome CB CM) _ _ := ⟨⟨pgCB, hdCB, poCB, saCB⟩, ⟨a_CBcomeline, i_CBcomeline, k_CBcomeline⟩, b_CBcomeline, ok_Mcome F_CBcomeline T X_M_take⟩
  have X_M_pass : CalM l.prog w K mg base CB 3 "pass_beats" ["self", "many"] (spPass CB CM) _ _ := ⟨⟨pgCB, hdCB, poCB, saCB⟩, ⟨a_CBpassbeats, i_CBpassbeats, k_CBpassbeats⟩, b_CBpassbeats, ok_Mpass F_CBpassbeats T X_M_come X_M_timer⟩
  have X_M_stop : CalM l.prog w K mg base CB 1 "stop" ["self", "stop"] (spStop CB CM) _ _ := ⟨⟨pgCB, hdCB, poCB, saCB⟩, ⟨a_CBstop, i_CBstop, k_CBstop⟩, b_CBstop, ok_Mstop F_CBstop T⟩
  have X_M_may : CalM l.prog w K mg base CB 2 "may_touch" ["self", "touches"] (spMay CB CM) _ _ := ⟨⟨pgCB, hdCB, poCB, saCB⟩, ⟨a_CBmaytouch, i_CBmaytouch, k_CBmaytouch⟩, b_CBmaytouch, ok_Mmay F_CBmaytouch T X_F_bar X_M_stop⟩
  have X_M_coming : CalM l.prog w K mg base CB 2 "coming" ["self"] (spComing CB CM) _ _ := ⟨⟨pgCB, hdCB, poCB, saCB⟩, ⟨a_CBcoming, i_CBcoming, k_CBcoming⟩, b_CBcoming, ok_Mcoming F_CBcoming T X_M_called⟩
  have X_M_begin : CalM l.prog w K mg base CB 4 "begin_interrupt" ["self"] (spBegin CB CM) _ _ := ⟨⟨pgCB, hdCB, poCB, saCB⟩, ⟨a_CBbegininterrupt, i_CBbegininterrupt, k_CBbegininterrupt⟩, b_CBbegininterrupt, ok_Mbegin F_CBbegininterrupt T X_M_called X_M_may X_M_pass X_M_pbt⟩
  have X_M_do : CalM l.prog w K mg base CB 5 "do_deed" ["self"] (spDeed CB CM) _ _ := ⟨⟨pgCB, hdCB, poCB, saCB⟩, ⟨a_CBdodeed, i_CBdodeed, k_CBdodeed⟩, b_CBdodeed, ok_Mdo F_CBdodeed T X_F_tou X_M_may X_M_pass X_M_read X_M_stop FD⟩
  have X_M_turn : CalM l.prog w K mg base CB 6 "turn" ["self"] (spTurn CB CM) _ _ := ⟨⟨pgCB, hdCB, poCB, saCB⟩, ⟨a_CBturn, i_CBturn, k_CBturn⟩, b_CBturn, ok_Mturn F_CBturn T X_M_begin X_M_coming X_M_do X_M_pass⟩
  have X_F_first : CalF l.prog w K mg base 1 "first_registers" [] (spFirst) _ _ := ⟨PySem.W.mg_of X G a_firstregisters, k_firstregisters, b_firstregisters, ok_Ffirst F_firstregisters T⟩
  have X_C_board : CalC l.prog w K mg base CB 6 "Board" ["self", "image", "line"] (spBI CB CM) _ _ := ⟨⟨mkCB, a_CBinit, i_CBinit, kcCB⟩, PySem.W.mg_of X G aCB, b_CBinit, ok_Cboard F_CBinit T X_C_mem X_F_first X_F_image X_F_line⟩
  have X_L_dig : CalF l.prog w K mg base 1 "_law_digits" ["_law_cell_here", "_law_many"] (spDig) _ _ := ⟨PySem.W.mg_of X G a_lawdigits, k_lawdigits, b_lawdigits, ok_Ldig F_lawdigits T⟩
  have X_L_goby : CalF l.prog w K mg base 1 "_law_go_by" ["_law_stand", "_law_many"] (spGoBy) _ _ := ⟨PySem.W.mg_of X G a_lawgoby, k_lawgoby, b_lawgoby, ok_Lgoby F_lawgoby T⟩
  have X_L_bar : CalF l.prog w K mg base 1 "_law_barred" ["_law_stand", "_law_reads", "_law_puts"] (spBarred) _ _ := ⟨PySem.W.mg_of X G a_lawbarred, k_lawbarred, b_lawbarred, ok_Lbar F_lawbarred T⟩
  have X_L_lay : CalF l.prog w K mg base 1 "_law_lay" ["_law_stand", "_law_address", "_law_word"] (spLay) _ _ := ⟨PySem.W.mg_of X G a_lawlay, k_lawlay, b_lawlay, ok_Llay F_lawlay T⟩
  have X_L_halts : CalF l.prog w K mg base 1 "_law_halts" ["_law_stand", "_law_cause"] (spHalts) _ _ := ⟨PySem.W.mg_of X G a_lawhalts, k_lawhalts, b_lawhalts, ok_Lhalts F_lawhalts T⟩
  have X_L_done : CalF l.prog w K mg base 2 "_law_done" ["_law_stand", "_law_op", "_law_x", "_law_words", "_law_puts"] (spDone) _ _ := ⟨PySem.W.mg_of X G a_lawdone, k_lawdone, b_lawdone, ok_Ldone F_lawdone T X_L_lay⟩
  have X_L_deed : CalF l.prog w K mg base 4 "_law_deed" ["_law_stand"] (spLDeed) _ _ := ⟨PySem.W.mg_of X G a_lawdeed, k_lawdeed, b_lawdeed, ok_Ldeed F_lawdeed T X_L_bar X_L_done X_L_goby X_L_halts⟩
  have X_L_once : CalF l.prog w K mg base 5 "_law_once" ["_law_stand"] (spOnce) _ _ := ⟨PySem.W.mg_of X G a_lawonce, k_lawonce, b_lawonce, ok_Lonce F_lawonce T X_L_bar X_L_deed X_L_goby X_L_halts X_L_lay⟩
  have X_L_wby : CalF l.prog w K mg base 1 "_law_word_by" ["_law_number", "_law_many"] (spWordBy) _ _ := ⟨PySem.W.mg_of X G a_lawwordby, k_lawwordby, b_lawwordby, ok_Lwby F_lawwordby T⟩
  have X_L_dimg : CalF l.prog w K mg base 2 "_law_drawn_image" ["_law_cell_here"] (spDrawn) _ _ := ⟨PySem.W.mg_of X G a_lawdrawnimage, k_lawdrawnimage, b_lawdrawnimage, ok_Ldimg F_lawdrawnimage T X_L_dig X_L_wby⟩
  have X_L_dlin : CalF l.prog w K mg base 2 "_law_drawn_line" ["_law_cell_here"] (spLineOf) _ _ := ⟨PySem.W.mg_of X G a_lawdrawnline, k_lawdrawnline, b_lawdrawnline, ok_Ldlin F_lawdrawnline T X_L_dig⟩
  have X_L_new : CalF l.prog w K mg base 1 "_law_new" ["_law_image", "_law_line"] (spNewL) _ _ := ⟨PySem.W.mg_of X G a_lawnew, k_lawnew, b_lawnew, ok_Lnew F_lawnew T (PySem.W.mg_none_of X G z_dict)⟩
  have X_L_same : CalF l.prog w K mg base 1 "_law_same" ["_law_board", "_law_stand"] (spSame CB CM) _ _ := ⟨PySem.W.mg_of X G a_lawsame, k_lawsame, b_lawsame, ok_Lsame F_lawsame T⟩
  have X_L_like : CalF l.prog w K mg base 2 "_law_like_words" ["_law_board", "_law_stand", "_law_low", "_law_high"] (spLike5 CB CM) _ _ := ⟨PySem.W.mg_of X G a_lawlikewords, k_lawlikewords, b_lawlikewords, ok_Llike F_lawlikewords T X_M_at⟩
  have X_L_own : CalF l.prog w K mg base 1 "_law_own_twin" ["_law_stand"] (spOwn) _ _ := ⟨PySem.W.mg_of X G a_lawowntwin, k_lawowntwin, b_lawowntwin, ok_Lown F_lawowntwin T (PySem.W.mg_none_of X G z_dict)⟩
  have X_M_mstd : CalM l.prog w K mg base CM 1 "stand_as" ["self", "other"] (spMStd CM) _ _ := ⟨⟨pgCM, hdCM, poCM, saCM⟩, ⟨a_CMstandas, i_CMstandas, k_CMstandas⟩, b_CMstandas, ok_Mmstd F_CMstandas T⟩
  have X_M_bstd : CalM l.prog w K mg base CB 2 "stand_as" ["self", "other"] (spBStd CB CM) _ _ := ⟨⟨pgCB, hdCB, poCB, saCB⟩, ⟨a_CBstandas, i_CBstandas, k_CBstandas⟩, b_CBstandas, ok_Mbstd F_CBstandas T X_M_mstd (PySem.W.mg_none_of X G z_dict)⟩
  have X_M_twin : CalM l.prog w K mg base CB 8 "twin" ["self"] (spTwin CB CM) _ _ := ⟨⟨pgCB, hdCB, poCB, saCB⟩, ⟨a_CBtwin, i_CBtwin, k_CBtwin⟩, b_CBtwin, ok_Mtwin F_CBtwin T X_C_board X_M_bstd⟩
  exact ok_Llaw F_law T X_C_board X_L_dig X_L_dimg X_L_dlin X_L_like X_L_new X_L_once X_L_own X_L_same X_M_turn X_M_twin
end Bh

open PySem PySem.W PyProof.Rows in
set_option maxRecDepth 100000 in
set_option maxHeartbeats 0 in
theorem PySem.Challenge.cw_boardheld_k18_twins_holds : PySem.Challenge.rw_boardheld_k18_twins.Holds := by
  w_on; o_law; k_head; (case hw => w_witness2)
  k_fill
  refine L2.walk_of (l := PySem.Challenge.rw_boardheld_k18_twins) (n := 63) (k := 9) (x := "_law_script") (CX := fun _ => L2.CX0) (sp := fun w => Bh.spLaw _) rfl (by decide) rfl ⟨rfl, by decide, by decide⟩ (fun w h Y => PySem.W.kIn_of Y) ?F (fun _ _ a ns hl _ hS => ⟨a, ns, rfl, hS, hl, fun _ => rfl⟩) (fun _ _ _ _ _ h => h)
  case F =>
    intro w mg fa h KX G hmg
    refine' Bh.all_mk KX G hmg ?a_barof ?l_barof ?c_barof ?k_barof ?a_iswhole ?l_iswhole ?c_iswhole ?k_iswhole ?a_isbetween ?l_isbetween ?c_isbetween ?k_isbetween ?a_isword ?l_isword ?c_isword ?k_isword ?a_isimage ?l_isimage ?c_isimage ?k_isimage ?a_isline ?l_isline ?c_isline ?k_isline ?a_islinerow ?l_islinerow ?c_islinerow ?k_islinerow ?a_touchesof ?l_touchesof ?c_touchesof ?k_touchesof ?a_give ?l_give ?c_give ?k_give ?a_firstregisters ?l_firstregisters ?c_firstregisters ?k_firstregisters ?a_dolit ?l_dolit ?c_dolit ?k_dolit ?a_doget ?l_doget ?c_doget ?k_doget ?a_doput ?l_doput ?c_doput ?k_doput ?a_doadd ?l_doadd ?c_doadd ?k_doadd ?a_dosub ?l_dosub ?c_dosub ?k_dosub ?a_doand ?l_doand ?c_doand ?k_doand ?a_doxor ?l_doxor ?c_doxor ?k_doxor ?a_doputb ?l_doputb ?c_doputb ?k_doputb ?a_dotob ?l_dotob ?c_dotob ?k_dotob ?a_doswap ?l_doswap ?c_doswap ?k_doswap ?a_dogo ?l_dogo ?c_dogo ?k_dogo ?a_doifz ?l_doifz ?c_doifz ?k_doifz ?a_doifn ?l_doifn ?c_doifn ?k_doifn ?a_docall ?l_docall ?c_docall ?k_docall ?a_doret ?l_doret ?c_doret ?k_doret ?a_dopush ?l_dopush ?c_dopush ?k_dopush ?a_dopop ?l_dopop ?c_dopop ?k_dopop ?a_dosleep ?l_dosleep ?c_dosleep ?k_dosleep ?a_dolet ?l_dolet ?c_dolet ?k_dolet ?a_doback ?l_doback ?c_doback ?k_doback ?a_dohalf ?l_dohalf ?c_dohalf ?k_dohalf ?a_lawdigits ?l_lawdigits ?c_lawdigits ?k_lawdigits ?a_lawnew ?l_lawnew ?c_lawnew ?k_lawnew ?a_lawgoby ?l_lawgoby ?c_lawgoby ?k_lawgoby ?a_lawbarred ?l_lawbarred ?c_lawbarred ?k_lawbarred ?a_lawlay ?l_lawlay ?c_lawlay ?k_lawlay ?a_lawhalts ?l_lawhalts ?c_lawhalts ?k_lawhalts ?a_lawonce ?l_lawonce ?c_lawonce ?k_lawonce ?a_lawdeed ?l_lawdeed ?c_lawdeed ?k_lawdeed ?a_lawdone ?l_lawdone ?c_lawdone ?k_lawdone ?a_lawsame ?l_lawsame ?c_lawsame ?k_lawsame ?a_lawlikewords ?l_lawlikewords ?c_lawlikewords ?k_lawlikewords ?a_lawwordby ?l_lawwordby ?c_lawwordby ?k_lawwordby ?a_lawdrawnimage ?l_lawdrawnimage ?c_lawdrawnimage ?k_lawdrawnimage ?a_lawdrawnline ?l_lawdrawnline ?c_lawdrawnline ?k_lawdrawnline ?a_lawowntwin ?l_lawowntwin ?c_lawowntwin ?k_lawowntwin ?a_law ?l_law ?c_law ?k_law ?aCM ?a_CMinit ?i_CMinit ?l_CMinit ?c_CMinit ?k_CMinit ?a_CMwordat ?i_CMwordat ?l_CMwordat ?c_CMwordat ?k_CMwordat ?a_CMread ?i_CMread ?l_CMread ?c_CMread ?k_CMread ?a_CMput ?i_CMput ?l_CMput ?c_CMput ?k_CMput ?a_CMcalledflags ?i_CMcalledflags ?l_CMcalledflags ?c_CMcalledflags ?k_CMcalledflags ?a_CMtakeline ?i_CMtakeline ?l_CMtakeline ?c_CMtakeline ?k_CMtakeline ?a_CMgotimer ?i_CMgotimer ?l_CMgotimer ?c_CMgotimer ?k_CMgotimer ?a_CMstandas ?i_CMstandas ?l_CMstandas ?c_CMstandas ?k_CMstandas ?pgCM ?hdCM ?poCM ?saCM ?mkCM ?kcCM ?aCB ?a_CBinit ?i_CBinit ?l_CBinit ?c_CBinit ?k_CBinit ?a_CBcoming ?i_CBcoming ?l_CBcoming ?c_CBcoming ?k_CBcoming ?a_CBturn ?i_CBturn ?l_CBturn ?c_CBturn ?k_CBturn ?a_CBbegininterrupt ?i_CBbegininterrupt ?l_CBbegininterrupt ?c_CBbegininterrupt ?k_CBbegininterrupt ?a_CBdodeed ?i_CBdodeed ?l_CBdodeed ?c_CBdodeed ?k_CBdodeed ?a_CBmaytouch ?i_CBmaytouch ?l_CBmaytouch ?c_CBmaytouch ?k_CBmaytouch ?a_CBstop ?i_CBstop ?l_CBstop ?c_CBstop ?k_CBstop ?a_CBputbyturn ?i_CBputbyturn ?l_CBputbyturn ?c_CBputbyturn ?k_CBputbyturn ?a_CBputword ?i_CBputword ?l_CBputword ?c_CBputword ?k_CBputword ?a_CBpassbeats ?i_CBpassbeats ?l_CBpassbeats ?c_CBpassbeats ?k_CBpassbeats ?a_CBcomeline ?i_CBcomeline ?l_CBcomeline ?c_CBcomeline ?k_CBcomeline ?a_CBtwin ?i_CBtwin ?l_CBtwin ?c_CBtwin ?k_CBtwin ?a_CBstandas ?i_CBstandas ?l_CBstandas ?c_CBstandas ?k_CBstandas ?pgCB ?hdCB ?poCB ?saCB ?mkCB ?kcCB ?n_registers ?n_zero ?n_lets ?n_asleep ?n_beat ?n_stopped ?n_sent ?n_memory ?n_line ?n_line_at ?n_touched ?n_did ?n_bend ?n_words ?n_swapped ?g_FLASH_END ?g_RAM_END ?g_PLACES_END ?g_COUNT ?g_TOP ?g_FLAGS ?g_MASK ?g_LINE_IN ?g_LINE_OUT ?g_TIMER_FLAG ?g_LINE_FLAG ?g_WORD_MOST ?g_ERASED ?g_X_SPAN ?g_LINE_MOST ?g_STACK_TOP ?g_INTERRUPT_BEATS ?g_TIMER_PC ?g_LINE_PC ?g_WORDS ?g_HIGH ?g_aR ?l_aR ?v_aR ?g_aO ?l_aO ?v_aO ?g_aD ?l_aD ?kl_aD ?d_lit ?d_get ?d_put ?d_add ?d_sub ?d_and ?d_xor ?d_getb ?d_putb ?d_tob ?d_swap ?d_go ?d_ifz ?d_ifn ?d_call ?d_ret ?d_push ?d_pop ?d_sleep ?d_let ?d_back ?d_half ?z_len ?z_range ?z_isinstance ?z_all ?z_int ?z_bool ?z_list ?z_tuple ?z_divmod ?z_dict
    (case a_barof => k_is)
    (case l_barof => k_is)
    (case c_barof => k_is)
    (case k_barof => k_is)
    (case a_iswhole => k_is)
    (case l_iswhole => k_is)
    (case c_iswhole => k_is)
    (case k_iswhole => k_is)
    (case a_isbetween => k_is)
    (case l_isbetween => k_is)
    (case c_isbetween => k_is)
    (case k_isbetween => k_is)
    (case a_isword => k_is)
    (case l_isword => k_is)
    (case c_isword => k_is)
    (case k_isword => k_is)
    (case a_isimage => k_is)
    (case l_isimage => k_is)
    (case c_isimage => k_is)
    (case k_isimage => k_is)
    (case a_isline => k_is)
    (case l_isline => k_is)
    (case c_isline => k_is)
    (case k_isline => k_is)
    (case a_islinerow => k_is)
    (case l_islinerow => k_is)
    (case c_islinerow => k_is)
    (case k_islinerow => k_is)
    (case a_touchesof => k_is)
    (case l_touchesof => k_is)
    (case c_touchesof => k_is)
    (case k_touchesof => k_is)
    (case a_give => k_is)
    (case l_give => k_is)
    (case c_give => k_is)
    (case k_give => k_is)
    (case a_firstregisters => k_is)
    (case l_firstregisters => k_is)
    (case c_firstregisters => k_is)
    (case k_firstregisters => k_is)
    (case a_dolit => k_is)
    (case l_dolit => k_is)
    (case c_dolit => k_is)
    (case k_dolit => k_is)
    (case a_doget => k_is)
    (case l_doget => k_is)
    (case c_doget => k_is)
    (case k_doget => k_is)
    (case a_doput => k_is)
    (case l_doput => k_is)
    (case c_doput => k_is)
    (case k_doput => k_is)
    (case a_doadd => k_is)
    (case l_doadd => k_is)
    (case c_doadd => k_is)
    (case k_doadd => k_is)
    (case a_dosub => k_is)
    (case l_dosub => k_is)
    (case c_dosub => k_is)
    (case k_dosub => k_is)
    (case a_doand => k_is)
    (case l_doand => k_is)
    (case c_doand => k_is)
    (case k_doand => k_is)
    (case a_doxor => k_is)
    (case l_doxor => k_is)
    (case c_doxor => k_is)
    (case k_doxor => k_is)
    (case a_doputb => k_is)
    (case l_doputb => k_is)
    (case c_doputb => k_is)
    (case k_doputb => k_is)
    (case a_dotob => k_is)
    (case l_dotob => k_is)
    (case c_dotob => k_is)
    (case k_dotob => k_is)
    (case a_doswap => k_is)
    (case l_doswap => k_is)
    (case c_doswap => k_is)
    (case k_doswap => k_is)
    (case a_dogo => k_is)
    (case l_dogo => k_is)
    (case c_dogo => k_is)
    (case k_dogo => k_is)
    (case a_doifz => k_is)
    (case l_doifz => k_is)
    (case c_doifz => k_is)
    (case k_doifz => k_is)
    (case a_doifn => k_is)
    (case l_doifn => k_is)
    (case c_doifn => k_is)
    (case k_doifn => k_is)
    (case a_docall => k_is)
    (case l_docall => k_is)
    (case c_docall => k_is)
    (case k_docall => k_is)
    (case a_doret => k_is)
    (case l_doret => k_is)
    (case c_doret => k_is)
    (case k_doret => k_is)
    (case a_dopush => k_is)
    (case l_dopush => k_is)
    (case c_dopush => k_is)
    (case k_dopush => k_is)
    (case a_dopop => k_is)
    (case l_dopop => k_is)
    (case c_dopop => k_is)
    (case k_dopop => k_is)
    (case a_dosleep => k_is)
    (case l_dosleep => k_is)
    (case c_dosleep => k_is)
    (case k_dosleep => k_is)
    (case a_dolet => k_is)
    (case l_dolet => k_is)
    (case c_dolet => k_is)
    (case k_dolet => k_is)
    (case a_doback => k_is)
    (case l_doback => k_is)
    (case c_doback => k_is)
    (case k_doback => k_is)
    (case a_dohalf => k_is)
    (case l_dohalf => k_is)
    (case c_dohalf => k_is)
    (case k_dohalf => k_is)
    (case a_lawdigits => k_is)
    (case l_lawdigits => k_is)
    (case c_lawdigits => k_is)
    (case k_lawdigits => k_is)
    (case a_lawnew => k_is)
    (case l_lawnew => k_is)
    (case c_lawnew => k_is)
    (case k_lawnew => k_is)
    (case a_lawgoby => k_is)
    (case l_lawgoby => k_is)
    (case c_lawgoby => k_is)
    (case k_lawgoby => k_is)
    (case a_lawbarred => k_is)
    (case l_lawbarred => k_is)
    (case c_lawbarred => k_is)
    (case k_lawbarred => k_is)
    (case a_lawlay => k_is)
    (case l_lawlay => k_is)
    (case c_lawlay => k_is)
    (case k_lawlay => k_is)
    (case a_lawhalts => k_is)
    (case l_lawhalts => k_is)
    (case c_lawhalts => k_is)
    (case k_lawhalts => k_is)
    (case a_lawonce => k_is)
    (case l_lawonce => k_is)
    (case c_lawonce => k_is)
    (case k_lawonce => k_is)
    (case a_lawdeed => k_is)
    (case l_lawdeed => k_is)
    (case c_lawdeed => k_is)
    (case k_lawdeed => k_is)
    (case a_lawdone => k_is)
    (case l_lawdone => k_is)
    (case c_lawdone => k_is)
    (case k_lawdone => k_is)
    (case a_lawsame => k_is)
    (case l_lawsame => k_is)
    (case c_lawsame => k_is)
    (case k_lawsame => k_is)
    (case a_lawlikewords => k_is)
    (case l_lawlikewords => k_is)
    (case c_lawlikewords => k_is)
    (case k_lawlikewords => k_is)
    (case a_lawwordby => k_is)
    (case l_lawwordby => k_is)
    (case c_lawwordby => k_is)
    (case k_lawwordby => k_is)
    (case a_lawdrawnimage => k_is)
    (case l_lawdrawnimage => k_is)
    (case c_lawdrawnimage => k_is)
    (case k_lawdrawnimage => k_is)
    (case a_lawdrawnline => k_is)
    (case l_lawdrawnline => k_is)
    (case c_lawdrawnline => k_is)
    (case k_lawdrawnline => k_is)
    (case a_lawowntwin => k_is)
    (case l_lawowntwin => k_is)
    (case c_lawowntwin => k_is)
    (case k_lawowntwin => k_is)
    (case a_law => k_is)
    (case l_law => k_is)
    (case c_law => k_is)
    (case k_law => k_is)
    (case aCM => k_is)
    (case a_CMinit => k_is)
    (case i_CMinit => k_is)
    (case l_CMinit => k_is)
    (case c_CMinit => k_is)
    (case k_CMinit => k_is)
    (case a_CMwordat => k_is)
    (case i_CMwordat => k_is)
    (case l_CMwordat => k_is)
    (case c_CMwordat => k_is)
    (case k_CMwordat => k_is)
    (case a_CMread => k_is)
    (case i_CMread => k_is)
    (case l_CMread => k_is)
    (case c_CMread => k_is)
    (case k_CMread => k_is)
    (case a_CMput => k_is)
    (case i_CMput => k_is)
    (case l_CMput => k_is)
    (case c_CMput => k_is)
    (case k_CMput => k_is)
    (case a_CMcalledflags => k_is)
    (case i_CMcalledflags => k_is)
    (case l_CMcalledflags => k_is)
    (case c_CMcalledflags => k_is)
    (case k_CMcalledflags => k_is)
    (case a_CMtakeline => k_is)
    (case i_CMtakeline => k_is)
    (case l_CMtakeline => k_is)
    (case c_CMtakeline => k_is)
    (case k_CMtakeline => k_is)
    (case a_CMgotimer => k_is)
    (case i_CMgotimer => k_is)
    (case l_CMgotimer => k_is)
    (case c_CMgotimer => k_is)
    (case k_CMgotimer => k_is)
    (case a_CMstandas => k_is)
    (case i_CMstandas => k_is)
    (case l_CMstandas => k_is)
    (case c_CMstandas => k_is)
    (case k_CMstandas => k_is)
    (case pgCM => k_is)
    (case hdCM => k_is)
    (case poCM => k_is)
    (case saCM => k_is)
    (case mkCM => k_is)
    (case kcCM => k_is)
    (case aCB => k_is)
    (case a_CBinit => k_is)
    (case i_CBinit => k_is)
    (case l_CBinit => k_is)
    (case c_CBinit => k_is)
    (case k_CBinit => k_is)
    (case a_CBcoming => k_is)
    (case i_CBcoming => k_is)
    (case l_CBcoming => k_is)
    (case c_CBcoming => k_is)
    (case k_CBcoming => k_is)
    (case a_CBturn => k_is)
    (case i_CBturn => k_is)
    (case l_CBturn => k_is)
    (case c_CBturn => k_is)
    (case k_CBturn => k_is)
    (case a_CBbegininterrupt => k_is)
    (case i_CBbegininterrupt => k_is)
    (case l_CBbegininterrupt => k_is)
    (case c_CBbegininterrupt => k_is)
    (case k_CBbegininterrupt => k_is)
    (case a_CBdodeed => k_is)
    (case i_CBdodeed => k_is)
    (case l_CBdodeed => k_is)
    (case c_CBdodeed => k_is)
    (case k_CBdodeed => k_is)
    (case a_CBmaytouch => k_is)
    (case i_CBmaytouch => k_is)
    (case l_CBmaytouch => k_is)
    (case c_CBmaytouch => k_is)
    (case k_CBmaytouch => k_is)
    (case a_CBstop => k_is)
    (case i_CBstop => k_is)
    (case l_CBstop => k_is)
    (case c_CBstop => k_is)
    (case k_CBstop => k_is)
    (case a_CBputbyturn => k_is)
    (case i_CBputbyturn => k_is)
    (case l_CBputbyturn => k_is)
    (case c_CBputbyturn => k_is)
    (case k_CBputbyturn => k_is)
    (case a_CBputword => k_is)
    (case i_CBputword => k_is)
    (case l_CBputword => k_is)
    (case c_CBputword => k_is)
    (case k_CBputword => k_is)
    (case a_CBpassbeats => k_is)
    (case i_CBpassbeats => k_is)
    (case l_CBpassbeats => k_is)
    (case c_CBpassbeats => k_is)
    (case k_CBpassbeats => k_is)
    (case a_CBcomeline => k_is)
    (case i_CBcomeline => k_is)
    (case l_CBcomeline => k_is)
    (case c_CBcomeline => k_is)
    (case k_CBcomeline => k_is)
    (case a_CBtwin => k_is)
    (case i_CBtwin => k_is)
    (case l_CBtwin => k_is)
    (case c_CBtwin => k_is)
    (case k_CBtwin => k_is)
    (case a_CBstandas => k_is)
    (case i_CBstandas => k_is)
    (case l_CBstandas => k_is)
    (case c_CBstandas => k_is)
    (case k_CBstandas => k_is)
    (case pgCB => k_is)
    (case hdCB => k_is)
    (case poCB => k_is)
    (case saCB => k_is)
    (case mkCB => k_is)
    (case kcCB => k_is)
    (case n_registers => k_is)
    (case n_zero => k_is)
    (case n_lets => k_is)
    (case n_asleep => k_is)
    (case n_beat => k_is)
    (case n_stopped => k_is)
    (case n_sent => k_is)
    (case n_memory => k_is)
    (case n_line => k_is)
    (case n_line_at => k_is)
    (case n_touched => k_is)
    (case n_did => k_is)
    (case n_bend => k_is)
    (case n_words => k_is)
    (case n_swapped => k_is)
    (case g_FLASH_END => k_is)
    (case g_RAM_END => k_is)
    (case g_PLACES_END => k_is)
    (case g_COUNT => k_is)
    (case g_TOP => k_is)
    (case g_FLAGS => k_is)
    (case g_MASK => k_is)
    (case g_LINE_IN => k_is)
    (case g_LINE_OUT => k_is)
    (case g_TIMER_FLAG => k_is)
    (case g_LINE_FLAG => k_is)
    (case g_WORD_MOST => k_is)
    (case g_ERASED => k_is)
    (case g_X_SPAN => k_is)
    (case g_LINE_MOST => k_is)
    (case g_STACK_TOP => k_is)
    (case g_INTERRUPT_BEATS => k_is)
    (case g_TIMER_PC => k_is)
    (case g_LINE_PC => k_is)
    (case g_WORDS => k_is)
    (case g_HIGH => k_is)
    (case g_aR => k_is)
    (case l_aR => k_is)
    (case v_aR => decide +kernel)
    (case g_aO => k_is)
    (case l_aO => k_is)
    (case v_aO => decide +kernel)
    (case g_aD => k_is)
    (case l_aD => k_is)
    (case kl_aD => (repeat (first | exact True.intro | refine ⟨⟨_, _, rfl, rfl⟩, ?_⟩)))
    (case d_lit => k_is)
    (case d_get => k_is)
    (case d_put => k_is)
    (case d_add => k_is)
    (case d_sub => k_is)
    (case d_and => k_is)
    (case d_xor => k_is)
    (case d_getb => k_is)
    (case d_putb => k_is)
    (case d_tob => k_is)
    (case d_swap => k_is)
    (case d_go => k_is)
    (case d_ifz => k_is)
    (case d_ifn => k_is)
    (case d_call => k_is)
    (case d_ret => k_is)
    (case d_push => k_is)
    (case d_pop => k_is)
    (case d_sleep => k_is)
    (case d_let => k_is)
    (case d_back => k_is)
    (case d_half => k_is)
    (case z_len => k_is)
    (case z_range => k_is)
    (case z_isinstance => k_is)
    (case z_all => k_is)
    (case z_int => k_is)
    (case z_bool => k_is)
    (case z_list => k_is)
    (case z_tuple => k_is)
    (case z_divmod => k_is)
    (case z_dict => k_is)

