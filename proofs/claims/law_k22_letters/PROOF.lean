import PyProof.Rows.All
import Wide.All
import OpenK.AllK
import Wide.FinOn
import HandS.ForMost
import HandS.IsInst
import HandS.ForExc
import HandS.CallLocal
import HandS.More
import PySem.Challenge.RW_boardheld_k22_letters
import HandS.HeadEnd
import HandS.HeadHook3
import HandS.HeadNt
import HandS.Head2
import HandS.FStr
import HandS.Strs
import HandS.StrMore
import HandS.DeepEq
import HandS.Style
import HandS.Iter
import HandS.Text
import HandS.Zip
import HandS.ExcIs
import HandS.ExcOwn
import KE.GoesEnum
import HandS.Codes
import KE.DataEq
set_option Elab.async false
set_option linter.all false
set_option maxRecDepth 100000
set_option maxHeartbeats 4000000
/-! What the top has written, read off its run; the head. -/
namespace Bh
open PySem PySem.Spec PyProof.Rows L2 PySem.W
def topR (i : Nat) : Stmt := PySem.Challenge.pw_boardheld_k22_letters.main.body.getD i (.Pass ⟨0, 0, 0, 0⟩)
/-- a fragment told by addresses, handed on whole -/
def gath {α : Type} (g : Addr → Option Obj) : List Addr → (PySem.W.Frag → α) → α
  | [], k => k []
  | a :: r, k => match g a with
    | some o => gath g r fun K => k ((a, o) :: K)
    | none => gath g r k
theorem gath_eq {α : Type} (g : Addr → Option Obj) : ∀ (as : List Addr) (k : PySem.W.Frag → α), gath g as k = k (He.frG g as)
  | [], k => rfl
  | a :: r, k => by
    unfold gath He.frG
    rw [List.filterMap_cons]
    cases e : g a with
    | none => exact gath_eq g r k
    | some o => exact gath_eq g r _
abbrev AlH : Type := He.AlT × List Bool
def obsH (fa : List He.Fa) (fn : List He.DefD) (ts : List He.Tab) (xl : PySem.W.Frag → List Bool) (K : PySem.W.Frag) : AlH := (He.obsT fa fn ts K, xl K)
def SaysH (fa : List He.Fa) (fn : List He.DefD) (ts : List He.Tab) (xl : PySem.W.Frag → List Bool) (nx : Nat) (w : World) (K : PySem.W.Frag) : Prop := obsH fa fn ts xl K = (He.valT fn ts w, List.replicate nx true)
def hookH (as : List Addr) (fa : List He.Fa) (fn : List He.DefD) (ts : List He.Tab) (xl : PySem.W.Frag → List Bool) (nx : Nat) : PySem.W.Hook where
  α := AlH
  obs := fun s => gath s.heap.get? as (obsH fa fn ts xl)
  val := fun w => (He.valT fn ts w, List.replicate nx true)
  says := fun w h => ∃ K : PySem.W.Frag, K.In h ∧ SaysH fa fn ts xl nx w K
  of := fun _ _ e => ⟨_, He.frG_in, by
    rw [gath_eq] at e
    exact e⟩
  keeps := fun _ _ _ ⟨K, hK, c⟩ k => ⟨K, PySem.W.Frag.In.keeps hK k, c⟩
section
variable {fa : List He.Fa} {fn : List He.DefD} {ts : List He.Tab} {xl : PySem.W.Frag → List Bool} {nx : Nat} {w : World} {K : PySem.W.Frag}
theorem SaysH.t (c : SaysH fa fn ts xl nx w K) : He.SaysT fa fn ts w K := congrArg (fun z : AlH => z.1) c
theorem SaysH.fact (c : SaysH fa fn ts xl nx w K) (i : Nat) {f : He.Fa} (h : fa[i]? = some f) : f.ok K = true := c.t.d.fact i h
theorem SaysH.def_ (c : SaysH fa fn ts xl nx w K) (i : Nat) {d : He.DefD} (h : fn[i]? = some d) : ∃ fd, FunD K d.name d.qual d.params d.body d.scope (d.dvs K) (d.kws K) (He.fAd K d.at_) fd := c.t.d.def_ i h
theorem SaysH.tab (c : SaysH fa fn ts xl nx w K) (i : Nat) {t : He.Tab} (h : ts[i]? = some t) : ∃ es n, KDict K w (t.1 K) es n := c.t.tab i h
theorem SaysH.x (c : SaysH fa fn ts xl nx w K) (i : Nat) {b : Bool} (h : (xl K)[i]? = some b) : b = true := by
  have e : xl K = List.replicate nx true := congrArg (fun z : AlH => z.2) c
  rw [e] at h
  have m := List.mem_of_getElem? h
  exact (List.mem_replicate.mp m).2
end
def asL0 : List Addr := [3, 52, 51, 59, 58, 87, 86, 120, 119, 94, 93, 80, 79, 99, 98, 106, 105, 46, 45, 66, 65, 113, 112, 125]
def asL1 : List Addr := [124, 37, 36, 24, 23, 47]
def asL : List Addr := asL0 ++ asL1

def looseL0 : List Str := ["BoardError", "NoLetter", "figured", "KINDS", "NUMBER_FIGURES", "CHECK_FIGURES", "CHECK_SPAN", "check_of", "letter_of", "opened", "_law_cell", "_law_digits", "_law_signs", "_law_check", "_law_number", "_law_due", "_law_told", "_law_bent"]
def looseL : List Str := looseL0

def faL0 : List He.Fa := [.int "NUMBER_FIGURES" 5, .int "CHECK_FIGURES" 4, .int "CHECK_SPAN" 9973, .glo "KINDS", .free "len", .free "range", .free "int", .free "str", .free "ord", .free "sum", .free "enumerate", .free "isinstance", .glo "NoLetter", .keep "NoLetter", .exc "NoLetter", .glo "BoardError", .exm "NoLetter" "BoardError" true, .glo "check_of", .glo "letter_of", .glo "_law_signs", .glo "_law_bent", .glo "_law_check", .glo "_law_digits", .glo "_law_number"]
def faL1 : List He.Fa := [.glo "_law_due", .glo "figured", .glo "opened", .glo "_law_told", .glo "law"]
def faL : List He.Fa := faL0 ++ faL1

def d_checkof : He.DefD := (⟨("check_of", none), "check_of", "check_of", defArgs (topR 10), defBody (topR 10), defScope (topR 10), [], []⟩ : He.DefD)
def d_letterof : He.DefD := (⟨("letter_of", none), "letter_of", "letter_of", defArgs (topR 11), defBody (topR 11), defScope (topR 11), [], []⟩ : He.DefD)
def d_lawsigns : He.DefD := (⟨("_law_signs", none), "_law_signs", "_law_signs", defArgs (topR 16), defBody (topR 16), defScope (topR 16), [], []⟩ : He.DefD)
def d_lawbent : He.DefD := (⟨("_law_bent", none), "_law_bent", "_law_bent", defArgs (topR 21), defBody (topR 21), defScope (topR 21), [], []⟩ : He.DefD)
def d_lawcheck : He.DefD := (⟨("_law_check", none), "_law_check", "_law_check", defArgs (topR 17), defBody (topR 17), defScope (topR 17), [], []⟩ : He.DefD)
def d_lawdigits : He.DefD := (⟨("_law_digits", none), "_law_digits", "_law_digits", defArgs (topR 15), defBody (topR 15), defScope (topR 15), [], []⟩ : He.DefD)
def d_lawnumber : He.DefD := (⟨("_law_number", none), "_law_number", "_law_number", defArgs (topR 18), defBody (topR 18), defScope (topR 18), [], []⟩ : He.DefD)
def d_lawdue : He.DefD := (⟨("_law_due", none), "_law_due", "_law_due", defArgs (topR 19), defBody (topR 19), defScope (topR 19), [], []⟩ : He.DefD)
def d_figured : He.DefD := (⟨("figured", none), "figured", "figured", defArgs (topR 4), defBody (topR 4), defScope (topR 4), [], []⟩ : He.DefD)
def d_opened : He.DefD := (⟨("opened", none), "opened", "opened", defArgs (topR 12), defBody (topR 12), defScope (topR 12), [], []⟩ : He.DefD)
def d_lawtold : He.DefD := (⟨("_law_told", none), "_law_told", "_law_told", defArgs (topR 20), defBody (topR 20), defScope (topR 20), [], []⟩ : He.DefD)
def d_law : He.DefD := (⟨("law", none), "law", "law", defArgs (topR 22), defBody (topR 22), defScope (topR 22), [], []⟩ : He.DefD)
def fnL0 : List He.DefD := [d_checkof, d_letterof, d_lawsigns, d_lawbent, d_lawcheck, d_lawdigits, d_lawnumber, d_lawdue, d_figured, d_opened, d_lawtold, d_law]
def fnL : List He.DefD := fnL0

def tsL : List He.Tab := []
def xl0 (K : PySem.W.Frag) : List Bool := [He.tupB K "KINDS" [.str "q", .str "a"], decide (PySem.W.subIn K (.ref (He.ga K "NoLetter")) (.type "BaseException") = some true), decide (PySem.W.typeIn K (.ref (He.ga K "NoLetter")) = some (.type "type")), He.eqO (PySem.W.findIn K (.ref (He.ga K "NoLetter")) "__getattribute__") (some (some (.builtin "BaseException.__getattribute__"))), He.eqO (PySem.W.findIn K (.ref (He.ga K "NoLetter")) "__getattr__") (some none), PySem.W.hasDictIn K (He.ga K "NoLetter"), He.eqO (PySem.W.findIn K (.ref (He.ga K "NoLetter")) "__class__") (some (some (.builtin "object.__class__"))), He.eqO (PySem.W.specialIn K (.builtin "object.__class__") "__get__") (some (some (.builtin "getset_descriptor.__get__"))), decide (PySem.W.takesIn K (.builtin "object.__class__") = some true), decide (PySem.W.mroIn K (He.ga K "NoLetter") (.type "object") = some true), decide (PySem.W.kitOne K (.ref (He.ga K "NoLetter")) (.ref (He.ga K "NoLetter")) = some true)]
def xlL (K : PySem.W.Frag) : List Bool := xl0 K
abbrev RR : PySem.W.OpenRow := PySem.W.OpenLaw.row PySem.Challenge.rw_boardheld_k22_letters
abbrev hkH : PySem.W.Hook := hookH asL faL fnL tsL xlL 11
def obL (s : PySem.W.SharedT) : AlH := gath (HandSHeadRun.getT s) asL (obsH faL fnL tsL xlL)
theorem obL_eq (s : PySem.W.SharedT) : obL s = hkH.obs s.abs := by
  have e : HandSHeadRun.getT s = s.abs.heap.get? := funext (HandSHeadRun.getT_eq s)
  unfold obL
  rw [e]
  rfl
abbrev qV : Program := PySem.W.view RR.prog [22]
set_option maxHeartbeats 0 in
theorem runF (w : World) : HandSHeadRun.RunEq RR qV hkH obL 10000 looseL (w.withFollow "special-get-raises" false) := by
  intro os
  kernel_rfl
set_option maxHeartbeats 0 in
theorem runT (w : World) : HandSHeadRun.RunEq RR qV hkH obL 10000 looseL (w.withFollow "special-get-raises" true) := by
  intro os
  kernel_rfl
theorem run (w : World) : HandSHeadRun.RunEq RR qV hkH obL 10000 looseL w := byRow2 "special-get-raises" runF runT w
end Bh

/-! Small helps. -/
namespace Bh
open PySem PySem.Spec PyProof.Rows L2
theorem same_upd' {H : Hp} {p : Addr} {o : HO} (h : H p = none) : Same H (upd H p o) := fun b x e => by
  rw [upd_ne (ne_of_none e h)]
  exact e
theorem same_of {H0 H : Hp} {x : Addr} {o : HO} (sm : Same H0 H) (fx : H0 x = none) : Same H0 (upd H x o) := fun b y e => by
  rw [upd_ne (ne_of_none e fx)]
  exact sm _ _ e
theorem upd_upd {H : Hp} {p : Addr} {o o' : HO} : upd (upd H p o) p o' = upd H p o' := by
  funext b
  by_cases h : b = p
  · subst h
    rw [upd_same, upd_same]
  · rw [upd_ne h, upd_ne h, upd_ne h]
theorem upd_id {H : Hp} {p : Addr} {o : HO} (h : H p = some o) : upd H p o = H := by
  funext b
  by_cases e : b = p
  · subst e
    rw [upd_same, h]
  · rw [upd_ne e]
theorem ifN {c : Bool} {A B : Prop} (h1 : c = false → A) (h2 : c = true → B) : if (!c) = true then A else B := by
  cases c with
  | true => exact h2 rfl
  | false => exact h1 rfl
theorem ifJ {c : Bool} {A B : Prop} (h1 : B) (h2 : c = true → B → A) : if c = true then A else B := by
  cases c with
  | true => exact h2 rfl h1
  | false => exact h1
theorem ifB {c : Bool} {A B : Prop} (h1 : c = true → A) (h2 : c = false → B) : if c = true then A else B := by
  cases c with
  | true => exact h1 rfl
  | false => exact h2 rfl
section
variable {X : Cx}
theorem pgI {x : Str} {n : Int} {t : Tok} {pos : Pos} (hm : X.mg x = some (.int n t)) (hg : Gl X x := by rfl) (hd : (x == ("__debug__" : Str)) = false := by decide) : PE X (.Name x pos) (tC (.int n)) := pe_glob (v := .int n) hg hm ⟨t, rfl⟩ hd
theorem pgR {x : Str} {a : Addr} {pos : Pos} (hm : X.mg x = some (.ref a)) (hg : Gl X x := by rfl) (hd : (x == ("__debug__" : Str)) = false := by decide) : PE X (.Name x pos) (tC (.ref a)) := pe_glob (v := .ref a) hg hm rfl hd
theorem ix_listK {K : PySem.W.Frag} (h : X.K = K := by rfl) : IxR X (rIxL K) := by
  subst h
  exact ix_list
theorem ix_tupK {K : PySem.W.Frag} (h : X.K = K := by rfl) : IxR X (rIxT K) := by
  subst h
  exact ix_tup
end
theorem gtK {X : Cx} {K : PySem.W.Frag} {n : Nat} {es : List Expr} {k : Nat} {pos : Pos} {t : TGs} (hK : X.K = K) (hc : X.calm = true) (h : PGs X es t) (hn : (assignEach es X.env).length = n) (hst : (assignEach es X.env).findIdx? (·.1) = none) : PG X (.Tuple es k pos) (gTup K n t) := by
  subst hK
  subst hn
  exact pg_tup hc h rfl hst
theorem pe_fldK {X : Cx} {K : PySem.W.Frag} {e : Expr} {f : Str} {pos : Pos} {ta : TE} (hK : X.K = K) (he : PE X e ta) (hb : attributeBase e f X.env (eval e X.env) = eval e X.env) : PE X (.Attribute e f pos) (tFld K ta f) := by
  subst hK
  exact pe_fld he hb
section
variable (P : Program) (w : World) (K : PySem.W.Frag) (mg : Str → Option Value) (base : Heap)
/-- a def that may be called by its name -/
structure CalF (k : Nat) (nm : Str) (ps : List Str) (sp : Sp) (f : Addr) (fd : FuncData) : Prop where
  g : mg nm = some (.ref f)
  kp : PySem.W.keepIn K (.ref f) = true
  b : Binds K fd ps []
  G : FnOk P w K mg base CX0 k f fd ps sp
structure CalM (C : Addr) (k : Nat) (nm : Str) (ps : List Str) (sp : Sp) (f : Addr) (fd : FuncData) : Prop where
  c : Cls K C
  m : Meth K C nm f
  b : Binds K fd ps []
  G : FnOk P w K mg base CX0 k f fd ps sp
/-- a class that may be called by its name -/
structure CalC (C : Addr) (k : Nat) (nm : Str) (ps : List Str) (sp : Sp) (f : Addr) (fd : FuncData) : Prop where
  M : Mk K C f
  g : mg nm = some (.ref C)
  b : Binds K fd ps []
  I : FnOk P w K mg base CX0 k f fd ps sp
end
end Bh

/-! Rules: a text times a number; a text turned round; enumerate(text, k). -/
namespace Bh
open PySem PySem.Spec PyProof.Rows L2
open TL
section
variable {X : Cx}
theorem foldl_repN (its : List Nat) : ∀ (k : Nat) (acc : List Nat),
    List.foldl (fun x1 x2 => x1 ++ x2) acc.toArray (List.replicate k its.toArray) = (acc ++ (List.replicate k its).flatten).toArray
  | 0, acc => by simp
  | k + 1, acc => by
    have e : acc.toArray ++ its.toArray = (acc ++ its).toArray := by simp
    have e2 : acc ++ its ++ (List.replicate k its).flatten = acc ++ (List.replicate (k + 1) its).flatten := by rw [List.replicate_succ, List.flatten_cons, List.append_assoc]
    rw [← e2, ← foldl_repN its k (acc ++ its), ← e, List.replicate_succ, List.foldl_cons]
def timesS (z : Str) (k : Nat) : Str := ⟨(List.replicate k (tl z)).flatten.toArray⟩
theorem len_times (z : Str) (k : Nat) : (timesS z k).length = k * z.length := by
  show ((List.replicate k (tl z)).flatten.toArray).size = k * z.cps.size
  rw [List.size_toArray, PyProof.Rows.lm_len_rep_flat, ← Array.length_toList]
theorem times_one (z : Str) : timesS z 1 = z := by
  unfold timesS
  rw [show List.replicate 1 (tl z) = [tl z] from rfl, List.flatten_singleton]
theorem op_mul_str : OpR X (binaryOp .Mult) (fun x y H Q => ∃ (z : Str) (k : Nat), x = .str z ∧ y = .int (k : Int) ∧ 1 ≤ k ∧ k ≤ 1000 ∧ k * z.length ≤ sizeLine ∧ Q (.str (timesS z k)) H) := by
  intro pins s σ H x y v u Q I rx ry h
  obtain ⟨z, k, rfl, rfl, k1, k2, hz, q⟩ := h
  obtain ⟨t, rfl⟩ := rx
  obtain ⟨t', rfl⟩ := ry
  have hn : ¬ (k : Int) < 1 := by omega
  have hk : ((k : Int)).toNat = k := rfl
  have hlen : z.length ≤ sizeLine := Nat.le_trans (Nat.le_mul_of_pos_left _ k1) hz
  refine PySem.P.mul_str ?_ (fun _ _ => ?_) (fun _ _ => ?_) ?_
  · have h1 : ¬ (k : Int) < -(2 ^ 63 : Int) := by omega
    have h2 : ¬ (k : Int) ≥ 2 ^ 63 := by omega
    rw [decide_eq_false h1, decide_eq_false h2]; rfl
  · intro h
    have h3 : (2 ^ 63 - 1 : Int) / 1000 ≤ (2 ^ 63 - 1) / (k : Int) := by
      apply Int.le_ediv_of_mul_le (by omega)
      have : (2 ^ 63 - 1 : Int) / 1000 = 9223372036854775 := by decide
      rw [this]
      have : (9223372036854775 : Int) * k ≤ 9223372036854775 * 1000 := Int.mul_le_mul_of_nonneg_left (by omega) (by decide)
      omega
    have h4 : (2 ^ 63 - 1 : Int) / 1000 = 9223372036854775 := by decide
    have h5 : (sizeLine : Nat) ≤ 9223372036854775 := by decide
    omega
  · rw [hk, Nat.mul_comm]
    exact PyProof.Rows.short24 hz
  · rw [if_neg hn]
    by_cases c : ((k : Int) == 1 || z.length == 0) = true
    · rw [if_pos c]
      have e : timesS z k = z := by
        rcases Bool.or_eq_true _ _ ▸ c with c | c
        · have : k = 1 := by have := of_decide_eq_true c; omega
          rw [this, times_one]
        · have h0 : z.length = 0 := eq_of_beq c
          have h1 : tl z = [] := List.eq_nil_of_length_eq_zero (by rw [← h0]; exact Array.length_toList)
          unfold timesS
          rw [h1, ← mk_tl z, h1]
          have : (List.replicate k ([] : List Nat)).flatten = [] := by simp
          rw [this]
      rw [e] at q
      exact ⟨.str z, H, I, ⟨t, rfl⟩, q⟩
    · rw [if_neg c]
      have e : (⟨(List.replicate ((k : Int)).toNat z.cps).foldl (· ++ ·) #[]⟩ : Str) = timesS z k := by
        have := foldl_repN (tl z) k []
        rw [List.nil_append] at this
        unfold timesS
        rw [← this]
        simp
      rw [e]
      exact ⟨by rw [len_times]; exact hz, .str _, H, I.tok _, ⟨_, rfl⟩, q⟩
def tRevS (te : TE) : TE := fun σ H Q => te σ H fun x H1 => ∃ z, x = .str z ∧ 1 ≤ z.length ∧ z.length ≤ 2 ∧ Q (.str ⟨(tl z).reverse.toArray⟩) H1
theorem pick_rev (z : Str) (h1 : 1 ≤ z.length) (h2 : z.length ≤ 2) : (Builtin.Str.strSliceIndices none none (-1) z.length).filterMap (z.cps[·]?) = (tl z).reverse := by
  obtain ⟨⟨l⟩⟩ := z
  match l, h1, h2 with
  | [a], _, _ =>
    show (Builtin.Str.strSliceIndices none none (-1) 1).filterMap _ = _
    rw [show Builtin.Str.strSliceIndices none none (-1) 1 = [0] by decide]
    rfl
  | [a, b], _, _ =>
    show (Builtin.Str.strSliceIndices none none (-1) 2).filterMap _ = _
    rw [show Builtin.Str.strSliceIndices none none (-1) 2 = [1, 0] by decide]
    rfl
  | a :: b :: c :: r, _, h => exact absurd (show r.length + 3 ≤ 2 from h) (by omega)
theorem pe_revS {e : Expr} {te : TE} {k : Nat} {p1 p2 p3 pos : Pos} (he : PE X e te) : PE X (.Subscript e (.Slice none none (some (.UnaryOp .USub (.Constant (.int 1) k p1) p2)) p3) pos) (tRevS te) := by
  refine ⟨fun pins s σ H Q I h => ?_⟩
  refine Subscript_ (thn (he.run pins s σ H _ I h) fun v s1 ⟨x, H1, I1, r1, q1⟩ => ?_)
  obtain ⟨z, ex, hz1, hz2, q⟩ := q1
  subst ex
  obtain ⟨t, rfl⟩ := r1
  have hst : PO X (some (.UnaryOp .USub (.Constant (.int 1) k p1) p2)) (tPart (tUn (rU fun i => .int (-i)) (tC (.int 1)))) := po_some (pe_un un_neg pe_int)
  refine wpAny_Slice (thn (po_none.run pins s1 σ H1 (fun o H2 => o = none ∧ H2 = H1) I1 ⟨rfl, rfl⟩) fun vl s2 ⟨l, H2, I2, pl, el, e2⟩ => ?_)
  subst el e2
  refine thn (po_none.run pins s2 σ H2 (fun o H3 => o = none ∧ H3 = H2) I2 ⟨rfl, rfl⟩) fun vu s3 ⟨u, H3, I3, pu, eu, e3⟩ => ?_
  subst eu e3
  refine thn (hst.run pins s3 σ H3 (fun o H4 => o = some (-1) ∧ H4 = H3) I3 ⟨1, rfl, -1, rfl, rfl, rfl⟩) fun vs s4 ⟨o, H4, I4, ps, eo, e4⟩ => ?_
  subst eo e4
  have I5 : Inv X pins σ H4 { s4 with heap := s4.heap.push { cls := .type "slice", data := .fields #[vl, vu, vs] } } := I4.kept (t' := s4.toks) fun b ob q => Heap.get?_push_of_some _ q
  show wpAny (model X.prog X.w) X.A (subscriptTail e (.Slice none none (some (.UnaryOp .USub (.Constant (.int 1) k p1) p2)) p3) (.str z t) (.ref s4.heap.objs.size)) (EP X pins σ Q) X.xe { s4 with heap := s4.heap.push { cls := .type "slice", data := .fields #[vl, vu, vs] } }
  refine tail_any (ops := [.str z t, .ref s4.heap.objs.size]) (typeIs_str _ _ _) (F.slot_str_getitem.lookup) ?_ (by with_unfolding_all rfl)
  obtain ⟨l, rfl, hl⟩ := IsPart.raw pl
  obtain ⟨u, rfl, hu⟩ := IsPart.raw pu
  obtain ⟨st, rfl, hs⟩ := IsPart.raw ps
  refine wpAny_getItem_str_slice (l := l) (u := u) (st := st) (Heap.IsSliceOf.new _ _ _ _) (by rw [hs]; rfl) ?_
  have e : Made.post (Made.str ⟨((Builtin.Str.strSliceIndices none none (-1) z.length).filterMap (z.cps[·]?)).toArray⟩) (EP X pins σ Q) { s4 with heap := s4.heap.push { cls := .type "slice", data := .fields #[partValue l, partValue u, partValue st] } } := by
    rw [pick_rev z hz1 hz2]
    refine ⟨?_, .str _, H4, I5.tok _, ⟨_, rfl⟩, q⟩
    show ((tl z).reverse.toArray).size ≤ sizeLine
    rw [List.size_toArray, List.length_reverse]
    exact Nat.le_trans (show z.cps.toList.length ≤ 2 by rw [Array.length_toList]; exact hz2) (by decide)
  unfold sliceMade slicePicked
  rw [hs, hl, hu]
  exact e
end
section
variable {P : Program} {w : World} {K : PySem.W.Frag}
/-- the signs of x in new pairs, told from k on -/
def Iek (x : Str) (k : Int) : It := ⟨fun i _ => i < x.cps.size, fun i H v H' => ∃ T c, v = .ref T ∧ H T = none ∧ x.cps[i]? = some c ∧ H' = upd H T (.tup [.int (k + (i : Nat)), .str ⟨#[c]⟩]), fun i _ => x.cps.size ≤ i⟩
theorem turn_enumS {elts : List Expr} {kk : Nat} {tpos : Pos} (e it : Addr) (x : Str) (t : Tok) (k : Int) :
    Turn P w K (.Tuple elts kk tpos) (Iek x k) [e, it] e (fun i h => (∃ old, IsEnum h e it (k + ((i : Nat) : Int)) old) ∧ h.IsStrIter it (strIterType x) x t i ∧ e ≠ it ∧ i ≤ x.cps.size) where
  mem := by simp
  obj := fun i h st b hb => by
    obtain ⟨⟨old, he⟩, ⟨o, ho, hc, hd⟩, _⟩ := st
    have e' : b = e ∨ b = it := by simpa using hb
    rcases e' with z | z
    · rw [z]; exact ⟨_, he, fun v q => nomatch q⟩
    · rw [z]; exact ⟨o, ho, fun v q => by rw [hd] at q; cases q⟩
  keep := fun i h h' st k => let ⟨⟨old, he⟩, ⟨o, ho, r⟩, hne⟩ := st; ⟨⟨old, k e (by simp) _ he⟩, ⟨o, k it (by simp) o ho, r⟩, hne⟩
  item := by
    intro X hP hw hK hc i pins s σ H E I hf st hg
    subst hP hw hK
    obtain ⟨⟨old, he⟩, hit, hne, hle⟩ := st
    have hel : e < s.heap.objs.size := Heap.lt_size he
    have hil : it < s.heap.objs.size := by obtain ⟨_, q, _⟩ := hit; exact Heap.lt_size q
    have D := Draws.text (prog := X.prog) (w := X.w) (A := X.A.in1) (I.ok.hd hc) it x t
    refine wpAny_pyNext_enum_itemC D he hit hg hne (by simpa using hne) fun v h' tk hp ho hit' hT hsz hk => ?_
    obtain ⟨c, u, hcx, rfl⟩ := hp
    refine ⟨_, rfl, wpAny_letOwnedTupleGo_enum (s := { s with heap := h', toks := tk + 1 }) ho fun h'' he' sb => ?_⟩
    have hT2 : h''.get? s.heap.objs.size = some { cls := .type "tuple", data := .seq #[.int (k + (i : Nat)) tk, .str ⟨#[c]⟩ u] } := (sb.2 _ (Nat.ne_of_gt hel)).trans hT
    have new : ObjOk X.prog X.w (upd H s.heap.objs.size (.tup [.int (k + (i : Nat)), .str ⟨#[c]⟩])) h'' s.heap.objs.size (.tup [.int (k + (i : Nat)), .str ⟨#[c]⟩]) :=
      ⟨by show 2 ≤ sizeLine; decide, [.int (k + (i : Nat)) tk, .str ⟨#[c]⟩ u], .cons ⟨_, rfl⟩ (.cons ⟨_, rfl⟩ .nil), ⟨_, hT2, rfl, _, rfl⟩⟩
    have I1 : Inv X pins σ (upd H s.heap.objs.size (.tup [.int (k + (i : Nat)), .str ⟨#[c]⟩])) { s with heap := h'', toks := tk + 1 } :=
      I.turnedNew (ch := [e, it]) (fun b ob hb q => (sb.2 b (fun z => hb (by simp [z]))).trans (hk b ob (fun z => hb (by simp [z])) (fun z => hb (by simp [z])) q)) hf (Nat.le_refl _) new
    refine ⟨.ref s.heap.objs.size, _, I1, rfl, ⟨_, c, rfl, I.hok.fresh (Nat.le_refl _), hcx, rfl⟩, ⟨⟨.str ⟨#[c]⟩ u, ?_⟩, ?_, hne, hg⟩, fun b hb => ?_⟩
    · have e1 : k + ((i + 1 : Nat) : Int) = k + (i : Int) + 1 := by omega
      rw [e1]; exact he'
    · obtain ⟨o, q, r⟩ := hit'
      exact ⟨o, (sb.2 it (Ne.symm hne)).trans q, r⟩
    · have hb' : b < s.heap.objs.size := by
        have e' : b = e ∨ b = it := by simpa using hb
        rcases e' with z | z
        · rw [z]; exact hel
        · rw [z]; exact hil
      rw [upd_ne (Nat.ne_of_lt hb')]
      exact (hf b hb).1
  done := by
    intro X hP hw hK hc i pins s σ H E I hf st hg
    subst hP hw hK
    obtain ⟨⟨old, he⟩, hit, hne, hle⟩ := st
    obtain ⟨f0, f1, f2, f3, f4, f5⟩ := hf it (by simp)
    have hi : i = x.cps.size := Nat.le_antisymm hle hg
    subst hi
    have D := Draws.text (prog := X.prog) (w := X.w) (A := X.A.in1) (I.ok.hd hc) it x t
    exact wpAny_pyNext_enum_endD D he hit fun h' eb => ⟨rfl, I.turned (t' := s.toks) (fun b o hb q => eb b o hb q) f0 f1 f3 f4 f5⟩
  self := fun A i s Q E st h => let ⟨⟨_, he⟩, _⟩ := st; wpAny_pyIter_enum he h
def iEnumS (ta : TA) : TI := fun σ H R => ta σ H fun vs H1 => ∃ x k, vs = [.str x, .int k] ∧ -(2 ^ 63) ≤ k ∧ k < 2 ^ 63 ∧ R (Iek x k) H1
theorem pi_enumS {X : Cx} {e e2 : Expr} {ta : TA} {p pos tpos : Pos} {elts : List Expr} {kk : Nat} (hg : Gl X "enumerate") (hm : X.mg "enumerate" = none) (ha : PA X [e, e2] ta)
    (hs : starEach [e, e2] X.env = (false, eval e X.env) :: starEach [e2] X.env := by rfl) (hpl : (backTo pos (starEach [e2] X.env)).any (·.1) = false := by rfl) :
    PI X (.Tuple elts kk tpos) (.Call (.Name "enumerate" p) [e, e2] [] pos) (iEnumS ta) := by
  refine ⟨fun pins s σ H R I h => ?_⟩
  refine Call_ (ld_blt I hg hm boot_enumerate (PyProof.Rows.callWith_type1 (thn (ha.run pos pins s σ H _ I h) fun us s1 ⟨vs, H1, I1, r1, q1⟩ => ?_) hs hpl))
  obtain ⟨x, k, ex, k0, k1, q⟩ := q1
  subst ex
  cases r1 with
  | cons r rr =>
    cases rr with
    | cons r' rr =>
      cases rr
      obtain ⟨t, rfl⟩ := r
      obtain ⟨t', rfl⟩ := r'
      refine enum_begins (begins_text x t) trivial k0 k1 fun h' he hit hsz hk => wpAny_pyIter_enum he ?_
      have I2 : Inv X pins σ H1 { s1 with heap := h' } := I1.kept (t' := s1.toks) hk
      refine ⟨s1.heap.objs.size + 1, [s1.heap.objs.size + 1, s1.heap.objs.size], _, _, H1, rfl, I2, turn_enumS (s1.heap.objs.size + 1) s1.heap.objs.size x t k, ⟨⟨.none, ?_⟩, ⟨_, hit, rfl, rfl⟩, Nat.succ_ne_self _, Nat.zero_le _⟩, fun b hb => ?_, q⟩
      · rw [show k + ((0 : Nat) : Int) = k by omega]
        exact he
      · have e' : b = s1.heap.objs.size + 1 ∨ b = s1.heap.objs.size := by simpa using hb
        have hle : s1.heap.objs.size ≤ b := by
          rcases e' with z | z
          · rw [z]; exact Nat.le_add_right _ _
          · rw [z]; exact Nat.le_refl _
        exact I1.fpOk hle (I1.hok.fresh hle)
end
end Bh

/-! Texts as lists of codes: numbers, the check, a letter read. No program here. -/
namespace Bh
open PySem PySem.Spec PyProof.Rows L2
open TL
theorem dig_small : ∀ c : Nat, c < 128 → Unicode.isDigit c = (decide (48 ≤ c) && decide (c ≤ 57)) := by decide +kernel
/-- a text by its codes -/
def sS (l : List Nat) : Str := ⟨l.toArray⟩
theorem tl_sS (l : List Nat) : tl (sS l) = l := rfl
theorem sS_tl (x : Str) : sS (tl x) = x := mk_tl x
theorem sS_inj {l m : List Nat} (h : sS l = sS m) : l = m := by
  have e := congrArg tl h
  exact e
theorem eq_sS {x : Str} {l : List Nat} (h : tl x = l) : x = sS l := by
  rw [← h]
  exact (mk_tl x).symm
theorem len_sS (l : List Nat) : (sS l).length = l.length := by
  rw [len_tl, tl_sS]
theorem all_tl (x : Str) (f : Nat → Bool) : x.cps.all f = (tl x).all f := by
  show x.cps.all f = x.cps.toList.all f
  simp
theorem any_tl (x : Str) (f : Nat → Bool) : x.cps.any f = (tl x).any f := by
  show x.cps.any f = x.cps.toList.any f
  simp

def digB (c : Nat) : Bool := decide (48 ≤ c) && decide (c ≤ 57)
/-- isascii and isdigit, together -/
theorem asc_dig (x : Str) : (Txt.isascii x && Txt.isdigit x) = (!(tl x).isEmpty && (tl x).all digB) := by
  unfold Txt.isascii Txt.isdigit
  rw [all_tl, all_tl, len_tl]
  generalize tl x = l
  cases l with
  | nil => rfl
  | cons a r =>
    have e : ∀ m : List Nat, (m.all (· < 128) && m.all Unicode.isDigit) = m.all digB := by
      intro m
      induction m with
      | nil => rfl
      | cons c t ih =>
        simp only [List.all_cons]
        rw [← ih]
        by_cases hc : c < 128
        · rw [dig_small c hc]
          unfold digB
          simp [hc]
          cases decide (48 ≤ c) <;> cases decide (c ≤ 57) <;> simp
        · have : digB c = false := by
            unfold digB
            simp
            omega
          rw [this]
          simp [hc]
    rw [← e]
    simp
theorem allDig {l : List Nat} (h : l.all digB = true) : NumText.AllDigits l := by
  intro c hm
  have q := (List.all_eq_true.mp h) c hm
  unfold digB at q
  simp at q
  exact q
theorem dv_lt : ∀ (l : List Nat), NumText.AllDigits l → NumText.digitsVal l < 10 ^ l.length := by
  have key : ∀ (l : List Nat) (a : Nat), NumText.AllDigits l → l.foldl (fun acc c => acc * 10 + (c - 48)) a < (a + 1) * 10 ^ l.length := by
    intro l
    induction l with
    | nil => intro a _; simp
    | cons c r ih =>
      intro a h
      have hc : 48 ≤ c ∧ c ≤ 57 := h c List.mem_cons_self
      have q := ih (a * 10 + (c - 48)) (fun d hd => h d (List.mem_cons_of_mem _ hd))
      rw [List.foldl_cons, List.length_cons, Nat.pow_succ]
      refine Nat.lt_of_lt_of_le q ?_
      have : (a * 10 + (c - 48) + 1) ≤ (a + 1) * 10 := by omega
      calc (a * 10 + (c - 48) + 1) * 10 ^ r.length ≤ ((a + 1) * 10) * 10 ^ r.length := Nat.mul_le_mul_right _ this
        _ = (a + 1) * (10 ^ r.length * 10) := by rw [Nat.mul_assoc, Nat.mul_comm 10]
  intro l h
  have := key l 0 h
  simpa [NumText.digitsVal] using this

/-! ### numbers -/
def figM (p : List Nat) (k : Nat) : Option Int :=
  if (!p.isEmpty && p.all digB && decide (p.length ≤ k)) = true then
    (if (p.head? = some 48 ∧ p ≠ [48]) then none else some ((NumText.digitsVal p : Nat) : Int))
  else none
theorem figM_some {p : List Nat} {k : Nat} {n : Int} (h : figM p k = some n) : p ≠ [] ∧ p.all digB = true ∧ p.length ≤ k ∧ ¬ (p.head? = some 48 ∧ p ≠ [48]) ∧ n = ((NumText.digitsVal p : Nat) : Int) := by
  unfold figM at h
  split at h
  · rename_i hc
    simp only [Bool.and_eq_true, decide_eq_true_eq, Bool.not_eq_true', List.isEmpty_eq_false_iff] at hc
    split at h
    · cases h
    · rename_i hd
      cases h
      exact ⟨hc.1.1, hc.1.2, hc.2, hd, rfl⟩
  · cases h
theorem figM_mk {p : List Nat} {k : Nat} (h1 : p ≠ []) (h2 : p.all digB = true) (h3 : p.length ≤ k) (h4 : ¬ (p.head? = some 48 ∧ p ≠ [48])) : figM p k = some ((NumText.digitsVal p : Nat) : Int) := by
  unfold figM
  rw [if_pos (by simp only [Bool.and_eq_true, decide_eq_true_eq, Bool.not_eq_true', List.isEmpty_eq_false_iff]; exact ⟨⟨h1, h2⟩, h3⟩), if_neg h4]
theorem dv_snoc (r : List Nat) (d : Nat) : NumText.digitsVal (r ++ [d]) = NumText.digitsVal r * 10 + (d - 48) := by
  unfold NumText.digitsVal
  rw [List.foldl_append]
  rfl
theorem numL_dv : ∀ (m : Nat) (p : List Nat), p.length = m → p ≠ [] → p.all digB = true → ¬ (p.head? = some 48 ∧ p ≠ [48]) → numL (NumText.digitsVal p) = p
  | 0, p, hl, h1, _, _ => absurd (List.length_eq_zero_iff.mp hl) h1
  | m + 1, p, hl, h1, h2, h4 => by
    obtain ⟨r, d, rfl⟩ : ∃ r d, p = r ++ [d] := ⟨p.dropLast, p.getLast h1, (List.dropLast_concat_getLast h1).symm⟩
    have hd : 48 ≤ d ∧ d ≤ 57 := allDig h2 d (by simp)
    rw [dv_snoc]
    by_cases hr : r = []
    · subst hr
      show numL (0 * 10 + (d - 48)) = [d]
      rw [Nat.zero_mul, Nat.zero_add, numL_lt (by omega), show 48 + (d - 48) = d by omega]
    · have hr2 : r.all digB = true := by
        rw [List.all_append, Bool.and_eq_true] at h2
        exact h2.1
      have h0 : r.head? ≠ some 48 := fun z => h4 ⟨by
        cases r with
        | nil => exact absurd rfl hr
        | cons c r' => exact z, fun z => by
          have h5 := List.length_pos_iff.mpr hr
          have := congrArg List.length z
          rw [List.length_append, List.length_singleton, List.length_singleton] at this
          omega⟩
      have ih := numL_dv m r (by simp at hl; omega) hr hr2 (fun z => h0 z.1)
      have hv : 1 ≤ NumText.digitsVal r := by
        rcases Nat.eq_zero_or_pos (NumText.digitsVal r) with z | z
        · rw [z, numL_lt (by decide)] at ih
          rw [← ih] at h0
          exact absurd rfl h0
        · exact z
      rw [numL_step (by omega), show (NumText.digitsVal r * 10 + (d - 48)) / 10 = NumText.digitsVal r by omega, show (NumText.digitsVal r * 10 + (d - 48)) % 10 = d - 48 by omega, ih, show 48 + (d - 48) = d by omega]
theorem numL_all (n : Nat) : (numL n).all digB = true := by
  rw [List.all_eq_true]
  intro c hc
  have := numL_digits n c hc
  unfold digB
  simp
  exact this
theorem numL_head : ∀ (n : Nat), 1 ≤ n → (numL n).head? ≠ some 48 := by
  intro n
  induction n using Nat.strongRecOn with
  | ind n ih =>
    intro h
    by_cases h10 : n < 10
    · rw [numL_lt h10]
      intro z
      have : 48 + n = 48 := Option.some.inj z
      omega
    · rw [numL_step (by omega)]
      have := ih (n / 10) (by omega) (by omega)
      cases e : numL (n / 10) with
      | nil => exact absurd e (numL_ne _)
      | cons c r => rw [e] at this; exact this
theorem figM_num {n k : Nat} (hk : 0 < k) (h : n < 10 ^ k) : figM (numL n) k = some (n : Int) := by
  have e := figM_mk (k := k) (numL_ne n) (numL_all n) (numL_len hk h) (fun z => by
    rcases Nat.eq_zero_or_pos n with y | y
    · rw [y] at z
      exact z.2 (by rw [numL_lt (by decide)])
    · exact numL_head n y z.1)
  rw [e, numL_val]
theorem figM_lt {p : List Nat} {k : Nat} {n : Int} (h : figM p k = some n) : 0 ≤ n ∧ n < 10 ^ k := by
  obtain ⟨h1, h2, h3, h4, rfl⟩ := figM_some h
  have q := dv_lt p (allDig h2)
  have q2 : 10 ^ p.length ≤ 10 ^ k := Nat.pow_le_pow_right (by decide) h3
  refine ⟨Int.natCast_nonneg _, ?_⟩
  have : NumText.digitsVal p < 10 ^ k := by omega
  exact_mod_cast this
theorem figM_back {p : List Nat} {k : Nat} {n : Nat} (h : figM p k = some (n : Int)) : p = numL n := by
  obtain ⟨h1, h2, h3, h4, e⟩ := figM_some h
  have e2 : n = NumText.digitsVal p := by exact_mod_cast e
  rw [e2]
  exact (numL_dv _ p rfl h1 h2 h4).symm
theorem fig45 {p : List Nat} {n : Nat} (h : n < 10000) : figM p 4 = some (n : Int) ↔ figM p 5 = some (n : Int) := by
  constructor
  · intro q
    rw [figM_back q]
    exact figM_num (by decide) (by omega)
  · intro q
    rw [figM_back q]
    exact figM_num (by decide) (by omega)

/-! ### the check -/
def csum : Nat → List Nat → Nat
  | _, [] => 0
  | k, c :: r => k * c + csum (k + 1) r
theorem csum_app : ∀ (k : Nat) (xs ys : List Nat), csum k (xs ++ ys) = csum k xs + csum (k + xs.length) ys
  | k, [], ys => by show csum k ys = 0 + csum (k + 0) ys; rw [Nat.zero_add]; rfl
  | k, c :: r, ys => by
    show k * c + csum (k + 1) (r ++ ys) = k * c + csum (k + 1) r + csum (k + (r.length + 1)) ys
    rw [csum_app (k + 1) r ys, show k + 1 + r.length = k + (r.length + 1) by omega, Nat.add_assoc]
def chk (l : List Nat) : Nat := csum 1 l % 9973
theorem chk_lt (l : List Nat) : chk l < 9973 := Nat.mod_lt _ (by decide)
theorem cop : ∀ d, d < 128 → 0 < d → Nat.gcd 9973 d = 1 := by decide +kernel
theorem mod_one {p c d s : Nat} (hp : 0 < p) (hp2 : p < 9973) (hcd : c < d) (hd : d < 128) : (s + p * c) % 9973 ≠ (s + p * d) % 9973 := by
  intro h
  have e : p * d = p * c + p * (d - c) := by rw [← Nat.mul_add, show c + (d - c) = d by omega]
  have h2 : 9973 ∣ p * (d - c) := by
    have : (s + p * c + p * (d - c)) % 9973 = (s + p * c) % 9973 := by rw [Nat.add_assoc, ← e]; exact h.symm
    generalize p * (d - c) = y at *
    generalize s + p * c = x at *
    omega
  have h4 : 9973 ∣ p := Nat.Coprime.dvd_of_dvd_mul_right (cop (d - c) (by omega) (by omega)) h2
  exact absurd (Nat.le_of_dvd hp h4) (by omega)
/-- one sign put over another -/
theorem chk_put {xs ys : List Nat} {c d : Nat} (hx : xs.length + 1 < 9973) (hc : c < 128) (hd : d < 128) (h : c ≠ d) : chk (xs ++ c :: ys) ≠ chk (xs ++ d :: ys) := by
  unfold chk
  rw [csum_app, csum_app]
  show (csum 1 xs + ((1 + xs.length) * c + csum (1 + xs.length + 1) ys)) % 9973 ≠ (csum 1 xs + ((1 + xs.length) * d + csum (1 + xs.length + 1) ys)) % 9973
  rw [show csum 1 xs + ((1 + xs.length) * c + csum (1 + xs.length + 1) ys) = csum 1 xs + csum (1 + xs.length + 1) ys + (1 + xs.length) * c by omega, show csum 1 xs + ((1 + xs.length) * d + csum (1 + xs.length + 1) ys) = csum 1 xs + csum (1 + xs.length + 1) ys + (1 + xs.length) * d by omega]
  rcases Nat.lt_or_gt_of_ne h with q | q
  · exact mod_one (by omega) (by omega) q hd
  · exact (mod_one (by omega) (by omega) q hc).symm
/-- two signs that stand together, changed about -/
theorem chk_swap {xs ys : List Nat} {c d : Nat} (hc : c < 128) (hd : d < 128) (h : c ≠ d) : chk (xs ++ c :: d :: ys) ≠ chk (xs ++ d :: c :: ys) := by
  unfold chk
  rw [csum_app, csum_app]
  show (csum 1 xs + ((1 + xs.length) * c + ((1 + xs.length + 1) * d + csum (1 + xs.length + 1 + 1) ys))) % 9973 ≠ (csum 1 xs + ((1 + xs.length) * d + ((1 + xs.length + 1) * c + csum (1 + xs.length + 1 + 1) ys))) % 9973
  generalize csum 1 xs = A
  generalize csum (1 + xs.length + 1 + 1) ys = B
  generalize 1 + xs.length = p
  rw [show A + (p * c + ((p + 1) * d + B)) = A + B + p * c + p * d + 1 * d by rw [Nat.add_mul]; omega, show A + (p * d + ((p + 1) * c + B)) = A + B + p * c + p * d + 1 * c by rw [Nat.add_mul]; omega]
  rcases Nat.lt_or_gt_of_ne h with q | q
  · exact (mod_one (by decide) (by decide) q hd).symm
  · exact mod_one (by decide) (by decide) q hc

/-! ### parts at blanks -/
theorem sp_cases (l : List Nat) : (32 ∉ l ∧ par [32] [] l = none ∧ spl [32] 0 [] l = [l]) ∨ ∃ p r, 32 ∉ p ∧ l = p ++ 32 :: r ∧ par [32] [] l = some (p, r) ∧ spl [32] 0 [] l = p :: spl [32] 0 [] r := by
  by_cases h : 32 ∈ l
  · obtain ⟨p, r, hp, rfl⟩ : ∃ p r, 32 ∉ p ∧ l = p ++ 32 :: r := by
      revert h
      induction l with
      | nil => intro h; cases h
      | cons c l ih =>
        intro h
        by_cases e : c = 32
        · exact ⟨[], l, (fun z => by cases z), by rw [e]; rfl⟩
        · obtain ⟨p, r, hp, rfl⟩ := ih ((List.mem_cons.mp h).resolve_left fun z => e z.symm)
          exact ⟨c :: p, r, (fun z => (List.mem_cons.mp z).elim (fun y => e y.symm) hp), rfl⟩
    refine .inr ⟨p, r, hp, rfl, ?_, ?_⟩
    · have := par_part1 (S := []) (acc := []) (rest := r) hp
      rw [List.nil_append] at this
      exact this
    · have := spl_part1 (S := []) (acc := []) (rest := r) hp
      rw [List.nil_append] at this
      exact this
  · exact .inl ⟨h, par_none1 h, by have := spl_last1 (S := []) (acc := []) h; rw [List.nil_append] at this; exact this⟩
theorem spl_ne (l : List Nat) : spl [32] 0 [] l ≠ [] := by
  rcases sp_cases l with ⟨_, _, e⟩ | ⟨_, _, _, _, _, e⟩ <;> rw [e] <;> exact List.cons_ne_nil _ _
theorem join_spl : ∀ (m : Nat) (l : List Nat), l.length ≤ m → joinL [32] (spl [32] 0 [] l) = l
  | m, l, hm => by
    rcases sp_cases l with ⟨_, _, e⟩ | ⟨p, r, hp, rfl, _, e⟩
    · rw [e]; rfl
    · rw [e]
      cases m with
      | zero => simp at hm
      | succ m =>
        have ih := join_spl m r (by simp at hm; omega)
        cases es : spl [32] 0 [] r with
        | nil => exact absurd es (spl_ne r)
        | cons q s =>
          rw [es] at ih
          show p ++ ([32] ++ joinL [32] (q :: s)) = p ++ 32 :: r
          rw [ih]
          rfl
theorem spl_len (l : List Nat) : ∀ p ∈ spl [32] 0 [] l, p.length ≤ l.length := by
  suffices H : ∀ (m : Nat) (l : List Nat), l.length ≤ m → ∀ p ∈ spl [32] 0 [] l, p.length ≤ l.length from H _ l (Nat.le_refl _)
  intro m
  induction m with
  | zero =>
    intro l hl p hp
    rcases sp_cases l with ⟨_, _, e⟩ | ⟨q, r, _, rfl, _, _⟩
    · rw [e] at hp; rw [List.mem_singleton.mp hp]; exact Nat.le_refl _
    · simp at hl
  | succ m ih =>
    intro l hl p hp
    rcases sp_cases l with ⟨_, _, e⟩ | ⟨q, r, _, rfl, _, e⟩
    · rw [e] at hp; rw [List.mem_singleton.mp hp]; exact Nat.le_refl _
    · rw [e] at hp
      rcases List.mem_cons.mp hp with z | z
      · rw [z]; simp
      · have := ih r (by simp at hl; omega) p z
        simp
        omega

/-! ### a letter read -/
def letM (kd : Nat) (l : List Nat) : Option (Nat × List Nat) :=
  match l with
  | [] => none
  | c :: r => if c ≠ kd then none else
    match par [32] [] r with
    | none => none
    | some (a, r2) => match par [32] [] r2 with
      | none => none
      | some (b, t) => match figM a 5 with
        | none => none
        | some n => if figM b 5 = some ((chk (kd :: a ++ 32 :: t) : Nat) : Int) then some (n.toNat, t) else none
theorem par_at1 {p r : List Nat} (h : 32 ∉ p) : par [32] [] (p ++ 32 :: r) = some (p, r) := by
  have := par_part1 (S := []) (acc := []) (rest := r) h
  rw [List.nil_append] at this
  exact this
theorem num32 (n : Nat) : 32 ∉ numL n := numL_free (.inl (by decide))
theorem letM_made {kd n c : Nat} {t : List Nat} (hn : n < 100000) (hc : c < 100000) : letM kd (kd :: numL n ++ 32 :: (numL c ++ 32 :: t)) = if c = chk (kd :: numL n ++ 32 :: t) then some (n, t) else none := by
  unfold letM
  show (if kd ≠ kd then none else match par [32] [] (numL n ++ 32 :: (numL c ++ 32 :: t)) with
      | none => none
      | some (a, r2) => match par [32] [] r2 with
        | none => none
        | some (b, t) => match figM a 5 with
          | none => none
          | some n => if figM b 5 = some ((chk (kd :: a ++ 32 :: t) : Nat) : Int) then some (n.toNat, t) else none) = _
  rw [if_neg (fun z => z rfl), par_at1 (num32 n)]
  show (match par [32] [] (numL c ++ 32 :: t) with
      | none => none
      | some (b, t) => _) = _
  rw [par_at1 (num32 c)]
  show (match figM (numL n) 5 with
        | none => none
        | some m => if figM (numL c) 5 = some ((chk (kd :: numL n ++ 32 :: t) : Nat) : Int) then some (m.toNat, t) else none) = _
  rw [figM_num (by decide) (by omega), figM_num (by decide) (by omega)]
  by_cases h : c = chk (kd :: numL n ++ 32 :: t)
  · rw [if_pos h, ← h]
    show (if _ then _ else _) = _
    rw [if_pos rfl]
    rfl
  · rw [if_neg h]
    show (if _ then _ else _) = _
    rw [if_neg (fun z => h (by have := Option.some.inj z; exact_mod_cast this))]
theorem letM_other {kd k2 : Nat} {l : List Nat} (h : k2 ≠ kd) : letM kd (k2 :: l) = none := by
  unfold letM
  show (if k2 ≠ kd then none else _) = _
  rw [if_pos h]
end Bh

/-! The program's letters. -/
namespace Bh
open PySem PySem.Spec PyProof.Rows L2
open TL SX RZ
def topS (i : Nat) : Stmt := PySem.Challenge.pw_boardheld_k22_letters.main.body.getD i (.Pass ⟨0, 0, 0, 0⟩)
def kdN : List Str := ["q", "a"]
structure Lx (K : PySem.W.Frag) (mg : Str → Option Value) (CY CE : Addr) : Prop where
  g_NUMBER_FIGURES : ∃ t, mg "NUMBER_FIGURES" = some (.int 5 t)
  g_CHECK_FIGURES : ∃ t, mg "CHECK_FIGURES" = some (.int 4 t)
  g_CHECK_SPAN : ∃ t, mg "CHECK_SPAN" = some (.int 9973 t)
  g_KINDS : ∃ a, mg "KINDS" = some (.ref a) ∧ ∀ H, SqT K H a (kdN.map V.str)
  z_len : mg "len" = none
  z_range : mg "range" = none
  z_int : mg "int" = none
  z_str : mg "str" = none
  z_ord : mg "ord" = none
  z_sum : mg "sum" = none
  z_enumerate : mg "enumerate" = none
  z_isinstance : mg "isinstance" = none
  gY : mg "NoLetter" = some (.ref CY)
  kY : PySem.W.keepIn K (.ref CY) = true
  xY : PySem.W.excIn K CY [.type "ValueError", .type "Exception", .type "BaseException", .type "object"] "ValueError.__new__" = true
  bY : PySem.W.subIn K (.ref CY) (.type "BaseException") = some true
  tY : PySem.W.typeIn K (.ref CY) = some (.type "type")
  gE : mg "BoardError" = some (.ref CE)
  exY : ExcC K CY
  kYY : PySem.W.kitOne K (.ref CY) (.ref CY) = some true
  eY : PySem.W.exmOne K (.ref CY) (.ref CE) = some true
theorem sp_S : (" " : Str) = S [32] := TL.ext_tl (by decide +kernel)
theorem em_S : Str.empty = S [] := rfl
theorem q_S : ("q" : Str) = S [113] := TL.ext_tl (by decide +kernel)
theorem a_S : ("a" : Str) = S [97] := TL.ext_tl (by decide +kernel)
theorem szl {n : Nat} (h : n ≤ 100000) : n ≤ sizeLine := Nat.le_trans h (by decide)
theorem cat_len (a b : List Nat) : (S a ++ S b).length = a.length + b.length := by rw [S_cat, S_len, List.length_append]
def fV : Option Int → V
  | none => .non
  | some n => .int n
def OkL (l : List Nat) : Prop := ∀ c ∈ l, c < 128
def spFig : Sp := fun vs H Q _ => ∃ (p : List Nat) (k : Nat), vs = [.str (S p), .int (k : Int)] ∧ p.length ≤ 100000 ∧ k ≤ 100 ∧ Q (fV (figM p k)) H
def spChk : Sp := fun vs H Q _ => ∃ (kd n : Nat) (t : List Nat), vs = [.str (S [kd]), .int (n : Int), .str (S t)] ∧ kd < 128 ∧ n < 100000 ∧ OkL t ∧ t.length ≤ 20000 ∧ ∀ H', Same H H' → Q (.int (chk (kd :: numL n ++ 32 :: t) : Nat)) H'
def letL (kd n : Nat) (t : List Nat) : List Nat := kd :: numL n ++ 32 :: (numL (chk (kd :: numL n ++ 32 :: t)) ++ 32 :: t)
def spLet : Sp := fun vs H Q _ => ∃ (kd n : Nat) (t : List Nat), vs = [.str (S [kd]), .int (n : Int), .str (S t)] ∧ kd < 128 ∧ n < 100000 ∧ OkL t ∧ t.length ≤ 20000 ∧ ∀ H', Same H H' → Q (.str (S (letL kd n t))) H'
def KdOk (kd : Nat) : Prop := kd = 113 ∨ kd = 97
def spOpen (CY : Addr) : Sp := fun vs H Q E => ∃ (kd : Nat) (l : List Nat), vs = [.str (S [kd]), .str (S l)] ∧ KdOk kd ∧ OkL l ∧ l.length ≤ 20000 ∧
  (letM kd l = none → ∀ H', Same H H' → E (.ref CY) none H') ∧ ∀ n t, letM kd l = some (n, t) → ∀ H' p, Same H H' → H p = none → H' p = some (.tup [.int (n : Int), .str (S t)]) → Q (.ref p) H'
/-- the signs of a text told from k on, multiplied and put together -/
def mulL : Nat → List Nat → List Int
  | _, [] => []
  | k, c :: r => ((k : Int) * (c : Int)) :: mulL (k + 1) r
theorem mulL_sum : ∀ (k : Nat) (l : List Nat), (mulL k l).sum = ((csum k l : Nat) : Int)
  | _, [] => rfl
  | k, c :: r => by
    show (k : Int) * (c : Int) + (mulL (k + 1) r).sum = ((k * c + csum (k + 1) r : Nat) : Int)
    rw [mulL_sum (k + 1) r]
    push_cast
    rfl
theorem mulL_len : ∀ (k : Nat) (l : List Nat), (mulL k l).length = l.length
  | _, [] => rfl
  | k, c :: r => congrArg (· + 1) (mulL_len (k + 1) r)
theorem mulL_snoc : ∀ (k : Nat) (l : List Nat) (c : Nat), mulL k (l ++ [c]) = mulL k l ++ [((k + l.length : Nat) : Int) * (c : Int)]
  | k, [], c => rfl
  | k, d :: r, c => by
    show ((k : Int) * (d : Int)) :: mulL (k + 1) (r ++ [c]) = ((k : Int) * (d : Int)) :: (mulL (k + 1) r ++ [_])
    rw [mulL_snoc (k + 1) r c, show k + 1 + r.length = k + (d :: r).length by rw [List.length_cons]; omega]
theorem lc_iek {x : Str} {k : Int} {g : TG} {tt : TT} {te : TE} {vs : List Nat} {σ : L2.St} {H1 : Hp} {D : Addr} {Qd : Hp → Prop} (Pv : Nat → Hp → Prop) (h0 : Pv 0 (upd H1 D (.lst [])))
    (hs : ∀ i c T H, x.cps[i]? = some c → Pv i H → H T = none → g (.ref T) (wipe σ vs) (upd H T (.tup [.int (k + (i : Nat)), .str ⟨#[c]⟩])) fun σ2 H2 => wipe σ2 vs = wipe σ vs ∧ tt σ2 H2 fun b H3 =>
      if b = true then te σ2 H3 fun y H4 => ∃ acc, H4 D = some (.lst acc) ∧ acc.length < sizeLine ∧ Pv (i + 1) (upd H4 D (.lst (acc ++ [y]))) else Pv (i + 1) H3) (hd : ∀ H, Pv x.cps.size H → Qd H) :
    ∃ W : Nat → Nat → Hp → Prop, (∃ m, W 0 m (upd H1 D (.lst []))) ∧ ∀ i m H, W i m H →
      ((Iek x k).stop i H ∧ Qd H) ∨ ((Iek x k).go i H ∧ ∃ Nx : Hp → Prop, (∀ H', Nx H' → ∃ m', m' < m ∧ W (i + 1) m' H') ∧ ∀ x' H', (Iek x k).yld i H x' H' → g x' (wipe σ vs) H' fun σ2 H2 => wipe σ2 vs = wipe σ vs ∧ tt σ2 H2 fun b H3 =>
        if b = true then te σ2 H3 fun y H4 => ∃ acc, H4 D = some (.lst acc) ∧ acc.length < sizeLine ∧ Nx (upd H4 D (.lst (acc ++ [y]))) else Nx H3) := by
  refine ⟨fun i m H => m = x.cps.size - i ∧ i ≤ x.cps.size ∧ Pv i H, ⟨x.cps.size, by simp, Nat.zero_le _, h0⟩, ?_⟩
  rintro i m H ⟨rfl, hi, p⟩
  by_cases hlt : i < x.cps.size
  · refine .inr ⟨hlt, Pv (i + 1), fun H' p' => ⟨x.cps.size - (i + 1), by omega, rfl, hlt, p'⟩, fun x' H' y => ?_⟩
    obtain ⟨T, c, e, hT, hc, e2⟩ := y
    subst e e2
    exact hs i c T H hc p hT
  · have e : i = x.cps.size := Nat.le_antisymm hi (Nat.le_of_not_lt hlt)
    exact .inl ⟨by rw [e]; exact Nat.le_refl _, hd H (by rw [e] at p; exact p)⟩
theorem lc_its {x : Str} {g : TG} {tt : TT} {te : TE} {vs : List Nat} {σ : L2.St} {H1 : Hp} {D : Addr} {Qd : Hp → Prop} (Pv : Nat → Hp → Prop) (h0 : Pv 0 (upd H1 D (.lst [])))
    (hs : ∀ i c H, x.cps[i]? = some c → Pv i H → g (.str ⟨#[c]⟩) (wipe σ vs) H fun σ2 H2 => wipe σ2 vs = wipe σ vs ∧ tt σ2 H2 fun b H3 =>
      if b = true then te σ2 H3 fun y H4 => ∃ acc, H4 D = some (.lst acc) ∧ acc.length < sizeLine ∧ Pv (i + 1) (upd H4 D (.lst (acc ++ [y]))) else Pv (i + 1) H3) (hd : ∀ H, Pv x.cps.size H → Qd H) :
    ∃ W : Nat → Nat → Hp → Prop, (∃ m, W 0 m (upd H1 D (.lst []))) ∧ ∀ i m H, W i m H →
      ((Its x).stop i H ∧ Qd H) ∨ ((Its x).go i H ∧ ∃ Nx : Hp → Prop, (∀ H', Nx H' → ∃ m', m' < m ∧ W (i + 1) m' H') ∧ ∀ x' H', (Its x).yld i H x' H' → g x' (wipe σ vs) H' fun σ2 H2 => wipe σ2 vs = wipe σ vs ∧ tt σ2 H2 fun b H3 =>
        if b = true then te σ2 H3 fun y H4 => ∃ acc, H4 D = some (.lst acc) ∧ acc.length < sizeLine ∧ Nx (upd H4 D (.lst (acc ++ [y]))) else Nx H3) := by
  refine ⟨fun i m H => m = x.cps.size - i ∧ i ≤ x.cps.size ∧ Pv i H, ⟨x.cps.size, by simp, Nat.zero_le _, h0⟩, ?_⟩
  rintro i m H ⟨rfl, hi, p⟩
  by_cases hlt : i < x.cps.size
  · refine .inr ⟨hlt, Pv (i + 1), fun H' p' => ⟨x.cps.size - (i + 1), by omega, rfl, hlt, p'⟩, fun x' H' y => ?_⟩
    obtain ⟨e2, c, hc, e⟩ := y
    subst e e2
    exact hs i c H' hc p
  · have e : i = x.cps.size := Nat.le_antisymm hi (Nat.le_of_not_lt hlt)
    exact .inl ⟨by rw [e]; exact Nat.le_refl _, hd H (by rw [e] at p; exact p)⟩
theorem for_its {x : Str} {g : TG} {tb : TS} {D : Ends} {σ : L2.St} {H : Hp} (Pv : Nat → L2.St → Hp → Prop) (h0 : Pv 0 σ H)
    (hs : ∀ i c σ H, x.cps[i]? = some c → Pv i σ H → g (.str ⟨#[c]⟩) σ H fun σ2 H2 => tb { D with nx := Pv (i + 1), ct := Pv (i + 1), bk := D.nx } σ2 H2) (hd : ∀ σ H, Pv x.cps.size σ H → D.nx σ H) :
    ∃ W : Nat → Nat → L2.St → Hp → Prop, (∃ m, W 0 m σ H) ∧ ∀ i m σ H, W i m σ H →
      ((Its x).stop i H ∧ D.nx σ H) ∨ ((Its x).go i H ∧ ∃ N : L2.St → Hp → Prop, (∀ σ' H', N σ' H' → ∃ m', m' < m ∧ W (i + 1) m' σ' H') ∧ ∀ x' H', (Its x).yld i H x' H' → g x' σ H' fun σ2 H2 => tb { D with nx := N, ct := N, bk := D.nx } σ2 H2) := by
  refine ⟨fun i m σ H => m = x.cps.size - i ∧ i ≤ x.cps.size ∧ Pv i σ H, ⟨x.cps.size, by simp, Nat.zero_le _, h0⟩, ?_⟩
  rintro i m σ H ⟨rfl, hi, p⟩
  by_cases hlt : i < x.cps.size
  · refine .inr ⟨hlt, Pv (i + 1), fun σ' H' p' => ⟨x.cps.size - (i + 1), by omega, rfl, hlt, p'⟩, fun x' H' y => ?_⟩
    obtain ⟨e2, c, hc, e⟩ := y
    subst e e2
    exact hs i c σ H' hc p
  · have e : i = x.cps.size := Nat.le_antisymm hi (Nat.le_of_not_lt hlt)
    exact .inl ⟨by rw [e]; exact Nat.le_refl _, hd σ H (by rw [e] at p; exact p)⟩
section
variable {P : Program} {w : World} {K : PySem.W.Frag} {mg : Str → Option Value} {base : Heap} {CY CE : Addr}
abbrev sFfig : Stmt := topS 4
def scFfigN : List Str := ["part", "most"]
theorem scFfig : FnScope scFfigN ["part", "most"] (defScope sFfig) := ⟨rfl, rfl, rfl, by decide +kernel, rfl, by decide +kernel, by decide +kernel⟩
theorem ok_Ffig {f : Addr} {fd : FuncData} (F : Fun K "figured" "figured" sFfig f fd) (T : Lx K mg CY CE) : FnOk P w K mg base CX0 1 f fd ["part", "most"] (spFig) := by
  refine F.ok scFfig (fun vs H Q E h => by obtain ⟨_, _, rfl, _⟩ := h; rfl) (fun cdv A outer s H vs Q E hr h => ?_)
  have hu := hu_of hr
  have z_int := T.z_int
  have z_len := T.z_len
  obtain ⟨p, k, rfl, hp, hk, q⟩ := h
  refine ⟨_, (pss_cons (ps_if (PW.pt (pw_or (pt_not (pt_val (pe_m0 PySem.F.slot_str_isascii PySem.F.type_str_isascii mt_isascii (pv 0)))) (pw_or (pt_not (pt_val (pe_m0 PySem.F.slot_str_isdigit PySem.F.type_str_isdigit mt_isdigit (pv 0)))) (pw_or1 (pt_cmpR op_gt (pe_callB call_len_str (by rfl) z_len PySem.boot_len (pa_cons (pv 0) pa_nil)) (pv 1) (nomark _)))))) (pss_one (ps_ret pe_non)) pss_nil)
    (pss_cons (ps_if (PW.pt (pw_and (pt_cmpR op_eq (pe_item_str (pv 0) pe_int (fun _ _ => rfl)) pe_str (nomark _)) (pw_and1 (pt_cmpR op_ne (pv 0) pe_str (nomark _))))) (pss_one (ps_ret pe_non)) pss_nil)
    (pss_one (ps_ret (pe_callTy call_int_str (by rfl) z_int (by decide +kernel) (pa_cons (pv 0) pa_nil)))))), ?_⟩
  have key := asc_dig (S p)
  rw [show tl (S p) = p from rfl] at key
  unfold figM at q
  have e5 : (decide ((k : Int) < ((S p).length : Int))) = !decide (p.length ≤ k) := by
    rw [S_len]
    by_cases z : p.length ≤ k
    · rw [decide_eq_true z]
      exact decide_eq_false (by omega)
    · rw [decide_eq_false z]
      exact decide_eq_true (by omega)
  have bad : (!p.isEmpty && p.all digB && decide (p.length ≤ k)) = false → Q .non H := fun h => by
    rw [h, if_neg Bool.false_ne_true] at q
    exact q
  refine ⟨_, rfl, ⟨_, rfl⟩, _, rfl, rfl, trivial, _, rfl, ifN (fun ha => ?_) (fun ha => ?_)⟩
  · exact bad (by rw [← key, ha] <;> rfl)
  refine ⟨_, rfl, ⟨_, rfl⟩, _, rfl, rfl, trivial, _, rfl, ifN (fun hd => ?_) (fun hd => ?_)⟩
  · exact bad (by rw [← key, hd, Bool.and_false] <;> rfl)
  refine ⟨_, rfl, _, rfl, szl (by rw [S_len]; exact hp), _, rfl, _, _, rfl, rfl, _, rfl, ?_⟩
  rw [ha, hd] at key
  have key2 : (!p.isEmpty && p.all digB) = true := key.symm
  refine ifB (fun h5 => ?_) (fun h5 => ?_)
  · refine bad ?_
    rw [key2, Bool.true_and]
    have h5' : (k : Int) < ((S p).length : Int) := of_decide_eq_true h5
    rw [S_len] at h5'
    exact decide_eq_false (by omega)
  have h5' : p.length ≤ k := by
    have z : ¬ (k : Int) < ((S p).length : Int) := of_decide_eq_false h5
    rw [S_len] at z
    omega
  rw [key2, Bool.true_and, decide_eq_true h5', if_pos rfl] at q
  rw [Bool.and_eq_true] at key2
  obtain ⟨c, r, rfl⟩ : ∃ c r, p = c :: r := by
    cases p with
    | nil => exact absurd key2.1 (by decide)
    | cons c r => exact ⟨c, r, rfl⟩
  have hint : intText? (S (c :: r)) = some ((NumText.digitsVal (c :: r) : Nat) : Int) := PySem.intText_digits (allDig key2.2) (List.cons_ne_nil _ _) (by rw [S_len]; omega)
  refine ⟨_, rfl, _, 0, c, rfl, rfl, by decide, by decide, by rw [S_len, List.length_cons]; omega, rfl, rfl, _, rfl, ?_⟩
  refine ifB (fun hc => ?_) (fun hc => ?_)
  · have hc' : c = 48 := by
      have z : V.str ⟨#[c]⟩ = V.str ("0" : Str) := of_decide_eq_true hc
      have z2 := congrArg tl (V.str.inj z)
      have z3 : [c] = [48] := z2.trans (by decide +kernel)
      exact List.head_eq_of_cons_eq z3
    subst hc'
    refine ⟨_, rfl, rfl, _, rfl, ifN (fun hz => ?_) (fun hz => ?_)⟩
    · have hz' : 48 :: r ≠ [48] := fun z => by
        have := of_decide_eq_false hz
        exact this (by rw [z] <;> exact congrArg V.str (TL.ext_tl (by decide +kernel)))
      rw [if_pos ⟨rfl, hz'⟩] at q
      exact q
    · have hz' : 48 :: r = [48] := (congrArg tl (V.str.inj (of_decide_eq_true hz))).trans (by decide +kernel)
      rw [if_neg (fun z => z.2 hz')] at q
      exact ⟨_, rfl, _, _, rfl, hint, by rw [S_len]; omega, q⟩
  · have hc' : ¬ c = 48 := fun z => by
      have := of_decide_eq_false hc
      exact this (by rw [z] <;> exact congrArg V.str (TL.ext_tl (by decide +kernel)))
    rw [if_neg (fun z => hc' (Option.some.inj z.1))] at q
    exact ⟨_, rfl, _, _, rfl, hint, by rw [S_len]; omega, q⟩
end
theorem num_small2 {n : Nat} (h : n < 100000) : ((n : Int)).natAbs.log2 < 1920 := by
  have e : ((n : Int)).natAbs = n := rfl
  rw [e]
  by_cases h0 : n = 0
  · subst h0
    decide
  · exact (Nat.log2_lt h0).mpr (Nat.lt_of_lt_of_le h (by decide +kernel))
theorem numS (n : Nat) : Str.ofString (toString ((n : Nat) : Int)) = S (numL n) := num_S n
theorem numL5 {n : Nat} (h : n < 100000) : (numL n).length ≤ 5 := numL_len (by decide) (by omega)
/-- a text parted at its first blank -/
def pt (l : List Nat) : List Nat × List Nat × List Nat := match par [32] [] l with
  | some (a, r) => (a, [32], r)
  | none => (l, [], [])
theorem part_pt (l : List Nat) : Txt.partition (S l) (S [32]) = (S (pt l).1, S (pt l).2.1, S (pt l).2.2) := by
  unfold pt
  cases e : par [32] [] l with
  | none => exact partition_none (by decide) e
  | some x => obtain ⟨a, r⟩ := x; exact partition_some (by decide) e
theorem pt_sub (l : List Nat) : (∀ c ∈ (pt l).1, c ∈ l) ∧ (∀ c ∈ (pt l).2.2, c ∈ l) ∧ (pt l).1.length ≤ l.length ∧ (pt l).2.2.length ≤ l.length := by
  rcases sp_cases l with ⟨_, e, _⟩ | ⟨p, r, _, e0, e, _⟩
  · unfold pt
    rw [e]
    exact ⟨fun _ h => h, (fun _ h => by cases h), Nat.le_refl _, Nat.zero_le _⟩
  · unfold pt
    rw [e]
    subst e0
    refine ⟨fun c h => List.mem_append.mpr (.inl h), fun c h => List.mem_append.mpr (.inr (List.mem_cons_of_mem _ h)), ?_, ?_⟩
    · rw [List.length_append]; exact Nat.le_add_right _ _
    · rw [List.length_append, List.length_cons]; show r.length ≤ _; omega
theorem letM_pt (kd : Nat) (r : List Nat) : letM kd (kd :: r) = match figM (pt r).1 5 with
    | none => none
    | some n => if (pt (pt r).2.2).2.1 = [] then none else if figM (pt (pt r).2.2).1 5 = some ((chk (kd :: (pt r).1 ++ 32 :: (pt (pt r).2.2).2.2) : Nat) : Int) then some (n.toNat, (pt (pt r).2.2).2.2) else none := by
  show (if kd ≠ kd then none else match par [32] [] r with
      | none => none
      | some (a, r2) => match par [32] [] r2 with
        | none => none
        | some (b, t) => match figM a 5 with
          | none => none
          | some n => if figM b 5 = some ((chk (kd :: a ++ 32 :: t) : Nat) : Int) then some (n.toNat, t) else none) = _
  rw [if_neg (fun z => z rfl)]
  cases e : par [32] [] r with
  | none =>
    have e1 : pt r = (r, [], []) := by unfold pt; rw [e]
    rw [e1]
    show none = match figM r 5 with
      | none => none
      | some n => if (pt []).2.1 = [] then none else _
    cases figM r 5 with
    | none => rfl
    | some n => exact (if_pos rfl).symm
  | some x =>
    obtain ⟨a, r2⟩ := x
    have e1 : pt r = (a, [32], r2) := by unfold pt; rw [e]
    rw [e1]
    show (match par [32] [] r2 with
        | none => none
        | some (b, t) => match figM a 5 with
          | none => none
          | some n => if figM b 5 = some ((chk (kd :: a ++ 32 :: t) : Nat) : Int) then some (n.toNat, t) else none) = match figM a 5 with
      | none => none
      | some n => if (pt r2).2.1 = [] then none else if figM (pt r2).1 5 = some ((chk (kd :: a ++ 32 :: (pt r2).2.2) : Nat) : Int) then some (n.toNat, (pt r2).2.2) else none
    cases e2 : par [32] [] r2 with
    | none =>
      have e3 : pt r2 = (r2, [], []) := by unfold pt; rw [e2]
      rw [e3]
      cases figM a 5 with
      | none => rfl
      | some n => exact (if_pos rfl).symm
    | some y =>
      obtain ⟨b, t⟩ := y
      have e3 : pt r2 = (b, [32], t) := by unfold pt; rw [e2]
      rw [e3]
      cases figM a 5 with
      | none => rfl
      | some n => exact (if_neg (List.cons_ne_nil _ _)).symm
theorem in_strs (z : Str) : ∀ ys : List Str, inV (.str z) (ys.map V.str) = decide (z ∈ ys)
  | [] => rfl
  | y :: ys => by
    have ih := in_strs z ys
    unfold inV at ih ⊢
    rw [List.map_cons, List.any_cons, ih]
    show ((y == z) || decide (z ∈ ys)) = decide (z ∈ y :: ys)
    by_cases e : y = z
    · subst e
      simp
    · have e2 : ¬ z = y := fun q => e q.symm
      have : (y == z) = false := by simpa using e
      rw [this]
      simp [e2]
theorem in_kd {kd : Nat} (h : KdOk kd) : inV (.str (S [kd])) (kdN.map V.str) = true := by
  rw [in_strs]
  rcases h with rfl | rfl
  · exact decide_eq_true (List.mem_cons.mpr (.inl q_S.symm))
  · exact decide_eq_true (List.mem_cons_of_mem _ (List.mem_cons.mpr (.inl a_S.symm)))
section
variable {P : Program} {w : World} {K : PySem.W.Frag} {mg : Str → Option Value} {base : Heap} {CY CE : Addr}
abbrev sFchk : Stmt := topS 10
def scFchkN : List Str := ["kind", "number", "text", "signs", "place", "sign"]
theorem scFchk : FnScope scFchkN ["kind", "number", "text"] (defScope sFchk) := ⟨rfl, rfl, rfl, by decide +kernel, rfl, by decide +kernel, by decide +kernel⟩
theorem ok_Fchk {f : Addr} {fd : FuncData} (F : Fun K "check_of" "check_of" sFchk f fd) (T : Lx K mg CY CE) : FnOk P w K mg base CX0 1 f fd ["kind", "number", "text"] (spChk) := by
  refine F.ok scFchk (fun vs H Q E h => by obtain ⟨_, _, _, rfl, _⟩ := h; rfl) (fun cdv A outer s H vs Q E hr h => ?_)
  have hu := hu_of hr
  obtain ⟨t_CHECK_SPAN, g_CHECK_SPAN⟩ := T.g_CHECK_SPAN
  have z_enumerate := T.z_enumerate
  have z_ord := T.z_ord
  have z_sum := T.z_sum
  obtain ⟨kd, n, t, rfl, hkd, hn, ht, htl, q⟩ := h
  refine ⟨_, (pss_cons (ps_set (i := 3) scFchk.nd rfl (.inl rfl) (pe_joined (.cons (pe_fmt (pv 0)) (.cons (pe_fmt (pv 1)) (.cons pe_str (.cons (pe_fmt (pv 2)) .nil))))))
    (pss_one (ps_ret (pe_op op_mod (pe_callB (cr_sum (by rfl)) (by rfl) z_sum (by decide +kernel) (pa_cons (pe_lc (own := [("place", 4), ("sign", 5)]) (g := gTup K 2 (gCons (gName 4) (gCons (gName 5) gNil))) (tt := tYes) (by rfl) scFchk.nd (pi_enumS (by rfl) z_enumerate (pa_cons (pv 3) (pa_cons pe_int pa_nil))) (blkOk_by (own := [("place", 4), ("sign", 5)]) (N := scFchkN) (sc := defScope sFchk) (by decide +kernel)) (fun _ _ _ _ _ => (gtK (K := K) (n := 2) (by rfl) (by rfl) (pgs_cons (pg_name (i := 4) scFchk.nd rfl (.inl rfl)) (pgs_cons (pg_name (i := 5) scFchk.nd rfl (.inl rfl)) pgs_nil)) (by rfl) (by rfl))) (fun _ _ _ _ _ => pts_nil) (fun _ _ _ _ _ => (pe_op op_mul (pv 4) (pe_callB call_ord (by rfl) z_ord (by decide +kernel) (pa_cons (pv 5) pa_nil))))) pa_nil)) (pgI g_CHECK_SPAN))))), ?_⟩
  have hL := numL5 hn
  have a1 : Str.empty ++ S [kd] = S [kd] := S_cat [] [kd]
  have a2 : S [kd] ++ S (numL n) = S (kd :: numL n) := S_cat _ _
  have a3 : S (kd :: numL n) ++ S [32] = S (kd :: numL n ++ [32]) := S_cat _ _
  have a4 : S (kd :: numL n ++ [32]) ++ S t = S (kd :: numL n ++ 32 :: t) := by rw [S_cat, List.append_assoc]; rfl
  refine ⟨_, rfl, .inl ⟨_, rfl, szl (by rw [S_len]; simp), _, rfl, ?_, ?_⟩⟩
  · rw [a1, S_len]; exact szl (by simp)
  rw [a1]
  refine ⟨_, rfl, .inr ⟨_, rfl, num_small2 hn, _, rfl, ?_, ?_⟩⟩
  · rw [numS, a2, S_len]; exact szl (by rw [List.length_cons]; omega)
  rw [numS, a2]
  refine ⟨_, rfl, ?_, ?_⟩
  · rw [sp_S, a3, S_len]; exact szl (by rw [List.length_append, List.length_cons, List.length_singleton]; omega)
  rw [sp_S, a3]
  refine ⟨_, rfl, .inl ⟨_, rfl, szl (by rw [S_len]; omega), _, rfl, ?_, ?_⟩⟩
  · rw [a4, S_len]; exact szl (by rw [List.length_append, List.length_cons, List.length_cons]; omega)
  rw [a4]
  have hz : (kd :: numL n ++ 32 :: t).length ≤ 20010 := by rw [List.length_append, List.length_cons, List.length_cons]; omega
  clear a1 a2 a3 a4
  generalize kd :: numL n ++ 32 :: t = l at *
  refine ⟨_, rfl, S l, 1, rfl, by decide, by decide, fun D nD => ?_⟩
  refine lc_iek (x := S l) (k := 1) (fun i H' => Same H H' ∧ H' D = some (.lst ((mulL 1 (l.take i)).map V.int))) ⟨same_upd' nD, upd_same⟩ ?_ ?_
  · rintro i c T H' hc ⟨sm, hD⟩ nT
    have hc : l[i]? = some c := by
      have : (S l).cps.toList[i]? = some c := by simpa using hc
      exact this
    have hi : i < l.length := (List.getElem?_eq_some_iff.mp hc).1
    have s2 := same_upd' (o := .tup [V.int (1 + (i : Nat)), V.str ⟨#[c]⟩]) nT
    refine ⟨T, _, rfl, SqT.of upd_same, rfl, _, _, rfl, _, _, rfl, rfl, rfl, ?_⟩
    refine ⟨_, rfl, _, rfl, _, rfl, rfl, _, _, rfl, rfl, .inl ⟨by omega, by omega⟩, ?_⟩
    refine ⟨_, s2 _ _ hD, ?_, same_of (sm.trans s2) nD, ?_⟩
    · rw [List.length_map, mulL_len, List.length_take]
      exact Nat.lt_of_le_of_lt (Nat.le_trans (Nat.min_le_right _ _) hz) (by decide)
    · rw [upd_same, List.take_add_one, hc]
      show some (HO.lst _) = some (HO.lst ((mulL 1 (l.take i ++ [c])).map V.int))
      rw [mulL_snoc, List.map_append, List.length_take, Nat.min_eq_left (Nat.le_of_lt hi)]
      have e : ((1 + i : Nat) : Int) = 1 + (i : Int) := by omega
      rw [e]
      rfl
  rintro H' ⟨sm, hD⟩
  have hD : H' D = some (.lst ((mulL 1 l).map V.int)) := by
    have e : (S l).cps.size = l.length := S_len l
    rw [e, List.take_length] at hD
    exact hD
  refine ⟨_, _, rfl, SqL.of hD, _, _, rfl, rfl, (by show (0 : Int) < 9973; decide), ?_⟩
  rw [mulL_sum]
  exact q H' sm
abbrev sFlet : Stmt := topS 11
def scFletN : List Str := ["kind", "number", "text"]
theorem scFlet : FnScope scFletN ["kind", "number", "text"] (defScope sFlet) := ⟨rfl, rfl, rfl, by decide +kernel, rfl, by decide +kernel, by decide +kernel⟩
theorem ok_Flet {f : Addr} {fd : FuncData} {fF_chk : Addr} {dF_chk : FuncData} (F : Fun K "letter_of" "letter_of" sFlet f fd) (T : Lx K mg CY CE)
    (F_chk : CalF P w K mg base 1 "check_of" ["kind", "number", "text"] (spChk) fF_chk dF_chk) : FnOk P w K mg base CX0 2 f fd ["kind", "number", "text"] (spLet) := by
  refine F.ok scFlet (fun vs H Q E h => by obtain ⟨_, _, _, rfl, _⟩ := h; rfl) (fun cdv A outer s H vs Q E hr h => ?_)
  have hu := hu_of hr
  obtain ⟨kd, n, t, rfl, hkd, hn, ht, htl, q⟩ := h
  refine ⟨_, (pss_one (ps_ret (pe_joined (.cons (pe_fmt (pv 0)) (.cons (pe_fmt (pv 1)) (.cons pe_str (.cons (pe_fmt (pe_call F_chk.G (hr.mono (by decide)) (by rfl) F_chk.g F_chk.kp F_chk.b .nil pass0 (pa_cons (pv 0) (pa_cons (pv 1) (pa_cons (pv 2) pa_nil))))) (.cons pe_str (.cons (pe_fmt (pv 2)) .nil))))))))), ?_⟩
  have hL := numL5 hn
  have a1 : Str.empty ++ S [kd] = S [kd] := S_cat [] [kd]
  have a2 : S [kd] ++ S (numL n) = S (kd :: numL n) := S_cat _ _
  have a3 : S (kd :: numL n) ++ S [32] = S (kd :: numL n ++ [32]) := S_cat _ _
  have a4 : S (kd :: numL n ++ [32]) ++ S t = S (kd :: numL n ++ 32 :: t) := by rw [S_cat, List.append_assoc]; rfl
  have hcL : (numL (chk (kd :: numL n ++ 32 :: t))).length ≤ 5 := numL5 (by have := chk_lt (kd :: numL n ++ 32 :: t); omega)
  refine ⟨_, rfl, .inl ⟨_, rfl, szl (by rw [S_len]; simp), _, rfl, ?_, ?_⟩⟩
  · rw [a1, S_len]; exact szl (by simp)
  rw [a1]
  refine ⟨_, rfl, .inr ⟨_, rfl, num_small2 hn, _, rfl, ?_, ?_⟩⟩
  · rw [numS, a2, S_len]; exact szl (by rw [List.length_cons]; omega)
  rw [numS, a2]
  refine ⟨_, rfl, ?_, ?_⟩
  · rw [sp_S, a3, S_len]; exact szl (by rw [List.length_append, List.length_cons, List.length_singleton]; omega)
  rw [sp_S, a3]
  refine ⟨_, rfl, _, rfl, _, rfl, kd, n, t, rfl, hkd, hn, ht, htl, fun H' sm => .inr ⟨_, rfl, num_small2 (by have := chk_lt (kd :: numL n ++ 32 :: t); omega), _, rfl, ?_, ?_⟩⟩
  · rw [numS, S_cat, S_len]; exact szl (by rw [List.length_append, List.length_append, List.length_cons, List.length_singleton]; omega)
  rw [numS, S_cat]
  refine ⟨_, rfl, ?_, ?_⟩
  · rw [S_cat, S_len]; exact szl (by simp only [List.length_append, List.length_cons, List.length_nil]; omega)
  rw [S_cat]
  refine ⟨_, rfl, .inl ⟨_, rfl, szl (by rw [S_len]; omega), _, rfl, ?_, ?_⟩⟩
  · rw [S_cat, S_len]; exact szl (by simp only [List.length_append, List.length_cons, List.length_nil]; omega)
  rw [S_cat]
  have e : kd :: numL n ++ [32] ++ numL (chk (kd :: numL n ++ 32 :: t)) ++ [32] ++ t = letL kd n t := by
    unfold letL
    simp only [List.append_assoc, List.cons_append, List.nil_append, List.singleton_append]
  rw [e]
  exact q H' sm
abbrev sFopn : Stmt := topS 12
def scFopnN : List Str := ["kind", "letter", "head", "_", "rest", "check", "blank", "text", "number"]
theorem scFopn : FnScope scFopnN ["kind", "letter"] (defScope sFopn) := ⟨rfl, rfl, rfl, by decide +kernel, rfl, by decide +kernel, by decide +kernel⟩
theorem ok_Fopn {f : Addr} {fd : FuncData} {fF_chk : Addr} {dF_chk : FuncData} {fF_fig : Addr} {dF_fig : FuncData} (F : Fun K "opened" "opened" sFopn f fd) (T : Lx K mg CY CE)
    (F_chk : CalF P w K mg base 1 "check_of" ["kind", "number", "text"] (spChk) fF_chk dF_chk)
    (F_fig : CalF P w K mg base 1 "figured" ["part", "most"] (spFig) fF_fig dF_fig) : FnOk P w K mg base (L2.CX P w) 2 f fd ["kind", "letter"] (spOpen CY) := by
  refine F.okX scFopn (fun vs H Q E h => by obtain ⟨_, _, rfl, _⟩ := h; rfl) (fun cdv A outer s H vs Q E hr h => ?_)
  have hu := hu_of hr
  obtain ⟨t_CHECK_FIGURES, g_CHECK_FIGURES⟩ := T.g_CHECK_FIGURES
  obtain ⟨t_NUMBER_FIGURES, g_NUMBER_FIGURES⟩ := T.g_NUMBER_FIGURES
  have z_isinstance := T.z_isinstance
  have z_str := T.z_str
  obtain ⟨kd, l, rfl, hk, hl, hz, ke, kq⟩ := h
  obtain ⟨aK, gK, hK⟩ := T.g_KINDS
  refine ⟨_, (pss_cons (ps_if (PW.pt (pw_or (pt_not (pt_val (pe_callB call_isTy (by rfl) z_isinstance (by decide +kernel) (pa_cons (pv 1) (pa_cons (pe_bltn (v := .ty "str") (u := .type "str") (by rfl) z_str (by decide +kernel) rfl) pa_nil))))) (pw_or (pt_cmpR op_notIn_seq (pv 0) (pgR gK) (by rfl)) (pw_or1 (pt_cmpR op_ne (pe_slice C8.sl_txt (pv 1) po_none (po_some pe_int)) (pv 0) (nomark _)))))) (pss_one (ps_raise rfl (takes_of rfl rfl rfl rfl) (pmk_own PySem.F.excBase_ValueError T.xY T.gY T.kY (raises_own T.bY T.tY) (by exact rfl)))) pss_nil)
    (pss_cons (ps_asg (pe_partition (pe_slice C8.sl_txt (pv 1) (po_some pe_int) po_none) pe_str) (pg_tup rfl (pgs_cons (pg_name (i := 2) scFopn.nd rfl (.inl rfl)) (pgs_cons (pg_name (i := 3) scFopn.nd rfl (.inl rfl)) (pgs_cons (pg_name (i := 4) scFopn.nd rfl (.inl rfl)) pgs_nil)))))
    (pss_cons (ps_asg (pe_partition (pv 4) pe_str) (pg_tup rfl (pgs_cons (pg_name (i := 5) scFopn.nd rfl (.inl rfl)) (pgs_cons (pg_name (i := 6) scFopn.nd rfl (.inl rfl)) (pgs_cons (pg_name (i := 7) scFopn.nd rfl (.inl rfl)) pgs_nil)))))
    (pss_cons (ps_set (i := 8) scFopn.nd rfl (.inl rfl) (pe_call F_fig.G (hr.mono (by decide)) (by rfl) F_fig.g F_fig.kp F_fig.b .nil pass0 (pa_cons (pv 2) (pa_cons (pgI g_NUMBER_FIGURES) pa_nil))))
    (pss_cons (ps_if (PW.pt (pw_or (pt_cmp (pc_isN (pv 8))) (pw_or (pt_cmpR op_eq (pv 6) pe_str (nomark _)) (pw_or1 (pt_cmpR op_ne (pe_call F_fig.G (hr.mono (by decide)) (by rfl) F_fig.g F_fig.kp F_fig.b .nil pass0 (pa_cons (pv 5) (pa_cons (pgI g_CHECK_FIGURES) pa_nil))) (pe_call F_chk.G (hr.mono (by decide)) (by rfl) F_chk.g F_chk.kp F_chk.b .nil pass0 (pa_cons (pv 0) (pa_cons (pv 8) (pa_cons (pv 7) pa_nil)))) (nomark _)))))) (pss_one (ps_raise rfl (takes_of rfl rfl rfl rfl) (pmk_own PySem.F.excBase_ValueError T.xY T.gY T.kY (raises_own T.bY T.tY) (by exact rfl)))) pss_nil)
    (pss_one (ps_ret (pe_tup (pa_cons (pv 8) (pa_cons (pv 7) pa_nil)))))))))), ?_⟩
  refine ⟨_, rfl, _, "str", rfl, .str _, _, rfl, ifN (fun h => by cases h) (fun _ => ?_)⟩
  refine ⟨_, rfl, aK, _, rfl, .inr (hK _), rfl, rfl, _, rfl, ?_⟩
  refine ifN (fun h => ?_) (fun _ => ?_)
  · rw [in_kd hk] at h; cases h
  refine ⟨_, rfl, _, rfl, _, rfl, szl (by rw [S_len]; omega), ?_⟩
  rw [slice_to (by decide)]
  refine ⟨_, rfl, rfl, _, rfl, ifN (fun h => ?_) (fun h => ?_)⟩
  · have hne : l.take 1 ≠ [kd] := fun z => of_decide_eq_false h (by show V.str (S (l.take 1)) = V.str (S [kd]); rw [z])
    refine ke ?_ H (Same.refl _)
    cases l with
    | nil => rfl
    | cons c r => exact letM_other fun z => hne (by rw [z]; rfl)
  obtain ⟨r, rfl⟩ : ∃ r, l = kd :: r := by
    have z : l.take 1 = [kd] := S_inj (V.str.inj (of_decide_eq_true h))
    cases l with
    | nil => cases z
    | cons c r => exact ⟨r, by rw [show c = kd from List.head_eq_of_cons_eq z]⟩
  clear h
  have hr : r.length ≤ 20000 := Nat.le_trans (Nat.le_succ _) hz
  have hrl : OkL r := fun c hc => hl c (List.mem_cons_of_mem _ hc)
  obtain ⟨u1, u2, u3, u4⟩ := pt_sub r
  obtain ⟨v1, v2, v3, v4⟩ := pt_sub (pt r).2.2
  rw [letM_pt] at ke kq
  refine ⟨_, rfl, _, rfl, _, rfl, szl (by rw [S_len]; omega), ?_⟩
  rw [slice_from (by decide)]
  refine ⟨⟨_, rfl⟩, _, _, rfl, rfl, by decide +kernel, szl (by rw [S_len]; show r.length ≤ 100000; omega), fun p1 np1 => ?_⟩
  rw [sp_S]
  show _
  have epr : (kd :: r).drop (1 : Int).toNat = r := rfl
  rw [epr, part_pt]
  have s1 := same_upd' (o := .tup [V.str (S (pt r).1), V.str (S (pt r).2.1), V.str (S (pt r).2.2)]) np1
  refine ⟨p1, _, rfl, SqT.of upd_same, rfl, _, _, rfl, _, _, rfl, _, _, rfl, rfl, ?_⟩
  generalize upd H p1 (.tup [V.str (S (pt r).1), V.str (S (pt r).2.1), V.str (S (pt r).2.2)]) = G1 at *
  refine ⟨_, rfl, ⟨_, rfl⟩, _, _, rfl, rfl, by decide +kernel, szl (by rw [S_len]; omega), fun p2 np2 => ?_⟩
  rw [part_pt]
  have s2 := same_upd' (o := .tup [V.str (S (pt (pt r).2.2).1), V.str (S (pt (pt r).2.2).2.1), V.str (S (pt (pt r).2.2).2.2)]) np2
  refine ⟨p2, _, rfl, SqT.of upd_same, rfl, _, _, rfl, _, _, rfl, _, _, rfl, rfl, ?_⟩
  generalize upd G1 p2 (.tup [V.str (S (pt (pt r).2.2).1), V.str (S (pt (pt r).2.2).2.1), V.str (S (pt (pt r).2.2).2.2)]) = G2 at *
  have s3 := s1.trans s2
  clear s1 s2 np1 np2
  generalize ea : (pt r).1 = a at *
  generalize er2 : (pt r).2.2 = r2 at *
  generalize eb : (pt r2).1 = b at *
  generalize ebl : (pt r2).2.1 = bl at *
  generalize et : (pt r2).2.2 = t at *
  refine ⟨_, rfl, a, 5, rfl, by omega, by decide, ?_⟩
  cases e5 : figM a 5 with
  | none =>
    rw [e5] at ke
    exact ⟨_, rfl, _, rfl, ifB (fun _ => ke rfl _ s3) (fun h => by cases h)⟩
  | some n0 =>
    rw [e5] at ke kq
    obtain ⟨n1, n2⟩ := figM_lt e5
    obtain ⟨n, rfl⟩ : ∃ n : Nat, n0 = (n : Int) := ⟨n0.toNat, by omega⟩
    have ea2 := figM_back e5
    have hn : n < 100000 := by omega
    refine ⟨_, rfl, _, rfl, ifB (fun h => by cases of_decide_eq_true h) (fun _ => ?_)⟩
    refine ⟨_, rfl, rfl, _, rfl, ifB (fun h => ?_) (fun h => ?_)⟩
    · have z : bl = [] := S_inj ((V.str.inj (of_decide_eq_true h)).trans (TL.ext_tl (by decide +kernel)))
      exact ke (if_pos z) _ s3
    have hbl : bl ≠ [] := fun z => of_decide_eq_false h (by rw [z]; exact congrArg V.str (TL.ext_tl (show ([] : List Nat) = tl ("" : Str) from by decide +kernel)))
    have ke2 : figM b 5 ≠ some ((chk (kd :: a ++ 32 :: t) : Nat) : Int) → ∀ H', Same H H' → E (.ref CY) none H' := fun z => ke ((if_neg hbl).trans (if_neg z))
    refine ⟨_, rfl, b, 4, rfl, by omega, by decide, ?_⟩
    have htl : OkL t := fun c hc => hrl c (u2 c (v2 c hc))
    refine ⟨_, rfl, _, rfl, _, rfl, kd, n, t, rfl, (by rcases hk with rfl | rfl <;> decide), hn, htl, by omega, fun G3 s4 => ?_⟩
    have s5 := s3.trans s4
    have hch := chk_lt (kd :: numL n ++ 32 :: t)
    refine ⟨by cases figM b 4 <;> rfl, _, rfl, ifN (fun h => ?_) (fun h => ?_)⟩
    · refine ke2 (fun z => ?_) _ s5
      rw [ea2] at z
      have z2 := (fig45 (by omega)).mpr z
      exact of_decide_eq_false h (by rw [z2]; rfl)
    have e4 : figM b 4 = some ((chk (kd :: numL n ++ 32 :: t) : Nat) : Int) := by
      have z := of_decide_eq_true h
      cases e : figM b 4 with
      | none => rw [e] at z; cases z
      | some y => rw [e] at z; exact congrArg some (V.int.inj z)
    have e55 := (fig45 (by omega)).mp e4
    refine ⟨_, rfl, _, rfl, (by show 2 ≤ sizeLine; decide), fun p np => ?_⟩
    refine kq n t ?_ _ p (s5.trans (same_upd' np)) (s5.free np) upd_same
    refine (if_neg hbl).trans ?_
    rw [ea2, if_pos e55]
    rfl
end
end Bh

/-! The law's own defs. -/
namespace Bh
open PySem PySem.Spec PyProof.Rows L2
open TL SX RZ
section
variable {X : Cx}
/-- isinstance(e, c), e any error that has no dict of its own -/
def rIsN (K : PySem.W.Frag) (a : Addr) (cls : Value) (d : Option Addr) : List V → Hp → VK → Prop := fun xs H Q => ∃ D, cls = .ref D ∧ d = none ∧ ExcC K D ∧ rIsE K D a xs H Q
theorem call_isN {a : Addr} {oe : Obj} {cls : Value} {d : Option Addr} {pn : List (Addr × Obj)} (hz : Zc cls d oe) (hf : ∃ vs, oe.data = .fields vs) : CallR (X.suite a ((a, oe) :: pn)) (.builtin "isinstance") (rIsN X.K a cls d) := by
  intro pins s σ H xs us Q I r h
  obtain ⟨D, rfl, rfl, C, h⟩ := h
  exact call_isE C hz hf pins s σ H xs us Q I r h
theorem call_isNK {K : PySem.W.Frag} {a : Addr} {oe : Obj} {cls : Value} {d : Option Addr} {pn : List (Addr × Obj)} (hK : X.K = K) (hz : Zc cls d oe) (hf : ∃ vs, oe.data = .fields vs) : CallR (X.suite a ((a, oe) :: pn)) (.builtin "isinstance") (rIsN K a cls d) := by
  subst hK
  exact call_isN hz hf
end
theorem small1000 {n : Nat} (h : n < 2000) : n < sizeLine := Nat.lt_of_lt_of_le h (by decide)
def DigOk (ds : List Int) : Prop := ∀ d ∈ ds, 0 ≤ d ∧ d ≤ 1008
def spDig : Sp := fun vs H Q _ => ∃ (c : Int) (m : Nat), vs = [.int c, .int (m : Int)] ∧ m ≤ 1000 ∧ ∀ (H' : Hp) (p : Addr) (ds : List Int), ds.length = m → DigOk ds → Same H H' → H p = none → H' p = some (.lst (ds.map V.int)) → Q (.ref p) H'
theorem digOk_snoc {ds : List Int} {d : Int} (h : DigOk ds) (h0 : 0 ≤ d) (h1 : d ≤ 1008) : DigOk (ds ++ [d]) := fun x hx => by
  rcases List.mem_append.mp hx with q | q
  · exact h x q
  · rw [List.mem_singleton.mp q]
    exact ⟨h0, h1⟩
theorem at_nat {xs : List V} {k : Nat} {v : V} (h : xs[k]? = some v) : atI xs (k : Int) = some v := by
  have hk : k < xs.length := (List.getElem?_eq_some_iff.mp h).1
  unfold atI ixN
  rw [if_pos (Int.natCast_nonneg k), if_pos (by omega)]
  exact h
theorem at0 (x : V) (xs : List V) : atI (x :: xs) 0 = some x := at_nat (k := 0) rfl
theorem at1 (x y : V) (xs : List V) : atI (x :: y :: xs) 1 = some y := at_nat (k := 1) rfl
def signL : List Nat := tl ("abc XYZ019;:-_.~!qa" : Str) ++ tl ("defghijklmnoprstuvwxyz" : Str)
theorem sign_len : signL.length = 41 := by decide +kernel
theorem sign_ok : OkL signL := by
  intro c hc
  have : ∀ c ∈ signL, c < 128 := by decide +kernel
  exact this c hc
def spSg : Sp := fun vs H Q _ => vs = [] ∧ Q (.str (S signL)) H
def spCk : Sp := fun vs H Q _ => ∃ hd t : List Nat, vs = [.str (S hd), .str (S t)] ∧ OkL hd ∧ OkL t ∧ hd.length ≤ 30000 ∧ t.length ≤ 30000 ∧ Q (.int (chk (hd ++ 32 :: t) : Nat)) H
def spNu : Sp := fun vs H Q _ => ∃ p : List Nat, vs = [.str (S p)] ∧ p.length ≤ 100000 ∧ ∀ H', Same H H' → Q (fV (figM p 5)) H'
def spDue : Sp := fun vs H Q _ => ∃ (kd : Nat) (l : List Nat), vs = [.str (S [kd]), .str (S l)] ∧ KdOk kd ∧ OkL l ∧ l.length ≤ 20000 ∧
  (letM kd l = none → ∀ H', Same H H' → Q (.str "none") H') ∧ ∀ n t, letM kd l = some (n, t) → ∀ H' p, Same H H' → H p = none → H' p = some (.tup [.int (n : Int), .str (S t)]) → Q (.ref p) H'
def bentM (l : List Nat) (w a s t : Nat) : List Nat :=
  if w % 6 = 0 then l.take (a % l.length) ++ signL.getD (s % 41) 0 :: l.drop (a % l.length + 1)
  else if w % 6 = 1 then l.take (a % l.length) ++ l.drop (a % l.length + 1)
  else if w % 6 = 2 then l.take (a % l.length) ++ signL.getD (s % 41) 0 :: l.drop (a % l.length)
  else if w % 6 = 3 then l.take (a % l.length) ++ ((l.drop (a % l.length)).take 2).reverse ++ l.drop (a % l.length + 2)
  else if w % 6 = 4 then l.take (a % l.length)
  else ([[97], [113], [120], []] : List (List Nat)).getD (t % 4) [] ++ l.drop 1
def spBent : Sp := fun vs H Q _ => ∃ (r : Addr) (l : List Nat) (w a s t : Nat), vs = [.str (S l), .ref r] ∧ H r = some (.lst [.int w, .int a, .int s, .int t]) ∧ w ≤ 1008 ∧ a ≤ 1008 ∧ s ≤ 1008 ∧ t ≤ 1008 ∧ l ≠ [] ∧ l.length ≤ 19000 ∧ ∀ H', Same H H' → Q (.str (S (bentM l w a s t))) H'
theorem dig_in (c : Nat) : decide (c ∈ ("0123456789" : Str).cps.toList) = digB c := by
  rw [show ("0123456789" : Str).cps.toList = [48, 49, 50, 51, 52, 53, 54, 55, 56, 57] by decide +kernel]
  unfold digB
  rw [Bool.eq_iff_iff]
  simp
  omega
theorem filt_all : ∀ l : List Nat, (l.filter digB).length ≤ l.length ∧ (l.all digB = true ↔ (l.filter digB).length = l.length)
  | [] => ⟨Nat.le_refl _, by simp⟩
  | c :: r => by
    obtain ⟨a, b⟩ := filt_all r
    rw [List.filter_cons, List.all_cons]
    cases h : digB c
    · refine ⟨Nat.le_succ_of_le a, ?_⟩
      rw [if_neg Bool.false_ne_true, Bool.false_and, List.length_cons]
      constructor
      · intro z; cases z
      · intro z; omega
    · rw [if_pos rfl, List.length_cons, List.length_cons, Bool.true_and]
      exact ⟨Nat.succ_le_succ a, b.trans (by omega)⟩
theorem slice_mid {l : List Nat} {a b : Nat} : Txt.slice (S l) (some (a : Int)) (some (b : Int)) = S ((l.drop a).take (b - a)) := by
  rw [← C8.cutS_slice]
  unfold cutS
  refine TL.ext_tl ?_
  show (((S l).cps.toList.drop (HT.sIx (S l).length 0 (some (a : Int)))).take (HT.sIx (S l).length (S l).length (some (b : Int)) - HT.sIx (S l).length 0 (some (a : Int)))) = (l.drop a).take (b - a)
  rw [HT.sIx_nat, HT.sIx_nat, S_len]
  show (l.drop (min a l.length)).take (min b l.length - min a l.length) = (l.drop a).take (b - a)
  by_cases h : a ≤ l.length
  · rw [Nat.min_eq_left h]
    by_cases h2 : b ≤ l.length
    · rw [Nat.min_eq_left h2]
    · rw [Nat.min_eq_right (by omega), List.take_of_length_le (by rw [List.length_drop]; omega), List.take_of_length_le (by rw [List.length_drop]; omega)]
  · rw [show min a l.length = l.length from Nat.min_eq_right (by omega), List.drop_eq_nil_of_le (Nat.le_refl l.length), List.drop_eq_nil_of_le (show l.length ≤ a by omega), List.take_nil, List.take_nil]
theorem sto (l : List Nat) (n : Nat) : Txt.slice (S l) none (some (n : Int)) = S (l.take n) := by
  rw [slice_to (by omega), Int.toNat_natCast]
theorem sfr (l : List Nat) (n : Nat) : Txt.slice (S l) (some (n : Int)) none = S (l.drop n) := by
  rw [slice_from (by omega), Int.toNat_natCast]
theorem sfr1 (l : List Nat) (n : Nat) : Txt.slice (S l) (some ((n : Int) + 1)) none = S (l.drop (n + 1)) := sfr l (n + 1)
theorem sfr2 (l : List Nat) (n : Nat) : Txt.slice (S l) (some ((n : Int) + 2)) none = S (l.drop (n + 2)) := sfr l (n + 2)
theorem smid (l : List Nat) (n : Nat) : Txt.slice (S l) (some (n : Int)) (some ((n : Int) + 2)) = S ((l.drop n).take 2) := by
  have e := slice_mid (l := l) (a := n) (b := n + 2)
  rw [show n + 2 - n = 2 by omega] at e
  exact e
theorem x_S : ("x" : Str) = S [120] := TL.ext_tl (by decide +kernel)
theorem n_S : ("" : Str) = S [] := TL.ext_tl (by decide +kernel)
section
variable {P : Program} {w : World} {K : PySem.W.Frag} {mg : Str → Option Value} {base : Heap} {CY CE : Addr}
abbrev sDig : Stmt := topS 15
theorem scDig : FnScope ["_law_cell_here", "_law_many", "_law_row", "_law_rest", "_law_number_here", "_law_k"] ["_law_cell_here", "_law_many"] (defScope sDig) := ⟨rfl, rfl, rfl, by decide +kernel, rfl, by decide +kernel, by decide +kernel⟩
theorem ok_Ldig {f : Addr} {fd : FuncData} (F : Fun K "_law_digits" "_law_digits" sDig f fd) (gr : mg "range" = none) : FnOk P w K mg base CX0 1 f fd ["_law_cell_here", "_law_many"] spDig := by
  refine F.ok scDig (fun vs H Q E h => by obtain ⟨c, m, rfl, _⟩ := h; rfl) (fun cdv A outer s H vs Q E hr h => ?_)
  obtain ⟨c, m, rfl, hm, q⟩ := h
  have ap : ∀ {X : Cx} , True := fun {_} => trivial
  refine ⟨_, pss_cons (ps_set (i := 2) scDig.nd rfl (.inl rfl) (pe_lst pa_nil))
    (pss_cons (ps_set (i := 3) scDig.nd rfl (.inl rfl) pe_int)
    (pss_cons (ps_if (pt_cmpR op_ge (pv 0) (pe_op op_pow pe_int pe_int) (nomark _)) (pss_one (ps_set (i := 3) scDig.nd rfl (.inl rfl) (pv 0))) pss_nil)
    (pss_cons (ps_set (i := 4) scDig.nd rfl (.inl rfl) (pe_op op_mod (pv 0) pe_int))
    (pss_cons (ps_for PassesOwn.never rfl (pi_range1 (by rfl) gr (pa_cons (pv 1) pa_nil)) (pg_name (i := 5) scDig.nd rfl (.inl rfl))
      (pss_cons (ps_set (i := 4) scDig.nd rfl (.inl rfl) (pe_op op_mod (pe_op op_add (pe_op op_add (pe_op op_mul (pv 4) pe_int) (pe_op op_mul pe_int (pv 5))) pe_int) pe_int))
      (pss_cons (ps_set (i := 4) scDig.nd rfl (.inl rfl) (pe_op op_mod (pe_op op_mul (pv 4) (pe_op op_add (pe_op op_fdiv (pv 4) pe_int) pe_int)) pe_int))
      (pss_one (ps_if (pt_cmpR op_gt (pv 3) pe_int (nomark _))
        (pss_cons (ps_expr (pe_bm PySem.F.plainAttrs_list PySem.F.slot_list_append PySem.F.type_list_append mt_append (pv 2) (pa_cons (pe_op op_mod (pv 3) pe_int) pa_nil)))
          (pss_one (ps_set (i := 3) scDig.nd rfl (.inl rfl) (pe_op op_fdiv (pv 3) pe_int))))
        (pss_one (ps_expr (pe_bm PySem.F.plainAttrs_list PySem.F.slot_list_append PySem.F.type_list_append mt_append (pv 2) (pa_cons (pe_op op_mod (pe_op op_fdiv (pv 4) pe_int) pe_int) pa_nil)))))))))
    (pss_one (ps_ret (pv 2))))))), ?_⟩
  refine ⟨Nat.zero_le _, fun p np => ?_⟩
  refine ⟨_, rfl, _, _, rfl, rfl, ⟨by decide, by decide, by decide⟩, _, _, rfl, rfl, _, rfl, ifB (fun _ => ⟨_, rfl, ?_⟩) (fun _ => ?_)⟩
  all_goals
    refine ⟨_, rfl, _, _, rfl, rfl, (by show (0 : Int) < 2147483647; decide), ?_⟩
    refine ⟨_, rfl, (m : Int), rfl, by omega, by omega, ?_⟩
    refine for_range (lo := 0) (n := ((m : Int)).toNat) (fun i σ H' => ∃ (rest num : Int) (y : Option V) (ds : List Int), σ = [some (.int c), some (.int (m : Int)), some (.ref p), some (.int rest), some (.int num), y] ∧ 0 ≤ num ∧ num < 2147483647 ∧ ds.length = i ∧ DigOk ds ∧ Same H H' ∧ H' p = some (.lst (ds.map V.int)))
      ⟨_, _, none, [], rfl, Int.emod_nonneg _ (by decide), Int.emod_lt_of_pos _ (by decide), rfl, (fun _ h => by cases h), same_upd' np, upd_same⟩ ?_ ?_
    · rintro i σ H' hi ⟨rest, num, y, ds, rfl, n0, n1, hl, hd, sm, hp⟩
      have him : i < 1000 := by omega
      refine ⟨_, rfl, _, _, rfl, rfl, .inl ⟨by omega, by omega⟩, _, rfl, _, _, rfl, rfl, .inl ⟨by decide, by decide⟩, _, _, rfl, rfl, _, _, rfl, rfl, _, _, rfl, rfl, (by show (0 : Int) < 2147483647; decide), ?_⟩
      have a0 := Int.emod_nonneg (num * 48271 + 30103 * (0 + (i : Int)) + 11) (show (2147483647 : Int) ≠ 0 by decide)
      have a1 := Int.emod_lt_of_pos (num * 48271 + 30103 * (0 + (i : Int)) + 11) (show (0 : Int) < 2147483647 by decide)
      refine ⟨_, rfl, _, rfl, _, _, rfl, rfl, ⟨by decide, by decide⟩, _, _, rfl, rfl, _, _, rfl, rfl, .inl ⟨by omega, by omega⟩, _, _, rfl, rfl, (by show (0 : Int) < 2147483629; decide), ?_⟩
      have b0 := Int.emod_nonneg (((num * 48271 + 30103 * (0 + (i : Int)) + 11) % 2147483647) * (((num * 48271 + 30103 * (0 + (i : Int)) + 11) % 2147483647) / 1009 + 69621)) (show (2147483629 : Int) ≠ 0 by decide)
      have b1 := Int.emod_lt_of_pos (((num * 48271 + 30103 * (0 + (i : Int)) + 11) % 2147483647) * (((num * 48271 + 30103 * (0 + (i : Int)) + 11) % 2147483647) / 1009 + 69621)) (show (0 : Int) < 2147483629 by decide)
      have hlen : (ds.map V.int).length < sizeLine := by
        rw [List.length_map]
        exact small1000 (by omega)
      have upd_ok : ∀ (d : Int), Same H (upd H' p (.lst (ds.map V.int ++ [.int d]))) ∧ upd H' p (.lst (ds.map V.int ++ [.int d])) p = some (.lst ((ds ++ [d]).map V.int)) := fun d => by
        refine ⟨same_of sm np, ?_⟩
        rw [upd_same, List.map_append]
        rfl
      refine ⟨_, rfl, _, _, rfl, rfl, _, rfl, ifB (fun _ => ?_) (fun _ => ?_)⟩
      · refine ⟨_, rfl, .inl ⟨rfl, _, SqL.of hp⟩, _, rfl, _, _, rfl, rfl, (by show (0 : Int) < 1009; decide), p, _, _, rfl, rfl, hp, hlen, ?_⟩
        refine ⟨_, rfl, _, _, rfl, rfl, ⟨by decide, by decide⟩, ?_⟩
        have c0 := Int.emod_nonneg rest (show (1009 : Int) ≠ 0 by decide)
        have c1 := Int.emod_lt_of_pos rest (show (0 : Int) < 1009 by decide)
        exact ⟨_, _, _, ds ++ [rest % 1009], rfl, b0, by omega, by rw [List.length_append, hl]; rfl, digOk_snoc hd c0 (by omega), (upd_ok _).1, (upd_ok _).2⟩
      · refine ⟨_, rfl, .inl ⟨rfl, _, SqL.of hp⟩, _, rfl, _, _, rfl, rfl, ⟨by decide, by decide⟩, _, _, rfl, rfl, (by show (0 : Int) < 1009; decide), p, _, _, rfl, rfl, hp, hlen, ?_⟩
        have c0 := Int.emod_nonneg (((((num * 48271 + 30103 * (0 + (i : Int)) + 11) % 2147483647) * (((num * 48271 + 30103 * (0 + (i : Int)) + 11) % 2147483647) / 1009 + 69621)) % 2147483629) / 7) (show (1009 : Int) ≠ 0 by decide)
        have c1 := Int.emod_lt_of_pos (((((num * 48271 + 30103 * (0 + (i : Int)) + 11) % 2147483647) * (((num * 48271 + 30103 * (0 + (i : Int)) + 11) % 2147483647) / 1009 + 69621)) % 2147483629) / 7) (show (0 : Int) < 1009 by decide)
        exact ⟨_, _, _, ds ++ [((((num * 48271 + 30103 * (0 + (i : Int)) + 11) % 2147483647) * (((num * 48271 + 30103 * (0 + (i : Int)) + 11) % 2147483647) / 1009 + 69621)) % 2147483629) / 7 % 1009], rfl, b0, by omega, by rw [List.length_append, hl]; rfl, digOk_snoc hd c0 (by omega), (upd_ok _).1, (upd_ok _).2⟩
    · rintro σ H' ⟨rest, num, y, ds, rfl, n0, n1, hl, hd, sm, hp⟩
      exact ⟨_, rfl, q H' p ds (by omega) hd sm np hp⟩

abbrev sLsgn : Stmt := topS 16
def scLsgnN : List Str := []
theorem scLsgn : FnScope scLsgnN [] (defScope sLsgn) := ⟨rfl, rfl, rfl, by decide +kernel, rfl, by decide +kernel, by decide +kernel⟩
theorem ok_Lsgn {f : Addr} {fd : FuncData} (F : Fun K "_law_signs" "_law_signs" sLsgn f fd) (T : Lx K mg CY CE) : FnOk P w K mg base CX0 1 f fd [] (spSg) := by
  refine F.ok scLsgn (fun vs H Q E h => by obtain ⟨rfl, _⟩ := h; rfl) (fun cdv A outer s H vs Q E hr h => ?_)
  have hu := hu_of hr
  obtain ⟨rfl, q⟩ := h
  refine ⟨_, (pss_one (ps_ret (pe_op op_add_str pe_str pe_str))), ?_⟩
  refine ⟨_, _, rfl, rfl, (by decide +kernel), ?_⟩
  have e : ("abc XYZ019;:-_.~!qa" : Str) ++ ("defghijklmnoprstuvwxyz" : Str) = S signL := TL.ext_tl (TL.tl_append _ _)
  rw [e]
  exact q
abbrev sLchk : Stmt := topS 17
def scLchkN : List Str := ["_law_head", "_law_text", "_law_found", "_law_place", "_law_sign"]
theorem scLchk : FnScope scLchkN ["_law_head", "_law_text"] (defScope sLchk) := ⟨rfl, rfl, rfl, by decide +kernel, rfl, by decide +kernel, by decide +kernel⟩
theorem ok_Lchk {f : Addr} {fd : FuncData} (F : Fun K "_law_check" "_law_check" sLchk f fd) (T : Lx K mg CY CE) : FnOk P w K mg base CX0 1 f fd ["_law_head", "_law_text"] (spCk) := by
  refine F.ok scLchk (fun vs H Q E h => by obtain ⟨_, _, rfl, _⟩ := h; rfl) (fun cdv A outer s H vs Q E hr h => ?_)
  have hu := hu_of hr
  have z_ord := T.z_ord
  obtain ⟨hd, t, rfl, oh, ot, hl, tl_, q⟩ := h
  refine ⟨_, (pss_cons (ps_set (i := 2) scLchk.nd rfl (.inl rfl) pe_int)
    (pss_cons (ps_set (i := 3) scLchk.nd rfl (.inl rfl) pe_int)
    (pss_cons (ps_for PassesOwn.never rfl (pi_str (pe_op op_add_str (pe_op op_add_str (pv 0) pe_str) (pv 1))) (pg_name (i := 4) scLchk.nd rfl (.inl rfl))
      (pss_cons (ps_set (i := 3) scLchk.nd rfl (.inl rfl) (pe_op op_add (pv 3) pe_int))
    (pss_one (ps_set (i := 2) scLchk.nd rfl (.inl rfl) (pe_op op_add (pv 2) (pe_op op_mul (pv 3) (pe_callB call_ord (by rfl) z_ord (by decide +kernel) (pa_cons (pv 4) pa_nil))))))))
    (pss_one (ps_ret (pe_op op_mod (pv 2) pe_int)))))), ?_⟩
  have a1 : S hd ++ S [32] = S (hd ++ [32]) := S_cat _ _
  have a2 : S (hd ++ [32]) ++ S t = S (hd ++ 32 :: t) := by rw [S_cat, List.append_assoc]; rfl
  refine ⟨_, rfl, _, _, rfl, rfl, ?_, ?_⟩
  · rw [sp_S, S_len, S_len]; exact szl (by rw [List.length_singleton]; omega)
  rw [sp_S, a1]
  refine ⟨_, rfl, _, _, rfl, rfl, ?_, ?_⟩
  · rw [S_len, S_len]; exact szl (by rw [List.length_append, List.length_singleton]; omega)
  rw [a2]
  have ol : OkL (hd ++ 32 :: t) := fun c hc => by
    rcases List.mem_append.mp hc with z | z
    · exact oh c z
    · rcases List.mem_cons.mp z with z | z
      · rw [z]; decide
      · exact ot c z
  have hz : (hd ++ 32 :: t).length ≤ 60001 := by rw [List.length_append, List.length_cons]; omega
  clear a1 a2
  generalize hd ++ 32 :: t = l at *
  refine ⟨_, rfl, ?_⟩
  refine for_its (x := S l) (fun i σ H' => H' = H ∧ ∃ y, σ = [some (.str (S hd)), some (.str (S t)), some (.int ((csum 1 (l.take i) : Nat) : Int)), some (.int ((i : Nat) : Int)), y]) ⟨rfl, none, rfl⟩ ?_ ?_
  · rintro i c σ H' hc ⟨rfl, y, rfl⟩
    have hc : l[i]? = some c := by
      have : (S l).cps.toList[i]? = some c := by simpa using hc
      exact this
    have hi : i < l.length := (List.getElem?_eq_some_iff.mp hc).1
    refine ⟨_, rfl, _, _, rfl, rfl, ?_⟩
    refine ⟨_, rfl, _, rfl, _, rfl, _, rfl, rfl, _, _, rfl, rfl, .inl ⟨by omega, by omega⟩, _, _, rfl, rfl, ?_⟩
    refine ⟨rfl, some (.str ⟨#[c]⟩), ?_⟩
    have e1 : csum 1 (l.take (i + 1)) = csum 1 (l.take i) + (i + 1) * c := by
      rw [List.take_add_one, hc]
      show csum 1 (l.take i ++ [c]) = _
      rw [csum_app, List.length_take, Nat.min_eq_left (Nat.le_of_lt hi)]
      show csum 1 (l.take i) + ((1 + i) * c + 0) = _
      rw [Nat.add_zero, Nat.add_comm 1 i]
    rw [e1]
    have e2 : ((csum 1 (l.take i) + (i + 1) * c : Nat) : Int) = ((csum 1 (l.take i) : Nat) : Int) + ((i : Int) + 1) * ((c : Nat) : Int) := by push_cast; rfl
    rw [e2]
    rfl
  · rintro σ H' ⟨rfl, y, rfl⟩
    refine ⟨_, rfl, _, _, rfl, rfl, (by show (0 : Int) < 9973; decide), ?_⟩
    have e : l.take (S l).cps.size = l := by
      rw [show (S l).cps.size = l.length from S_len l, List.take_length]
    rw [e]
    exact q
abbrev sLnum : Stmt := topS 18
def scLnumN : List Str := ["_law_text", "_law_good", "_law_sign"]
theorem scLnum : FnScope scLnumN ["_law_text"] (defScope sLnum) := ⟨rfl, rfl, rfl, by decide +kernel, rfl, by decide +kernel, by decide +kernel⟩
theorem ok_Lnum {f : Addr} {fd : FuncData} (F : Fun K "_law_number" "_law_number" sLnum f fd) (T : Lx K mg CY CE) : FnOk P w K mg base CX0 1 f fd ["_law_text"] (spNu) := by
  refine F.ok scLnum (fun vs H Q E h => by obtain ⟨_, rfl, _⟩ := h; rfl) (fun cdv A outer s H vs Q E hr h => ?_)
  have hu := hu_of hr
  have z_int := T.z_int
  have z_len := T.z_len
  obtain ⟨p, rfl, hp, q⟩ := h
  refine ⟨_, (pss_cons (ps_setLc (i := 1) (own := [("_law_sign", 2)]) (g := gName 2) (by rfl) scLnum.nd rfl rfl rfl (pi_str (pv 0)) (blkOk_by (own := [("_law_sign", 2)]) (N := scLnumN) (sc := defScope sLnum) (by decide +kernel)) (fun _ _ _ _ _ => (pg_name (i := 2) scLnum.nd rfl (.inl rfl))) (fun _ _ _ _ _ => (pts_one (pt_cmpR op_in_sign (pv 2) pe_str (by rfl)))) (fun _ _ _ _ _ => (pv 2)))
    (pss_cons (ps_if (PW.pt (pw_or (pt_cmpR op_eq (pv 0) pe_str (nomark _)) (pw_or (pt_cmpR op_gt (pe_callB call_len_str (by rfl) z_len PySem.boot_len (pa_cons (pv 0) pa_nil)) pe_int (nomark _)) (pw_or (pt_cmpR op_lt (pe_callB call_len_seq (by rfl) z_len PySem.boot_len (pa_cons (pv 1) pa_nil)) (pe_callB call_len_str (by rfl) z_len PySem.boot_len (pa_cons (pv 0) pa_nil)) (nomark _)) (pw_or1 (PW.pt (pw_and (pt_cmpR op_gt (pe_callB call_len_str (by rfl) z_len PySem.boot_len (pa_cons (pv 0) pa_nil)) pe_int (nomark _)) (pw_and1 (pt_cmpR op_eq (pe_item_str (pv 0) pe_int (fun _ _ => rfl)) pe_str (nomark _)))))))))) (pss_one (ps_ret pe_non)) pss_nil)
    (pss_one (ps_ret (pe_callTy call_int_str (by rfl) z_int (by decide +kernel) (pa_cons (pv 0) pa_nil)))))), ?_⟩
  refine ⟨_, rfl, _, rfl, fun D nD => ?_⟩
  refine lc_its (x := S p) (fun i H' => Same H H' ∧ ∃ gs : List V, gs.length = ((p.take i).filter digB).length ∧ H' D = some (.lst gs)) ⟨same_upd' nD, [], rfl, upd_same⟩ ?_ ?_
  · rintro i c H' hc ⟨sm, gs, hg, hD⟩
    have hc : p[i]? = some c := by
      have : (S p).cps.toList[i]? = some c := by simpa using hc
      exact this
    have hi : i < p.length := (List.getElem?_eq_some_iff.mp hc).1
    have hgl : gs.length ≤ 100000 := by
      rw [hg]
      exact Nat.le_trans (filt_all _).1 (by rw [List.length_take]; omega)
    have ht : p.take (i + 1) = p.take i ++ [c] := by rw [List.take_add_one, hc]; rfl
    refine ⟨rfl, ?_⟩
    refine ⟨_, rfl, c, _, rfl, rfl, _, rfl, ?_⟩
    rw [dig_in]
    cases hd : digB c
    · show if false = true then _ else _
      rw [if_neg Bool.false_ne_true]
      refine ⟨sm, gs, ?_, hD⟩
      rw [ht, List.filter_append, List.length_append, hg]
      simp [hd]
    · show if true = true then _ else _
      rw [if_pos rfl]
      refine ⟨_, rfl, gs, hD, Nat.lt_of_le_of_lt hgl (by decide), same_of sm nD, gs ++ [_], ?_, upd_same⟩
      rw [ht, List.filter_append, List.length_append, List.length_append, hg]
      simp [hd]
  rintro H1 ⟨sm, gs, hg, hD⟩
  have e : p.take (S p).cps.size = p := by
    rw [show (S p).cps.size = p.length from S_len p, List.take_length]
  rw [e] at hg
  obtain ⟨fa, fb⟩ := filt_all p
  have q := q H1 sm
  unfold figM at q
  have bad : (!p.isEmpty && p.all digB && decide (p.length ≤ 5)) = false → Q .non H1 := fun h => by
    rw [h, if_neg Bool.false_ne_true] at q
    exact q
  refine ⟨_, rfl, rfl, _, rfl, ifB (fun h => ?_) (fun h => ?_)⟩
  · have z : p = [] := S_inj ((V.str.inj (of_decide_eq_true h)).trans (TL.ext_tl (show tl ("" : Str) = [] by decide +kernel)))
    exact bad (by rw [z]; rfl)
  have hne : p ≠ [] := fun z => of_decide_eq_false h (by rw [z]; exact congrArg V.str (TL.ext_tl (show ([] : List Nat) = tl ("" : Str) by decide +kernel)))
  refine ⟨_, rfl, _, rfl, szl (by rw [S_len]; exact hp), _, _, rfl, rfl, _, rfl, ifB (fun h => ?_) (fun h => ?_)⟩
  · have z : (5 : Int) < ((S p).length : Int) := of_decide_eq_true h
    rw [S_len] at z
    exact bad (by rw [decide_eq_false (show ¬ p.length ≤ 5 by omega), Bool.and_false])
  have h5 : p.length ≤ 5 := by
    have z : ¬ (5 : Int) < ((S p).length : Int) := of_decide_eq_false h
    rw [S_len] at z
    omega
  refine ⟨_, rfl, _, _, rfl, .inl (SqL.of hD), _, rfl, _, rfl, szl (by rw [S_len]; exact hp), _, _, rfl, rfl, _, rfl, ifB (fun h => ?_) (fun h => ?_)⟩
  · have z : ((gs.length : Nat) : Int) < ((S p).length : Int) := of_decide_eq_true h
    rw [S_len] at z
    have : p.all digB = false := by
      cases hb : p.all digB
      · rfl
      · have := fb.mp hb
        omega
    exact bad (by rw [this, Bool.and_false, Bool.false_and])
  have hall : p.all digB = true := fb.mpr (by
    have z : ¬ ((gs.length : Nat) : Int) < ((S p).length : Int) := of_decide_eq_false h
    rw [S_len] at z
    omega)
  obtain ⟨c, r, rfl⟩ : ∃ c r, p = c :: r := by
    cases p with
    | nil => exact absurd rfl hne
    | cons c r => exact ⟨c, r, rfl⟩
  rw [if_pos (by rw [hall, decide_eq_true h5]; rfl)] at q
  have hint : intText? (S (c :: r)) = some ((NumText.digitsVal (c :: r) : Nat) : Int) := PySem.intText_digits (allDig hall) (List.cons_ne_nil _ _) (by rw [S_len]; omega)
  have e48 : tl ("0" : Str) = [48] := by decide +kernel
  refine ⟨_, rfl, _, rfl, szl (by rw [S_len]; exact hp), _, _, rfl, rfl, _, rfl, ifB (fun h => ?_) (fun h => ?_)⟩
  · have z : (1 : Int) < ((S (c :: r)).length : Int) := of_decide_eq_true h
    rw [S_len, List.length_cons] at z
    refine ⟨_, rfl, _, 0, c, rfl, rfl, by decide, by decide, by rw [S_len, List.length_cons]; omega, rfl, rfl, _, rfl, ifB (fun hc => ?_) (fun hc => ?_)⟩
    · have z3 : [c] = [48] := (congrArg tl (V.str.inj (of_decide_eq_true hc))).trans e48
      rw [if_pos ⟨by rw [List.head_eq_of_cons_eq z3]; rfl, fun y => by
        have y2 := congrArg List.length y
        rw [List.length_cons, List.length_singleton] at y2
        omega⟩] at q
      exact q
    · have hc' : ¬ c = 48 := fun y => of_decide_eq_false hc (by rw [y]; exact congrArg V.str (TL.ext_tl e48.symm))
      rw [if_neg (fun y => hc' (Option.some.inj y.1))] at q
      exact ⟨_, rfl, _, _, rfl, hint, by rw [S_len]; omega, q⟩
  · have z : ¬ (1 : Int) < ((S (c :: r)).length : Int) := of_decide_eq_false h
    rw [S_len, List.length_cons] at z
    have hr : r = [] := List.length_eq_zero_iff.mp (by omega)
    subst hr
    rw [if_neg (fun y => y.2 (by rw [Option.some.inj y.1]))] at q
    exact ⟨_, rfl, _, _, rfl, hint, by rw [S_len]; omega, q⟩
abbrev sLtold : Stmt := topS 20
def scLtoldN : List Str := ["_law_kind", "_law_letter", "_law_found", "e"]
theorem scLtold : FnScope scLtoldN ["_law_kind", "_law_letter"] (defScope sLtold) := ⟨rfl, rfl, rfl, by decide +kernel, rfl, by decide +kernel, by decide +kernel⟩
theorem ok_Ltold {f : Addr} {fd : FuncData} {fA : Addr} {dA : FuncData} (F : Fun K "_law_told" "_law_told" sLtold f fd) (T : Lx K mg CY CE)
    (gA : mg "opened" = some (.ref fA)) (kA : PySem.W.keepIn K (.ref fA) = true) (bA : Binds K dA ["kind", "letter"] []) (GA : FnOk P w K mg base (L2.CX P w) 2 fA dA ["kind", "letter"] (spOpen CY)) : FnOk P w K mg base CX0 3 f fd ["_law_kind", "_law_letter"] (spDue) := by
  refine F.ok scLtold (fun vs H Q E h => by obtain ⟨_, _, rfl, _⟩ := h; rfl) (fun cdv A outer s H vs Q E hr h => ?_)
  have hu := hu_of hr
  have z_isinstance := T.z_isinstance
  have z_int := T.z_int
  obtain ⟨kd, l, rfl, hk, hl, hz0, ke, kq⟩ := h
  refine ⟨_, pss_cons (ps_try_as (i := 3) rfl rfl scLtold.nd rfl rfl ⟨rfl, by decide, Or.inl T.gE⟩ takes0
        (fun W pn xe tk _ => pss_one (ps_set (i := 2) scLtold.nd rfl (.inl rfl) (by exact (pe_callS GA (hr.mono (by decide)) rfl gA kA bA (fun σ => passAt tk σ) (by exact (pa_cons (pv 0) (pa_cons (pv 1) pa_nil)))))))
        (fun a oe cls d pn hz hf => pss_one (ps_ret (pe_ix (ix_listK (K := K)) (pe_lst (pa_cons pe_str (pa_cons pe_str pa_nil))) (pe_callTy call_int1 (by rfl) z_int (by decide +kernel) (pa_cons (pe_callB (call_isNK (K := K) (by rfl) hz hf) (by rfl) z_isinstance (by decide +kernel) (pa_cons (pv 3) (pa_cons (pgR T.gY) pa_nil))) pa_nil)) (fun _ _ => rfl)))))
    (pss_one (ps_ret (pv 2))), ?_⟩
  refine ⟨_, rfl, _, rfl, kd, l, rfl, hk, hl, hz0, fun e H1 s1 => ?_, fun n t e H1 p s1 np hp => ?_⟩
  · refine ⟨true, T.eY, fun _ a' _ => ?_, fun z => nomatch z⟩
    refine ⟨(by show 2 ≤ sizeLine; decide), fun l1 n1 => ?_⟩
    refine ⟨_, rfl, CY, rfl, rfl, T.exY, .ref CY, .ref CY, true, rfl, (fun u r => r), T.kYY, .inr ⟨_, rfl, ?_⟩⟩
    refine ⟨l1, _, 1, _, rfl, rfl, SqL.of upd_same, rfl, ?_⟩
    exact ke e _ (s1.trans (same_upd' n1))
  · exact ⟨_, rfl, kq n t e H1 p s1 np hp⟩
theorem letM_x {kd c : Nat} {a r : List Nat} (h : 32 ∉ a) : letM kd (c :: a ++ 32 :: r) = if c ≠ kd then none else match par [32] [] r with
      | none => none
      | some (b, t) => match figM a 5 with
        | none => none
        | some n => if figM b 5 = some ((chk (kd :: a ++ 32 :: t) : Nat) : Int) then some (n.toNat, t) else none := by
  show (if c ≠ kd then none else match par [32] [] (a ++ 32 :: r) with
      | none => none
      | some (a, r2) => match par [32] [] r2 with
        | none => none
        | some (b, t) => match figM a 5 with
          | none => none
          | some n => if figM b 5 = some ((chk (kd :: a ++ 32 :: t) : Nat) : Int) then some (n.toNat, t) else none) = _
  rw [par_at1 h]
theorem letM_no {kd : Nat} {l : List Nat} (h : 32 ∉ l) : letM kd l = none := by
  cases l with
  | nil => rfl
  | cons c r =>
    show (if c ≠ kd then none else match par [32] [] r with
      | none => none
      | some (a, r2) => _) = none
    rw [par_none1 (fun z => h (List.mem_cons_of_mem _ z))]
    by_cases e : c ≠ kd
    · rw [if_pos e]
    · rw [if_neg e]
theorem spl_sum : ∀ (m : Nat) (l : List Nat), l.length ≤ m → ((spl [32] 0 [] l).map List.length).sum + (spl [32] 0 [] l).length = l.length + 1
  | m, l, hm => by
    rcases sp_cases l with ⟨_, _, e⟩ | ⟨p, r, hp, rfl, _, e⟩
    · rw [e]; rfl
    · rw [e]
      cases m with
      | zero => simp at hm
      | succ m =>
        have ih := spl_sum m r (by simp at hm; omega)
        rw [List.map_cons, List.sum_cons, List.length_cons, List.length_append, List.length_cons]
        omega
theorem cutV_two (u v : V) (xs : List V) : cutV (u :: v :: xs) (some 2) none = xs := by
  unfold cutV
  have e1 : HT.sIx (u :: v :: xs).length 0 (some 2) = 2 := by
    have := HT.sIx_nat (u :: v :: xs).length 0 2
    rw [Nat.min_eq_left (by simp)] at this
    exact this
  rw [e1, HT.sIx_none]
  show xs.take (xs.length + 1 + 1 - 2) = xs
  rw [List.take_of_length_le (by omega)]
abbrev sLdue : Stmt := topS 19
def scLdueN : List Str := ["_law_kind", "_law_letter", "_law_words", "_law_number_here", "_law_check_here", "_law_text"]
theorem scLdue : FnScope scLdueN ["_law_kind", "_law_letter"] (defScope sLdue) := ⟨rfl, rfl, rfl, by decide +kernel, rfl, by decide +kernel, by decide +kernel⟩
theorem ok_Ldue {f : Addr} {fd : FuncData} {fL_chk : Addr} {dL_chk : FuncData} {fL_num : Addr} {dL_num : FuncData} (F : Fun K "_law_due" "_law_due" sLdue f fd) (T : Lx K mg CY CE)
    (L_chk : CalF P w K mg base 1 "_law_check" ["_law_head", "_law_text"] (spCk) fL_chk dL_chk)
    (L_num : CalF P w K mg base 1 "_law_number" ["_law_text"] (spNu) fL_num dL_num) : FnOk P w K mg base CX0 2 f fd ["_law_kind", "_law_letter"] (spDue) := by
  refine F.ok scLdue (fun vs H Q E h => by obtain ⟨_, _, rfl, _⟩ := h; rfl) (fun cdv A outer s H vs Q E hr h => ?_)
  have hu := hu_of hr
  have z_len := T.z_len
  obtain ⟨kd, l, rfl, hk, hl, hz, ke, kq⟩ := h
  refine ⟨_, (pss_cons (ps_set (i := 2) scLdue.nd rfl (.inl rfl) (pe_split (pv 1) pe_str))
    (pss_cons (ps_if (PW.pt (pw_or (pt_cmpR op_lt (pe_callB call_len_seq (by rfl) z_len PySem.boot_len (pa_cons (pv 2) pa_nil)) pe_int (nomark _)) (pw_or1 (pt_cmpR op_ne (pe_slice C8.sl_txt (pe_ix ix_list (pv 2) pe_int (fun _ _ => rfl)) po_none (po_some pe_int)) (pv 0) (nomark _))))) (pss_one (ps_ret pe_str)) pss_nil)
    (pss_cons (ps_par (i := 3) (j := 4) (by rfl) scLdue.nd rfl rfl (by decide) rfl rfl (pa_cons (pe_call L_num.G (hr.mono (by decide)) (by rfl) L_num.g L_num.kp L_num.b .nil pass0 (pa_cons (pe_slice C8.sl_txt (pe_ix ix_list (pv 2) pe_int (fun _ _ => rfl)) (po_some pe_int) po_none) pa_nil)) (pa_cons (pe_call L_num.G (hr.mono (by decide)) (by rfl) L_num.g L_num.kp L_num.b .nil pass0 (pa_cons (pe_ix ix_list (pv 2) pe_int (fun _ _ => rfl)) pa_nil)) pa_nil)) (by rfl))
    (pss_cons (ps_set (i := 5) scLdue.nd rfl (.inl rfl) (pe_join pe_str (pe_slice sl_list (pv 2) (po_some pe_int) po_none)))
    (pss_cons (ps_if (PW.pt (pw_or (pt_cmp (pc_isN (pv 3))) (pw_or (pt_cmp (pc_isN (pv 4))) (pw_or1 (pt_cmpR op_ne (pv 4) (pe_call L_chk.G (hr.mono (by decide)) (by rfl) L_chk.g L_chk.kp L_chk.b .nil pass0 (pa_cons (pe_ix ix_list (pv 2) pe_int (fun _ _ => rfl)) (pa_cons (pv 5) pa_nil))) (nomark _)))))) (pss_one (ps_ret pe_str)) pss_nil)
    (pss_one (ps_ret (pe_tup (pa_cons (pv 3) (pa_cons (pv 5) pa_nil)))))))))), ?_⟩
  have szz : l.length + 2 ≤ sizeLine := szl (by omega)
  refine ⟨_, rfl, ⟨_, rfl⟩, _, _, rfl, rfl, by decide +kernel, by rw [S_len]; exact szz, ?_⟩
  rw [sp_S, split_S (by decide) (by decide)]
  refine fun p np => ?_
  have s1 := same_upd' (o := .lst (((spl [32] 0 [] l).map S).map V.str)) np
  have hp : upd H p (.lst (((spl [32] 0 [] l).map S).map V.str)) p = some (.lst (((spl [32] 0 [] l).map S).map V.str)) := upd_same
  generalize upd H p (.lst (((spl [32] 0 [] l).map S).map V.str)) = G1 at *
  rcases sp_cases l with ⟨hno, _, e⟩ | ⟨x, r, hx, rfl, _, e⟩
  · rw [e] at hp
    exact ⟨_, rfl, p, _, rfl, .inl (SqL.of hp), _, _, rfl, rfl, _, rfl, ifB (fun _ => ke (letM_no hno) _ s1) (fun h => by cases h)⟩
  rw [e] at hp
  have h32 : (32 : Nat) ≠ kd := by rcases hk with z | z <;> rw [z] <;> decide
  rcases sp_cases r with ⟨hno, e0, e⟩ | ⟨b, t, hb, rfl, e0, e⟩
  · rw [e] at hp
    refine ⟨_, rfl, p, _, rfl, .inl (SqL.of hp), _, _, rfl, rfl, _, rfl, ifB (fun _ => ke ?_ _ s1) (fun h => by cases h)⟩
    cases x with
    | nil => exact letM_other h32
    | cons c a =>
      rw [letM_x (fun z => hx (List.mem_cons_of_mem _ z)), e0]
      by_cases y : c ≠ kd
      · rw [if_pos y]
      · rw [if_neg y]
  rw [e] at hp
  have hws := spl_ne t
  have hsum := spl_sum _ t (Nat.le_refl _)
  have htl : t.length ≤ 20000 := by simp only [List.length_append, List.length_cons] at hz; omega
  have hxl : x.length ≤ 20000 := by simp only [List.length_append, List.length_cons] at hz; omega
  have hbl : b.length ≤ 20000 := by simp only [List.length_append, List.length_cons] at hz; omega
  have oT : OkL t := fun c hc => hl c (List.mem_append.mpr (.inr (List.mem_cons_of_mem _ (List.mem_append.mpr (.inr (List.mem_cons_of_mem _ hc))))))
  have oX : OkL x := fun c hc => hl c (List.mem_append.mpr (.inl hc))
  have hjoin := join_spl _ t (Nat.le_refl _)
  refine ⟨_, rfl, p, _, rfl, .inl (SqL.of hp), _, _, rfl, rfl, _, rfl, ifB (fun h => ?_) (fun _ => ?_)⟩
  · have z : (((S x :: S b :: (spl [32] 0 [] t).map S).map V.str).length : Int) < 3 := of_decide_eq_true h
    rw [List.length_map, List.length_cons, List.length_cons, List.length_map] at z
    have := List.length_pos_iff.mpr hws
    omega
  refine ⟨_, rfl, p, _, 0, V.str (S x), rfl, rfl, SqL.of hp, at0 _ _, _, rfl, S x, rfl, szl (by rw [S_len]; omega), ?_⟩
  rw [slice_to (by decide)]
  refine ⟨_, rfl, rfl, _, rfl, ifN (fun h => ?_) (fun h => ?_)⟩
  · have hne : x.take 1 ≠ [kd] := fun z => of_decide_eq_false h (by show V.str (S (x.take 1)) = V.str (S [kd]); rw [z])
    refine ke ?_ _ s1
    cases x with
    | nil => exact letM_other h32
    | cons c a => rw [List.cons_append]; exact letM_other fun z => hne (by rw [z]; rfl)
  obtain ⟨a, rfl⟩ : ∃ a, x = kd :: a := by
    have z : x.take 1 = [kd] := S_inj (V.str.inj (of_decide_eq_true h))
    cases x with
    | nil => cases z
    | cons c r => exact ⟨r, by rw [show c = kd from List.head_eq_of_cons_eq z]⟩
  clear h
  have hal : a.length ≤ 20000 := Nat.le_trans (Nat.le_succ _) hxl
  have e1 : letM kd (kd :: a ++ 32 :: (b ++ 32 :: t)) = match figM a 5 with
          | none => none
          | some n => if figM b 5 = some ((chk (kd :: a ++ 32 :: t) : Nat) : Int) then some (n.toNat, t) else none := by
    rw [letM_x (fun z => hx (List.mem_cons_of_mem _ z)), if_neg (fun z => z rfl), e0]
  rw [e1] at ke kq
  refine ⟨_, rfl, p, _, 0, V.str (S (kd :: a)), rfl, rfl, SqL.of hp, at0 _ _, _, rfl, S (kd :: a), rfl, szl (by rw [S_len, List.length_cons]; omega), ?_⟩
  rw [slice_from (by decide)]
  refine ⟨a, rfl, by omega, fun G2 s2 => ?_⟩
  have hp2 := s2 _ _ hp
  refine ⟨_, rfl, p, _, 1, V.str (S b), rfl, rfl, SqL.of hp2, at1 _ _ _, b, rfl, by omega, fun G3 s3 => ?_⟩
  have hp3 := s3 _ _ hp2
  have s13 := (s1.trans s2).trans s3
  refine ⟨_, _, rfl, ⟨_, rfl⟩, _, rfl, _, rfl, p, _, rfl, SqL.of hp3, fun p4 np4 => ?_⟩
  have ecut : cutV ((((kd :: a) :: b :: spl [32] 0 [] t).map S).map V.str) (some 2) none = ((spl [32] 0 [] t).map S).map V.str := cutV_two _ _ _
  rw [ecut]
  have s4 := same_upd' (o := .lst (((spl [32] 0 [] t).map S).map V.str)) np4
  have h4 : upd G3 p4 (.lst (((spl [32] 0 [] t).map S).map V.str)) p4 = some (.lst (((spl [32] 0 [] t).map S).map V.str)) := upd_same
  have hp4 := s4 _ _ hp3
  have s14 := s13.trans s4
  generalize upd G3 p4 (.lst (((spl [32] 0 [] t).map S).map V.str)) = G4 at *
  refine ⟨_, p4, (spl [32] 0 [] t).map S, rfl, rfl, .inl (SqL.of h4), ?_, ?_⟩
  · rw [lens, List.length_map, S_len, List.length_singleton, Nat.mul_one]
    have e9 : ((spl [32] 0 [] t).map (fun x => x.length)).sum = ((spl [32] 0 [] t).map List.length).sum := rfl
    omega
  rw [join_S, hjoin]
  cases ea : figM a 5 with
  | none =>
    rw [ea] at ke
    exact ⟨_, rfl, _, rfl, ifB (fun _ => ke rfl _ s14) (fun h => by cases h)⟩
  | some n0 =>
    rw [ea] at ke kq
    obtain ⟨n1, n2⟩ := figM_lt ea
    obtain ⟨n, rfl⟩ : ∃ n : Nat, n0 = (n : Int) := ⟨n0.toNat, by omega⟩
    refine ⟨_, rfl, _, rfl, ifB (fun h => by cases of_decide_eq_true h) (fun _ => ?_)⟩
    cases eb : figM b 5 with
    | none =>
      rw [eb] at ke
      exact ⟨_, rfl, _, rfl, ifB (fun _ => ke (if_neg (fun z => by cases z)) _ s14) (fun h => by cases h)⟩
    | some m =>
      rw [eb] at ke kq
      refine ⟨_, rfl, _, rfl, ifB (fun h => by cases of_decide_eq_true h) (fun _ => ?_)⟩
      refine ⟨_, rfl, _, rfl, p, _, 0, V.str (S (kd :: a)), rfl, rfl, SqL.of hp4, at0 _ _, _, rfl, kd :: a, t, rfl, oX, oT, by omega, by omega, ?_⟩
      refine ⟨rfl, _, rfl, ifN (fun h => ?_) (fun h => ?_)⟩
      · refine ke (if_neg fun z => ?_) _ s14
        exact of_decide_eq_false h (by rw [Option.some.inj z]; rfl)
      · have hm : m = ((chk (kd :: a ++ 32 :: t) : Nat) : Int) := V.int.inj (of_decide_eq_true h)
        refine ⟨_, rfl, _, rfl, (by show 2 ≤ sizeLine; decide), fun p5 np5 => ?_⟩
        refine kq n t ?_ _ p5 (s14.trans (same_upd' np5)) (s14.free np5) upd_same
        exact if_pos (by rw [hm])
abbrev sLbnt : Stmt := topS 21
def scLbntN : List Str := ["_law_letter", "_law_row", "_law_at", "_law_sign", "_law_way", "_law_two"]
theorem scLbnt : FnScope scLbntN ["_law_letter", "_law_row"] (defScope sLbnt) := ⟨rfl, rfl, rfl, by decide +kernel, rfl, by decide +kernel, by decide +kernel⟩
theorem ok_Lbnt {f : Addr} {fd : FuncData} {fL_sgn : Addr} {dL_sgn : FuncData} (F : Fun K "_law_bent" "_law_bent" sLbnt f fd) (T : Lx K mg CY CE)
    (L_sgn : CalF P w K mg base 1 "_law_signs" [] (spSg) fL_sgn dL_sgn) : FnOk P w K mg base CX0 2 f fd ["_law_letter", "_law_row"] (spBent) := by
  refine F.ok scLbnt (fun vs H Q E h => by obtain ⟨_, _, _, _, _, _, rfl, _⟩ := h; rfl) (fun cdv A outer s H vs Q E hr h => ?_)
  have hu := hu_of hr
  have z_len := T.z_len
  obtain ⟨r, l, w, a, s, t, rfl, hR, w1, a1, s1, t1, hne, hz, q⟩ := h
  refine ⟨_, (pss_cons (ps_set (i := 2) scLbnt.nd rfl (.inl rfl) (pe_op op_mod (pe_ix ix_list (pv 1) pe_int (fun _ _ => rfl)) (pe_callB call_len_str (by rfl) z_len PySem.boot_len (pa_cons (pv 0) pa_nil))))
    (pss_cons (ps_set (i := 3) scLbnt.nd rfl (.inl rfl) (pe_item_str (pe_call0 L_sgn.G (hr.mono (by decide)) (by rfl) L_sgn.g L_sgn.kp L_sgn.b .nil pass0) (pe_op op_mod (pe_ix ix_list (pv 1) pe_int (fun _ _ => rfl)) pe_int) (fun _ _ => rfl)))
    (pss_cons (ps_set (i := 4) scLbnt.nd rfl (.inl rfl) (pe_op op_mod (pe_ix ix_list (pv 1) pe_int (fun _ _ => rfl)) pe_int))
    (pss_cons (ps_if (pt_cmpR op_eq (pv 4) pe_int (nomark _)) (pss_one (ps_ret (pe_op op_add_str (pe_op op_add_str (pe_slice C8.sl_txt (pv 0) po_none (po_some (pv 2))) (pv 3)) (pe_slice C8.sl_txt (pv 0) (po_some (pe_op op_add (pv 2) pe_int)) po_none)))) pss_nil)
    (pss_cons (ps_if (pt_cmpR op_eq (pv 4) pe_int (nomark _)) (pss_one (ps_ret (pe_op op_add_str (pe_slice C8.sl_txt (pv 0) po_none (po_some (pv 2))) (pe_slice C8.sl_txt (pv 0) (po_some (pe_op op_add (pv 2) pe_int)) po_none)))) pss_nil)
    (pss_cons (ps_if (pt_cmpR op_eq (pv 4) pe_int (nomark _)) (pss_one (ps_ret (pe_op op_add_str (pe_op op_add_str (pe_slice C8.sl_txt (pv 0) po_none (po_some (pv 2))) (pv 3)) (pe_slice C8.sl_txt (pv 0) (po_some (pv 2)) po_none)))) pss_nil)
    (pss_cons (ps_if (pt_cmpR op_eq (pv 4) pe_int (nomark _)) (pss_cons (ps_set (i := 5) scLbnt.nd rfl (.inl rfl) (pe_slice C8.sl_txt (pv 0) (po_some (pv 2)) (po_some (pe_op op_add (pv 2) pe_int))))
    (pss_one (ps_ret (pe_op op_add_str (pe_op op_add_str (pe_slice C8.sl_txt (pv 0) po_none (po_some (pv 2))) (pe_revS (pv 5))) (pe_slice C8.sl_txt (pv 0) (po_some (pe_op op_add (pv 2) pe_int)) po_none))))) pss_nil)
    (pss_cons (ps_if (pt_cmpR op_eq (pv 4) pe_int (nomark _)) (pss_one (ps_ret (pe_slice C8.sl_txt (pv 0) po_none (po_some (pv 2))))) pss_nil)
    (pss_one (ps_ret (pe_op op_add_str (pe_ix ix_list (pe_lst (pa_cons pe_str (pa_cons pe_str (pa_cons pe_str (pa_cons pe_str pa_nil))))) (pe_op op_mod (pe_ix ix_list (pv 1) pe_int (fun _ _ => rfl)) pe_int) (fun _ _ => rfl)) (pe_slice C8.sl_txt (pv 0) (po_some pe_int) po_none)))))))))))), ?_⟩
  have sgn : ∀ k, k < 41 → ∃ c, signL[k]? = some c := fun k hk => ⟨_, List.getElem?_eq_getElem (by rw [sign_len]; exact hk)⟩
  have hpos : 0 < l.length := List.length_pos_iff.mpr hne
  have hat : a % l.length < l.length := Nat.mod_lt _ hpos
  have hSl : (S l).length = l.length := S_len l
  have szz : (S l).length ≤ sizeLine := szl (by rw [S_len]; omega)
  have e1 : (a : Int) % ((S l).length : Int) = ((a % l.length : Nat) : Int) := by rw [S_len]; rfl
  have e2 : (s : Int) % 41 = ((s % 41 : Nat) : Int) := rfl
  have e3 : (w : Int) % 6 = ((w % 6 : Nat) : Int) := rfl
  have e4 : (t : Int) % 4 = ((t % 4 : Nat) : Int) := rfl
  obtain ⟨sg, hsg⟩ := sgn (s % 41) (Nat.mod_lt _ (by decide))
  have hsg2 : signL.getD (s % 41) 0 = sg := by rw [List.getD_eq_getElem?_getD, hsg]; rfl
  have ln : ∀ {k : List Nat}, k.length ≤ 20010 → (S k).length ≤ sizeLine := fun h => szl (by rw [S_len]; omega)
  have ln2 : ∀ {k m : List Nat}, k.length ≤ 20010 → m.length ≤ 20010 → (S k).length + (S m).length ≤ sizeLine := fun h h' => szl (by rw [S_len, S_len]; omega)
  have tk : ∀ n, (l.take n).length ≤ 20010 := fun n => by rw [List.length_take]; omega
  have dr : ∀ n, (l.drop n).length ≤ 20010 := fun n => by rw [List.length_drop]; omega
  unfold bentM at q
  rw [hsg2] at q
  refine ⟨_, rfl, r, _, 1, _, rfl, rfl, SqL.of hR, rfl, _, rfl, _, rfl, szz, _, _, rfl, rfl, (by show (0 : Int) < ((S l).length : Int); rw [S_len]; omega), ?_⟩
  dsimp only
  rw [e1]
  generalize ha2 : a % l.length = at_ at *
  refine ⟨rfl, ?_⟩
  refine ⟨_, rfl, r, _, 2, _, rfl, rfl, SqL.of hR, rfl, _, _, rfl, rfl, (by show (0 : Int) < 41; decide), S signL, ((s % 41 : Nat) : Int), sg, rfl, rfl, by omega, by omega, ?_, ?_, ?_⟩
  · rw [S_len, sign_len]; omega
  · have z := congrArg (fun o => o) hsg
    show (S signL).cps[((s % 41 : Nat) : Int).toNat]? = some sg
    rw [Int.toNat_natCast]
    have : (S signL).cps.toList[s % 41]? = some sg := hsg
    simpa using this
  refine ⟨_, rfl, r, _, 0, _, rfl, rfl, SqL.of hR, rfl, _, _, rfl, rfl, (by show (0 : Int) < 6; decide), ?_⟩
  dsimp only
  rw [e3]
  refine ⟨_, rfl, rfl, _, rfl, ifB (fun h => ?_) (fun h => ?_)⟩
  · have hw : w % 6 = 0 := by have h2 : ((w % 6 : Nat) : Int) = 0 := V.int.inj (of_decide_eq_true h); omega
    rw [if_pos hw] at q
    refine ⟨_, rfl, _, rfl, _, rfl, _, rfl, szz, ?_⟩
    rw [sto]
    refine ⟨_, rfl, _, _, rfl, rfl, szl (by rw [S_len, List.length_take]; show _ + 1 ≤ 100000; omega), ?_⟩
    rw [show (⟨#[sg]⟩ : Str) = S [sg] from rfl, S_cat]
    refine ⟨_, rfl, _, rfl, _, _, rfl, rfl, _, rfl, _, rfl, szz, ?_⟩
    rw [sfr1]
    refine ⟨_, _, rfl, rfl, ln2 (by simp only [List.length_append, List.length_take, List.length_drop, List.length_singleton, List.length_reverse]; omega) (dr _), ?_⟩
    rw [S_cat, List.append_assoc]
    exact q _ (Same.refl _)
  have nw0 : ¬ w % 6 = 0 := fun z => of_decide_eq_false h (by rw [z]; rfl)
  rw [if_neg nw0] at q
  refine ⟨_, rfl, rfl, _, rfl, ifB (fun h => ?_) (fun h => ?_)⟩
  · have hw : w % 6 = 1 := by have h2 : ((w % 6 : Nat) : Int) = 1 := V.int.inj (of_decide_eq_true h); omega
    rw [if_pos hw] at q
    refine ⟨_, rfl, _, rfl, _, rfl, _, rfl, szz, ?_⟩
    rw [sto]
    refine ⟨_, rfl, _, rfl, _, _, rfl, rfl, _, rfl, _, rfl, szz, ?_⟩
    rw [sfr1]
    refine ⟨_, _, rfl, rfl, ln2 (tk _) (dr _), ?_⟩
    rw [S_cat]
    exact q _ (Same.refl _)
  have nw1 : ¬ w % 6 = 1 := fun z => of_decide_eq_false h (by rw [z]; rfl)
  rw [if_neg nw1] at q
  refine ⟨_, rfl, rfl, _, rfl, ifB (fun h => ?_) (fun h => ?_)⟩
  · have hw : w % 6 = 2 := by have h2 : ((w % 6 : Nat) : Int) = 2 := V.int.inj (of_decide_eq_true h); omega
    rw [if_pos hw] at q
    refine ⟨_, rfl, _, rfl, _, rfl, _, rfl, szz, ?_⟩
    rw [sto]
    refine ⟨_, rfl, _, _, rfl, rfl, szl (by rw [S_len, List.length_take]; show _ + 1 ≤ 100000; omega), ?_⟩
    rw [show (⟨#[sg]⟩ : Str) = S [sg] from rfl, S_cat]
    refine ⟨_, rfl, _, rfl, _, rfl, _, rfl, szz, ?_⟩
    rw [sfr]
    refine ⟨_, _, rfl, rfl, ln2 (by simp only [List.length_append, List.length_take, List.length_drop, List.length_singleton, List.length_reverse]; omega) (dr _), ?_⟩
    rw [S_cat, List.append_assoc]
    exact q _ (Same.refl _)
  have nw2 : ¬ w % 6 = 2 := fun z => of_decide_eq_false h (by rw [z]; rfl)
  rw [if_neg nw2] at q
  refine ⟨_, rfl, rfl, _, rfl, ifB (fun h => ?_) (fun h => ?_)⟩
  · have hw : w % 6 = 3 := by have h2 : ((w % 6 : Nat) : Int) = 3 := V.int.inj (of_decide_eq_true h); omega
    rw [if_pos hw] at q
    refine ⟨_, rfl, _, rfl, _, rfl, _, rfl, _, _, rfl, rfl, _, rfl, _, rfl, szz, ?_⟩
    rw [smid]
    refine ⟨_, rfl, _, rfl, _, rfl, _, rfl, szz, ?_⟩
    rw [sto]
    refine ⟨_, rfl, S ((l.drop at_).take 2), rfl, ?_, ?_, ?_⟩
    · rw [S_len, List.length_take, List.length_drop]; omega
    · rw [S_len, List.length_take]; omega
    refine ⟨_, _, rfl, rfl, szl (by rw [S_len, S_len, List.length_reverse, List.length_take, List.length_take]; omega), ?_⟩
    rw [S_cat]
    refine ⟨_, rfl, _, rfl, _, _, rfl, rfl, _, rfl, _, rfl, szz, ?_⟩
    rw [sfr2]
    refine ⟨_, _, rfl, rfl, ln2 (by
      rw [List.length_append, List.length_reverse, List.length_take, List.length_take]
      have h1 := Nat.min_le_left 2 (l.drop at_).length
      have h2 := Nat.min_le_right at_ l.length
      omega) (dr _), ?_⟩
    rw [S_cat]
    exact q _ (Same.refl _)
  have nw3 : ¬ w % 6 = 3 := fun z => of_decide_eq_false h (by rw [z]; rfl)
  rw [if_neg nw3] at q
  refine ⟨_, rfl, rfl, _, rfl, ifB (fun h => ?_) (fun h => ?_)⟩
  · have hw : w % 6 = 4 := by have h2 : ((w % 6 : Nat) : Int) = 4 := V.int.inj (of_decide_eq_true h); omega
    rw [if_pos hw] at q
    refine ⟨_, rfl, _, rfl, _, rfl, _, rfl, szz, ?_⟩
    rw [sto]
    exact q _ (Same.refl _)
  have nw4 : ¬ w % 6 = 4 := fun z => of_decide_eq_false h (by rw [z]; rfl)
  rw [if_neg nw4] at q
  have e5 : (1 : Int) = ((1 : Nat) : Int) := rfl
  refine ⟨(by show 4 ≤ sizeLine; decide), fun l1 n1 => ?_⟩
  have s1 := same_upd' (o := .lst [V.str "a", V.str "q", V.str "x", V.str ""]) n1
  have hR1 := s1 _ _ hR
  have h1 : upd H l1 (.lst [V.str "a", V.str "q", V.str "x", V.str ""]) l1 = some (.lst [V.str "a", V.str "q", V.str "x", V.str ""]) := upd_same
  generalize upd H l1 (.lst [V.str "a", V.str "q", V.str "x", V.str ""]) = G1 at *
  refine ⟨_, rfl, r, _, 3, _, rfl, rfl, SqL.of hR1, rfl, _, _, rfl, rfl, (by show (0 : Int) < 4; decide), ?_⟩
  dsimp only
  rw [e4]
  have h4 : t % 4 < 4 := Nat.mod_lt _ (by decide)
  rcases (by omega : t % 4 = 0 ∨ t % 4 = 1 ∨ t % 4 = 2 ∨ t % 4 = 3) with hm | hm | hm | hm
  · rw [hm] at q ⊢
    refine ⟨l1, _, 0, V.str "a", rfl, rfl, SqL.of h1, rfl, ?_⟩
    refine ⟨_, rfl, _, rfl, _, rfl, szz, ?_⟩
    rw [slice_from (by decide)]
    refine ⟨_, _, rfl, rfl, ?_, ?_⟩
    · rw [a_S]; exact ln2 (by decide) (dr _)
    rw [a_S, S_cat]
    exact q _ s1
  · rw [hm] at q ⊢
    refine ⟨l1, _, 1, V.str "q", rfl, rfl, SqL.of h1, rfl, ?_⟩
    refine ⟨_, rfl, _, rfl, _, rfl, szz, ?_⟩
    rw [slice_from (by decide)]
    refine ⟨_, _, rfl, rfl, ?_, ?_⟩
    · rw [q_S]; exact ln2 (by decide) (dr _)
    rw [q_S, S_cat]
    exact q _ s1
  · rw [hm] at q ⊢
    refine ⟨l1, _, 2, V.str "x", rfl, rfl, SqL.of h1, rfl, ?_⟩
    refine ⟨_, rfl, _, rfl, _, rfl, szz, ?_⟩
    rw [slice_from (by decide)]
    refine ⟨_, _, rfl, rfl, ?_, ?_⟩
    · rw [x_S]; exact ln2 (by decide) (dr _)
    rw [x_S, S_cat]
    exact q _ s1
  · rw [hm] at q ⊢
    refine ⟨l1, _, 3, V.str "", rfl, rfl, SqL.of h1, rfl, ?_⟩
    refine ⟨_, rfl, _, rfl, _, rfl, szz, ?_⟩
    rw [slice_from (by decide)]
    refine ⟨_, _, rfl, rfl, ?_, ?_⟩
    · rw [n_S]; exact ln2 (by decide) (dr _)
    rw [n_S, S_cat]
    exact q _ s1
end
end Bh

/-! The law. -/
namespace Bh
open PySem PySem.Spec PyProof.Rows L2
open TL SX RZ
theorem can_ints : ∀ ns : List Int, PyData.canLayAll0 (ns.map PyData.int) = true
  | [] => rfl
  | n :: r => by
    show (PyData.canLay0 (.int n) && PyData.canLayAll0 (r.map PyData.int)) = true
    rw [can_ints r]
    rfl
theorem dep_ints : ∀ ns : List Int, PyData.depthAll (ns.map PyData.int) ≤ 1
  | [] => by decide
  | n :: r => by
    have ih := dep_ints r
    show max (PyData.depth (.int n)) (PyData.depthAll (r.map PyData.int)) ≤ 1
    exact Nat.max_le.mpr ⟨Nat.zero_le _, ih⟩
theorem dp_ints {K : PySem.W.Frag} {H : Hp} : ∀ ns : List Int, DpAll K H (ns.map V.int) (ns.map PyData.int)
  | [] => .nil
  | n :: r => .cons (.int n) (dp_ints r)
theorem shaped_ints (ns : List Int) : SeqAt.shaped (.list (ns.map PyData.int)) = true := by
  show (PyData.canLayAll0 (ns.map PyData.int) && decide (PyData.depthAll (ns.map PyData.int) + 1 ≤ 64)) = true
  rw [can_ints, decide_eq_true (by have := dep_ints ns; omega)]
  rfl
/-- x != y, data with any texts -/
def rNeP (K : PySem.W.Frag) : R2 := fun x y H Q => ∃ d e, Dp K H x d ∧ Dp K H y e ∧ d.plain = true ∧ e.plain = true ∧ d.depth ≤ 60 ∧ Q (.bl (!PyData.eqv d e)) H
theorem op_neP {X : Cx} (hu : X.A.units + 64 < cLine) : OpR X (compareOp .NotEq) (rNeP X.K) := by
  intro pins s σ H x y v u Q I rx ry h
  obtain ⟨d, e, hd, he, pd, pe, dd, q⟩ := h
  obtain ⟨as, r1⟩ := Dp.reads I d x v hd rx
  obtain ⟨bs, r2⟩ := Dp.reads I e y u he ry
  refine PySem.SeqAt.ne_plain r1 r2 pd pe ?_ ⟨.bl _, H, I, rfl, q⟩
  omega
theorem getI {L : List Int} {j : Nat} {v : V} (h : (L.map V.int)[j]? = some v) : ∃ a, L[j]? = some a ∧ v = .int a := by
  rw [List.getElem?_map] at h
  cases e : L[j]? with
  | none => rw [e] at h; cases h
  | some a => rw [e] at h; exact ⟨a, rfl, (Option.some.inj h).symm⟩
def spLaw (K : PySem.W.Frag) : Sp := fun vs H Q _ => ∃ (a : Addr) (ns : List Int), vs = [.ref a] ∧ SqL K H a (ns.map V.int) ∧ ns.length ≤ 63 ∧ ∀ H', Q (.bl true) H'
theorem cut_ints (ns : List Int) (lo hi : Option Int) : ∃ ms : List Int, cutV (ns.map V.int) lo hi = ms.map V.int ∧ ms.length ≤ ns.length := by
  unfold cutV
  rw [← List.map_drop, ← List.map_take]
  refine ⟨_, rfl, ?_⟩
  rw [List.length_take, List.length_drop]
  omega
theorem dgN {ds : List Int} {m j : Nat} (hd : DigOk ds) (hl : ds.length = m) (hj : j < m) : ∃ u : Nat, atI (ds.map V.int) (j : Int) = some (.int (u : Int)) ∧ u ≤ 1008 := by
  have h : j < ds.length := by omega
  obtain ⟨h0, h1⟩ := hd _ (List.getElem_mem h)
  refine ⟨(ds[j]).toNat, ?_, by omega⟩
  refine at_nat ?_
  rw [List.getElem?_map, List.getElem?_eq_getElem h, Int.toNat_of_nonneg h0]
  rfl
theorem kinds (u : Nat) : ∃ kd, KdOk kd ∧ ("qa" : Str).cps[((u : Int) % 2).toNat]? = some kd ∧ ∃ kd2, KdOk kd2 ∧ kd2 ≠ kd ∧ ("aq" : Str).cps[((u : Int) % 2).toNat]? = some kd2 := by
  have e : (u : Int) % 2 = ((u % 2 : Nat) : Int) := rfl
  rw [e, Int.toNat_natCast]
  rcases (by omega : u % 2 = 0 ∨ u % 2 = 1) with h | h <;> rw [h]
  · exact ⟨113, .inl rfl, by decide +kernel, 97, .inr rfl, by decide, by decide +kernel⟩
  · exact ⟨97, .inr rfl, by decide +kernel, 113, .inl rfl, by decide, by decide +kernel⟩
theorem numb {u v : Nat} (hu : u ≤ 1008) : ∃ n : Nat, n < 100000 ∧ atI [V.int ((u : Int) + 1), V.int ((u : Int) * 99 + 1), V.int 99999, V.int 1] ((v : Int) % 4) = some (.int (n : Int)) := by
  have e : (v : Int) % 4 = ((v % 4 : Nat) : Int) := rfl
  rw [e]
  rcases (by omega : v % 4 = 0 ∨ v % 4 = 1 ∨ v % 4 = 2 ∨ v % 4 = 3) with h | h | h | h <;> rw [h]
  · exact ⟨u + 1, by omega, rfl⟩
  · exact ⟨u * 99 + 1, by omega, rfl⟩
  · exact ⟨99999, by omega, rfl⟩
  · exact ⟨1, by omega, rfl⟩
theorem joinOne : ∀ cs : List Nat, joinL [] (cs.map fun c => [c]) = cs
  | [] => rfl
  | [c] => rfl
  | c :: d :: r => by
    show [c] ++ ([] ++ joinL [] ((d :: r).map fun c => [c])) = c :: d :: r
    rw [joinOne (d :: r)]
    rfl
theorem sumOne : ∀ cs : List Nat, ((cs.map fun c => S [c]).map (·.length)).sum = cs.length
  | [] => rfl
  | c :: r => by
    rw [List.map_cons, List.map_cons, List.sum_cons, sumOne r, S_len, List.length_singleton, List.length_cons]
    omega
theorem in03 {w : Nat} (h : inV (.int ((w : Int) % 6)) [V.int 0, V.int 3] = true) : w % 6 = 0 ∨ w % 6 = 3 := by
  have e : (w : Int) % 6 = ((w % 6 : Nat) : Int) := rfl
  rw [e] at h
  rcases (by omega : w % 6 = 0 ∨ w % 6 = 1 ∨ w % 6 = 2 ∨ w % 6 = 3 ∨ w % 6 = 4 ∨ w % 6 = 5) with y | y | y | y | y | y
  · exact .inl y
  · rw [y] at h; exact absurd h (by decide +kernel)
  · rw [y] at h; exact absurd h (by decide +kernel)
  · exact .inr y
  · rw [y] at h; exact absurd h (by decide +kernel)
  · rw [y] at h; exact absurd h (by decide +kernel)
theorem okRep {cs : List Nat} (h : OkL cs) (m : Nat) : OkL (List.replicate m cs).flatten := fun c hc => by
  obtain ⟨l, hl, hc⟩ := List.mem_flatten.mp hc
  rw [List.eq_of_mem_replicate hl] at hc
  exact h c hc
theorem lenRep (cs : List Nat) (m : Nat) : (List.replicate m cs).flatten.length = m * cs.length := PyProof.Rows.lm_len_rep_flat _ _
theorem okNum (n : Nat) : OkL (numL n) := fun c hc => by
  have := numL_digits n c hc
  omega
theorem letL_ok {kd n : Nat} {t : List Nat} (hk : KdOk kd) (ht : OkL t) : OkL (letL kd n t) := fun c hc => by
  unfold letL at hc
  rcases List.mem_append.mp hc with z | z
  · rcases List.mem_cons.mp z with z | z
    · rcases hk with y | y <;> rw [z, y] <;> decide
    · exact okNum _ c z
  · rcases List.mem_cons.mp z with z | z
    · rw [z]; decide
    · rcases List.mem_append.mp z with z | z
      · exact okNum _ c z
      · rcases List.mem_cons.mp z with z | z
        · rw [z]; decide
        · exact ht c z
theorem letL_len {kd n : Nat} {t : List Nat} (hn : n < 100000) : (letL kd n t).length ≤ t.length + 13 ∧ t.length ≤ (letL kd n t).length := by
  have h1 := numL5 hn
  have h2 : (numL (chk (kd :: numL n ++ 32 :: t))).length ≤ 5 := numL5 (by have := chk_lt (kd :: numL n ++ 32 :: t); omega)
  unfold letL
  simp only [List.length_append, List.length_cons]
  omega
theorem letM_self {kd n : Nat} {t : List Nat} (hn : n < 100000) : letM kd (letL kd n t) = some (n, t) := by
  unfold letL
  rw [letM_made hn (by have := chk_lt (kd :: numL n ++ 32 :: t); omega), if_pos rfl]
theorem bent_ok {l : List Nat} (w a s t : Nat) (h : OkL l) : OkL (bentM l w a s t) := by
  have h41 : s % 41 < signL.length := by rw [sign_len]; exact Nat.mod_lt _ (by decide)
  have sg : signL.getD (s % 41) 0 < 128 := by
    rw [List.getD_eq_getElem?_getD, List.getElem?_eq_getElem h41]
    exact sign_ok _ (List.getElem_mem h41)
  have tk : ∀ n, OkL (l.take n) := fun n c hc => h c (List.mem_of_mem_take hc)
  have dr : ∀ n, OkL (l.drop n) := fun n c hc => h c (List.mem_of_mem_drop hc)
  have ap : ∀ {x y : List Nat}, OkL x → OkL y → OkL (x ++ y) := fun hx hy c hc => (List.mem_append.mp hc).elim (hx c) (hy c)
  have cn : ∀ {x : Nat} {y : List Nat}, x < 128 → OkL y → OkL (x :: y) := fun hx hy c hc => (List.mem_cons.mp hc).elim (fun z => by rw [z]; exact hx) (hy c)
  unfold bentM
  split
  · exact ap (tk _) (cn sg (dr _))
  split
  · exact ap (tk _) (dr _)
  split
  · exact ap (tk _) (cn sg (dr _))
  split
  · exact ap (ap (tk _) (fun c hc => h c (List.mem_of_mem_drop (List.mem_of_mem_take (List.mem_reverse.mp hc))))) (dr _)
  split
  · exact tk _
  · refine ap ?_ (dr _)
    rcases (by omega : t % 4 = 0 ∨ t % 4 = 1 ∨ t % 4 = 2 ∨ t % 4 = 3) with h | h | h | h <;> rw [h] <;> intro c hc
    · rw [List.mem_singleton.mp hc]; decide
    · rw [List.mem_singleton.mp hc]; decide
    · rw [List.mem_singleton.mp hc]; decide
    · cases hc
theorem bent_len {l : List Nat} (w a s t : Nat) : (bentM l w a s t).length ≤ l.length + 3 := by
  unfold bentM
  split
  · simp only [List.length_append, List.length_cons, List.length_take, List.length_drop]; omega
  split
  · simp only [List.length_append, List.length_take, List.length_drop]; omega
  split
  · simp only [List.length_append, List.length_cons, List.length_take, List.length_drop]; omega
  split
  · rw [List.length_append, List.length_append, List.length_reverse, List.length_take, List.length_take, List.length_drop, List.length_drop]
    have h1 := Nat.min_le_left 2 (l.length - a % l.length)
    have h4 := Nat.min_le_right 2 (l.length - a % l.length)
    have h2 := Nat.min_le_left (a % l.length) l.length
    have h3 := Nat.min_le_right (a % l.length) l.length
    omega
  split
  · rw [List.length_take]; omega
  · rw [List.length_append, List.length_drop]
    have : (([[97], [113], [120], []] : List (List Nat)).getD (t % 4) []).length ≤ 1 := by
      rcases (by omega : t % 4 = 0 ∨ t % 4 = 1 ∨ t % 4 = 2 ∨ t % 4 = 3) with h | h | h | h <;> rw [h] <;> decide
    omega
/-- a sign of the text put over, or two that stand together changed about: no letter more -/
theorem bent_none {kd n : Nat} {t : List Nat} {w a s z : Nat} (hn : n < 100000) (hk : KdOk kd) (ht : OkL t) (htl : t.length ≤ 9000) (hw : w % 6 = 0 ∨ w % 6 = 3) (ha : (letL kd n t).length - t.length ≤ a % (letL kd n t).length)
    (hne : bentM (letL kd n t) w a s z ≠ letL kd n t) : letM kd (bentM (letL kd n t) w a s z) = none := by
  have hc := chk_lt (kd :: numL n ++ 32 :: t)
  have h5 := numL5 hn
  obtain ⟨p, hp⟩ : ∃ p, p = kd :: numL n ++ 32 :: (numL (chk (kd :: numL n ++ 32 :: t)) ++ [32]) := ⟨_, rfl⟩
  have el : letL kd n t = p ++ t := by
    rw [hp]
    unfold letL
    simp only [List.append_assoc, List.cons_append, List.nil_append, List.singleton_append]
  have emade : ∀ t2, letM kd (p ++ t2) = if chk (kd :: numL n ++ 32 :: t) = chk (kd :: numL n ++ 32 :: t2) then some (n, t2) else none := fun t2 => by
    rw [← letM_made (c := chk (kd :: numL n ++ 32 :: t)) hn (by omega), hp]
    simp only [List.append_assoc, List.cons_append, List.nil_append, List.singleton_append]
  have hpos : 0 < (letL kd n t).length := by rw [el, hp]; simp
  have hat := Nat.mod_lt a hpos
  obtain ⟨m, hm⟩ : ∃ m, m = a % (letL kd n t).length := ⟨_, rfl⟩
  unfold bentM at hne ⊢
  rw [← hm] at ha hat hne ⊢
  rw [el] at ha hat hne ⊢
  rw [List.length_append] at ha hat
  obtain ⟨j, rfl⟩ : ∃ j, m = p.length + j := ⟨m - p.length, by omega⟩
  clear hm ha
  have hj : j < t.length := by omega
  have e1 : (p ++ t).take (p.length + j) = p ++ t.take j := by rw [List.take_append, List.take_of_length_le (by omega), Nat.add_sub_cancel_left]
  have e2 : ∀ i, (p ++ t).drop (p.length + i) = t.drop i := fun i => by rw [List.drop_append]; simp
  obtain ⟨x, r, hd⟩ : ∃ x r, t.drop j = x :: r := by
    cases h : t.drop j with
    | nil => have := congrArg List.length h; rw [List.length_drop, List.length_nil] at this; omega
    | cons x r => exact ⟨x, r, rfl⟩
  have ht0 : t = t.take j ++ x :: r := by rw [← hd, List.take_append_drop]
  have hd1 : t.drop (j + 1) = r := by rw [← List.drop_drop, hd]; rfl
  have hx : x < 128 := ht x (by rw [ht0]; exact List.mem_append.mpr (.inr List.mem_cons_self))
  have htk : (t.take j).length ≤ 9000 := by rw [List.length_take]; omega
  have hA : ∀ y : List Nat, kd :: numL n ++ 32 :: (t.take j ++ y) = (kd :: numL n ++ 32 :: t.take j) ++ y := fun y => by simp only [List.append_assoc, List.cons_append]
  rcases hw with hw | hw
  · rw [if_pos hw] at hne ⊢
    rw [e1, show p.length + j + 1 = p.length + (j + 1) by omega, e2, hd1] at hne ⊢
    have h41 : s % 41 < signL.length := by rw [sign_len]; exact Nat.mod_lt _ (by decide)
    have sg : signL.getD (s % 41) 0 < 128 := by
      rw [List.getD_eq_getElem?_getD, List.getElem?_eq_getElem h41]
      exact sign_ok _ (List.getElem_mem h41)
    generalize signL.getD (s % 41) 0 = y at hne sg ⊢
    have hxy : x ≠ y := fun e => hne (by rw [List.append_assoc, ← e, ← ht0])
    rw [List.append_assoc, emade, if_neg]
    intro z
    have z2 : chk (kd :: numL n ++ 32 :: (t.take j ++ x :: r)) = chk (kd :: numL n ++ 32 :: (t.take j ++ y :: r)) := by rw [← ht0]; exact z
    rw [hA, hA] at z2
    exact chk_put (by simp only [List.length_append, List.length_cons]; omega) hx sg hxy z2
  · rw [if_neg (by omega), if_neg (by omega), if_neg (by omega), if_pos hw] at hne ⊢
    rw [e1, show p.length + j + 2 = p.length + (j + 2) by omega, e2, e2, hd] at hne ⊢
    cases r with
    | nil =>
      refine absurd ?_ hne
      have hd2 : t.drop (j + 2) = [] := by rw [show j + 2 = j + 1 + 1 by omega, ← List.drop_drop, hd1]; rfl
      rw [hd2]
      show p ++ t.take j ++ [x] ++ [] = p ++ t
      rw [List.append_nil, List.append_assoc, ← ht0]
    | cons y r =>
      have hd2 : t.drop (j + 2) = r := by rw [show j + 2 = j + 1 + 1 by omega, ← List.drop_drop, hd1]; rfl
      have hy : y < 128 := ht y (by rw [ht0]; exact List.mem_append.mpr (.inr (List.mem_cons_of_mem _ List.mem_cons_self)))
      rw [hd2] at hne ⊢
      have e3 : p ++ t.take j ++ ((x :: y :: r).take 2).reverse ++ r = p ++ (t.take j ++ y :: x :: r) := by
        show p ++ t.take j ++ [y, x] ++ r = _
        simp only [List.append_assoc, List.cons_append, List.nil_append]
      rw [e3] at hne ⊢
      have hxy : x ≠ y := fun e => hne (by rw [e] at ht0 ⊢; rw [← ht0])
      rw [emade, if_neg]
      intro z
      have z2 : chk (kd :: numL n ++ 32 :: (t.take j ++ x :: y :: r)) = chk (kd :: numL n ++ 32 :: (t.take j ++ y :: x :: r)) := by rw [← ht0]; exact z
      rw [hA, hA] at z2
      exact chk_swap hx hy hxy z2

theorem cut_four {ds : List Int} {k : Nat} (hd : DigOk ds) (hl : ds.length = 60) (hk : k < 4) : ∃ w a s t : Nat, cutV (ds.map V.int) (some (41 + 4 * (k : Int))) (some (45 + 4 * (k : Int))) = [.int w, .int a, .int s, .int t] ∧ w ≤ 1008 ∧ a ≤ 1008 ∧ s ≤ 1008 ∧ t ≤ 1008 ∧
    atI (ds.map V.int) (41 + 4 * (k : Int)) = some (.int w) ∧ atI (ds.map V.int) (42 + 4 * (k : Int)) = some (.int a) := by
  obtain ⟨w, hw, w1⟩ := dgN hd hl (show 41 + 4 * k < 60 by omega)
  obtain ⟨a, ha, a1⟩ := dgN hd hl (show 42 + 4 * k < 60 by omega)
  obtain ⟨s, hs, s1⟩ := dgN hd hl (show 43 + 4 * k < 60 by omega)
  obtain ⟨t, ht, t1⟩ := dgN hd hl (show 44 + 4 * k < 60 by omega)
  have cast : ∀ c : Nat, ((c + 4 * k : Nat) : Int) = (c : Int) + 4 * (k : Int) := fun c => by omega
  refine ⟨w, a, s, t, ?_, w1, a1, s1, t1, by rw [cast] at hw; exact hw, by rw [cast] at ha; exact ha⟩
  have gt : ∀ {j : Nat} {v : V}, atI (ds.map V.int) (j : Int) = some v → (ds.map V.int)[j]? = some v := fun {j v} h => by
    unfold atI ixN at h
    rw [if_pos (Int.natCast_nonneg _)] at h
    split at h
    · exact h
    · cases h
  unfold cutV
  have c1 : (41 : Int) + 4 * (k : Int) = ((41 + 4 * k : Nat) : Int) := by omega
  have c2 : (45 : Int) + 4 * (k : Int) = ((45 + 4 * k : Nat) : Int) := by omega
  rw [c1, c2, HT.sIx_nat, HT.sIx_nat, List.length_map, hl, Nat.min_eq_left (by omega), Nat.min_eq_left (by omega), show 45 + 4 * k - (41 + 4 * k) = 4 by omega]
  have hw := gt hw
  have ha := gt ha
  have hs := gt hs
  have ht := gt ht
  generalize ds.map V.int = L at *
  have dr : ∀ (m : Nat) (v : V), L[m]? = some v → L.drop m = v :: L.drop (m + 1) := fun m v h => by
    have hm := (List.getElem?_eq_some_iff.mp h)
    obtain ⟨hm, e⟩ := hm
    rw [List.drop_eq_getElem_cons hm, e]
  rw [dr _ _ hw, show 41 + 4 * k + 1 = 42 + 4 * k by omega, dr _ _ ha, show 42 + 4 * k + 1 = 43 + 4 * k by omega, dr _ _ hs, show 43 + 4 * k + 1 = 44 + 4 * k by omega, dr _ _ ht]
  rfl
end Bh

/-! The law. -/
namespace Bh
open PySem PySem.Spec PyProof.Rows L2
open TL SX RZ
section
variable {P : Program} {w : World} {K : PySem.W.Frag} {mg : Str → Option Value} {base : Heap} {CY CE : Addr}
abbrev sLaw : Stmt := topS 22
def scLlawN : List Str := ["_law_script", "_law_cells", "_law_cell_here", "_law_row", "_law_kind", "_law_number_here", "_law_text", "_law_letter", "_law_k", "_law_bent_here", "_law_one", "_law_touched"]
theorem scLlaw : FnScope scLlawN ["_law_script"] (defScope sLaw) := ⟨rfl, rfl, rfl, by decide +kernel, rfl, by decide +kernel, by decide +kernel⟩
theorem ok_Llaw {f : Addr} {fd : FuncData} {fF_let : Addr} {dF_let : FuncData} {fL_bnt : Addr} {dL_bnt : FuncData} {fL_chk : Addr} {dL_chk : FuncData} {fL_dig : Addr} {dL_dig : FuncData} {fL_due : Addr} {dL_due : FuncData} {fL_sgn : Addr} {dL_sgn : FuncData} {fL_told : Addr} {dL_told : FuncData} (F : Fun K "law" "law" sLaw f fd) (T : Lx K mg CY CE)
    (F_let : CalF P w K mg base 2 "letter_of" ["kind", "number", "text"] (spLet) fF_let dF_let)
    (L_bnt : CalF P w K mg base 2 "_law_bent" ["_law_letter", "_law_row"] (spBent) fL_bnt dL_bnt)
    (L_chk : CalF P w K mg base 1 "_law_check" ["_law_head", "_law_text"] (spCk) fL_chk dL_chk)
    (L_dig : CalF P w K mg base 1 "_law_digits" ["_law_cell_here", "_law_many"] (spDig) fL_dig dL_dig)
    (L_due : CalF P w K mg base 2 "_law_due" ["_law_kind", "_law_letter"] (spDue) fL_due dL_due)
    (L_sgn : CalF P w K mg base 1 "_law_signs" [] (spSg) fL_sgn dL_sgn)
    (L_told : CalF P w K mg base 3 "_law_told" ["_law_kind", "_law_letter"] (spDue) fL_told dL_told) : FnOk P w K mg base CX0 4 f fd ["_law_script"] (spLaw K) := by
  refine F.ok scLlaw (fun vs H Q E h => by obtain ⟨_, _, rfl, _⟩ := h; rfl) (fun cdv A outer s H vs Q E hr h => ?_)
  have hu := hu_of hr
  have z_int := T.z_int
  have z_len := T.z_len
  have z_range := T.z_range
  have z_str := T.z_str
  obtain ⟨a, ns, rfl, hS, hn, q⟩ := h
  have hu64 := hr.units
  refine ⟨_, (pss_cons (ps_set (i := 1) scLlaw.nd rfl (.inl rfl) (pe_slice sl_list (pv 0) po_none (po_some pe_int)))
    (pss_cons (ps_if (pt_cmpR (op_eqD hu64) (pv 1) (pe_lst pa_nil) (nomark _)) (pss_one (ps_set (i := 1) scLlaw.nd rfl (.inl rfl) (pe_lst (pa_cons pe_int (pa_cons pe_int (pa_cons pe_int pa_nil)))))) pss_nil)
    (pss_cons (ps_for PassesOwn.never rfl (pi_list (pv 1)) (pg_name (i := 2) scLlaw.nd rfl (.inl rfl))
      (pss_cons (ps_set (i := 3) scLlaw.nd rfl (.inr rfl) (pe_call L_dig.G (hr.mono (by decide)) (by rfl) L_dig.g L_dig.kp L_dig.b .nil pass0 (pa_cons (pv 2) (pa_cons pe_int pa_nil))))
    (pss_cons (ps_set (i := 4) scLlaw.nd rfl (.inl rfl) (pe_item_str pe_str (pe_op op_mod (pe_ix ix_list (pv 3) pe_int (fun _ _ => rfl)) pe_int) (fun _ _ => rfl)))
    (pss_cons (ps_set (i := 5) scLlaw.nd rfl (.inl rfl) (pe_ix ix_list (pe_lst (pa_cons (pe_op op_add (pe_ix ix_list (pv 3) pe_int (fun _ _ => rfl)) pe_int) (pa_cons (pe_op op_add (pe_op op_mul (pe_ix ix_list (pv 3) pe_int (fun _ _ => rfl)) pe_int) pe_int) (pa_cons pe_int (pa_cons pe_int pa_nil))))) (pe_op op_mod (pe_ix ix_list (pv 3) pe_int (fun _ _ => rfl)) pe_int) (fun _ _ => rfl)))
    (pss_cons (ps_set (i := 6) scLlaw.nd rfl (.inl rfl) (pe_join pe_str (pe_lc (own := [("_law_k", 8)]) (g := gName 8) (tt := tYes) (by rfl) scLlaw.nd (pi_range1 (by rfl) z_range (pa_cons (pe_op op_mod (pe_ix ix_list (pv 3) pe_int (fun _ _ => rfl)) pe_int) pa_nil)) (blkOk_by (own := [("_law_k", 8)]) (N := scLlawN) (sc := defScope sLaw) (by decide +kernel)) (fun _ _ _ _ _ => (pg_name (i := 8) scLlaw.nd rfl (.inl rfl))) (fun _ _ _ _ _ => pts_nil) (fun _ _ _ _ _ => (pe_item_str (pe_call0 L_sgn.G (hr.mono (by decide)) (by rfl) L_sgn.g L_sgn.kp L_sgn.b .nil pass0) (pe_op op_mod (pe_ix (ix_listK (K := K)) (pv 3) (pe_op op_add pe_int (pv 8)) (fun _ _ => rfl)) pe_int) (fun _ _ => rfl))))))
    (pss_cons (ps_set (i := 6) scLlaw.nd rfl (.inl rfl) (pe_op op_mul_str (pv 6) (pe_ix ix_list (pe_lst (pa_cons pe_int (pa_cons pe_int pa_nil))) (pe_callTy call_int1 (by rfl) z_int (by decide +kernel) (pa_cons (pe_cmpR op_eq (pe_op op_mod (pe_ix ix_list (pv 3) pe_int (fun _ _ => rfl)) pe_int) pe_int (nomark _)) pa_nil)) (fun _ _ => rfl))))
    (pss_cons (ps_set (i := 7) scLlaw.nd rfl (.inl rfl) (pe_op op_add_str (pe_op op_add_str (pe_op op_add_str (pe_op op_add_str (pe_op op_add_str (pv 4) (pe_callTy call_str_int (by rfl) z_str (by decide +kernel) (pa_cons (pv 5) pa_nil))) pe_str) (pe_callTy call_str_int (by rfl) z_str (by decide +kernel) (pa_cons (pe_call L_chk.G (hr.mono (by decide)) (by rfl) L_chk.g L_chk.kp L_chk.b .nil pass0 (pa_cons (pe_op op_add_str (pv 4) (pe_callTy call_str_int (by rfl) z_str (by decide +kernel) (pa_cons (pv 5) pa_nil))) (pa_cons (pv 6) pa_nil))) pa_nil))) pe_str) (pv 6)))
    (pss_cons (ps_if (PW.pt (pw_or (pt_cmpR op_ne (pe_call F_let.G (hr.mono (by decide)) (by rfl) F_let.g F_let.kp F_let.b .nil pass0 (pa_cons (pv 4) (pa_cons (pv 5) (pa_cons (pv 6) pa_nil)))) (pv 7) (nomark _)) (pw_or1 (pt_cmpR (op_neP hu64) (pe_call L_told.G (hr.mono (by decide)) (by rfl) L_told.g L_told.kp L_told.b .nil pass0 (pa_cons (pv 4) (pa_cons (pv 7) pa_nil))) (pe_tup (pa_cons (pv 5) (pa_cons (pv 6) pa_nil))) (nomark _))))) (pss_one (ps_ret pe_bl)) pss_nil)
    (pss_cons (ps_if (pt_cmpR op_ne (pe_call L_told.G (hr.mono (by decide)) (by rfl) L_told.g L_told.kp L_told.b .nil pass0 (pa_cons (pe_item_str pe_str (pe_op op_mod (pe_ix ix_list (pv 3) pe_int (fun _ _ => rfl)) pe_int) (fun _ _ => rfl)) (pa_cons (pv 7) pa_nil))) pe_str (nomark _)) (pss_one (ps_ret pe_bl)) pss_nil)
    (pss_one (ps_for PassesOwn.never rfl (pi_range1 (by rfl) z_range (pa_cons pe_int pa_nil)) (pg_name (i := 8) scLlaw.nd rfl (.inl rfl))
      (pss_cons (ps_set (i := 9) scLlaw.nd rfl (.inl rfl) (pe_call L_bnt.G (hr.mono (by decide)) (by rfl) L_bnt.g L_bnt.kp L_bnt.b .nil pass0 (pa_cons (pv 7) (pa_cons (pe_slice sl_list (pv 3) (po_some (pe_op op_add pe_int (pe_op op_mul pe_int (pv 8)))) (po_some (pe_op op_add pe_int (pe_op op_mul pe_int (pv 8))))) pa_nil))))
    (pss_cons (ps_for PassesOwn.never rfl (pi_list (pe_lst (pa_cons pe_str (pa_cons pe_str pa_nil)))) (pg_name (i := 10) scLlaw.nd rfl (.inl rfl))
      (pss_one (ps_if (pt_cmpR (op_neP hu64) (pe_call L_told.G (hr.mono (by decide)) (by rfl) L_told.g L_told.kp L_told.b .nil pass0 (pa_cons (pv 10) (pa_cons (pv 9) pa_nil))) (pe_call L_due.G (hr.mono (by decide)) (by rfl) L_due.g L_due.kp L_due.b .nil pass0 (pa_cons (pv 10) (pa_cons (pv 9) pa_nil))) (nomark _)) (pss_one (ps_ret pe_bl)) pss_nil)))
    (pss_cons (ps_set (i := 11) scLlaw.nd rfl (.inl rfl) (pe_and (pe_cmpR op_ge (pe_op op_mod (pe_ix ix_list (pv 3) (pe_op op_add pe_int (pe_op op_mul pe_int (pv 8))) (fun _ _ => rfl)) (pe_callB call_len_str (by rfl) z_len PySem.boot_len (pa_cons (pv 7) pa_nil))) (pe_op op_sub (pe_callB call_len_str (by rfl) z_len PySem.boot_len (pa_cons (pv 7) pa_nil)) (pe_callB call_len_str (by rfl) z_len PySem.boot_len (pa_cons (pv 6) pa_nil))) (nomark _)) (pe_one (pe_cmpR op_ne (pv 9) (pv 7) (nomark _)))))
    (pss_one (ps_if (PW.pt (pw_and (pt_cmpR op_in_seq (pe_op op_mod (pe_ix ix_list (pv 3) (pe_op op_add pe_int (pe_op op_mul pe_int (pv 8))) (fun _ _ => rfl)) pe_int) (pe_lst (pa_cons pe_int (pa_cons pe_int pa_nil))) (by rfl)) (pw_and (pt_val (pv 11)) (pw_and1 (pt_cmpR op_ne (pe_call L_told.G (hr.mono (by decide)) (by rfl) L_told.g L_told.kp L_told.b .nil pass0 (pa_cons (pv 4) (pa_cons (pv 9) pa_nil))) pe_str (nomark _)))))) (pss_one (ps_ret pe_bl)) pss_nil))))))))))))))))
    (pss_one (ps_ret pe_bl))))), ?_⟩
  obtain ⟨ms, ems, hms⟩ := cut_ints ns none (some 8)
  refine ⟨_, rfl, _, rfl, a, _, rfl, hS, fun c nc => ?_⟩
  rw [ems]
  have hc0 : SqL K (upd H c (.lst (ms.map V.int))) c (ms.map V.int) := .inl (.inl upd_same)
  refine ⟨_, rfl, Nat.zero_le _, fun e0 ne0 => ?_⟩
  have hc1 : SqL K (upd (upd H c (.lst (ms.map V.int))) e0 (.lst [])) c (ms.map V.int) := (same_upd' ne0).seq hc0
  refine ⟨_, _, .lst hc1 (dp_ints ms), .lst (.inl (.inl upd_same)) .nil, shaped_ints ms, shaped_ints [], _, rfl, ifB (fun _ => ⟨(by show 3 ≤ sizeLine; decide), fun ca nca => ?_⟩) (fun _ => ?_)⟩
  · obtain ⟨ms', hca⟩ : ∃ ms' : List Int, SqL K (upd (upd (upd H c (.lst (ms.map V.int))) e0 (.lst [])) ca (.lst [.int 4, .int 19, .int 300])) ca (ms'.map V.int) := ⟨[4, 19, 300], .inl (.inl upd_same)⟩
    refine ⟨_, rfl, ca, rfl, ⟨_, hca⟩, ?_⟩
    refine for_list (K := K) (a := ca) (xs := ms'.map V.int) (fun i σ H' => SqL K H' ca (ms'.map V.int) ∧ ∃ y2 y3 y4 y5 y6 y7 y8 y9 y10 y11 : Option V, σ = [some (.ref a), some (.ref ca), y2, y3, y4, y5, y6, y7, y8, y9, y10, y11]) ⟨hca, none, none, none, none, none, none, none, none, none, none, rfl⟩ (fun _ _ _ _ h => h.1) ?_ ?_
    · rintro i v σ H1 hi ⟨hca, y2, y3, y4, y5, y6, y7, y8, y9, y10, y11, rfl⟩
      obtain ⟨cell, _, rfl⟩ := getI hi
      refine ⟨_, rfl, cell, 60, rfl, by decide, fun G0 r ds hlen hdg sm0 nr hR => ?_⟩
      obtain ⟨u0, g0, b0⟩ := dgN hdg hlen (show 0 < 60 by decide)
      obtain ⟨u1, g1, b1⟩ := dgN hdg hlen (show 1 < 60 by decide)
      obtain ⟨u2, g2, b2⟩ := dgN hdg hlen (show 2 < 60 by decide)
      obtain ⟨u3, g3, b3⟩ := dgN hdg hlen (show 3 < 60 by decide)
      obtain ⟨u9, g9, b9⟩ := dgN hdg hlen (show 9 < 60 by decide)
      obtain ⟨kd, hkd, k1, kd2, hkd2, hkne, k2⟩ := kinds u0
      have L2q : ("qa" : Str).length = 2 := by decide +kernel
      have L2a : ("aq" : Str).length = 2 := by decide +kernel
      refine ⟨_, rfl, r, _, 0, _, rfl, rfl, SqL.of hR, g0, _, _, rfl, rfl, (by show (0 : Int) < 2; decide), _, _, kd, rfl, rfl, by omega, by omega, by rw [L2q]; omega, k1, ?_⟩
      obtain ⟨n, hn1, hn⟩ := numb (v := u2) b1
      refine ⟨_, rfl, r, _, 1, _, rfl, rfl, SqL.of hR, g1, _, _, rfl, rfl, _, rfl, r, _, 1, _, rfl, rfl, SqL.of hR, g1, _, _, rfl, rfl, .inr ⟨by decide, by decide⟩, _, _, rfl, rfl, (by show 4 ≤ sizeLine; decide), fun l1 n1 => ?_⟩
      have s1 := same_upd' (o := .lst [V.int ((u1 : Int) + 1), V.int ((u1 : Int) * 99 + 1), V.int 99999, V.int 1]) n1
      have h1 : upd G0 l1 (.lst [V.int ((u1 : Int) + 1), V.int ((u1 : Int) * 99 + 1), V.int 99999, V.int 1]) l1 = some (.lst [V.int ((u1 : Int) + 1), V.int ((u1 : Int) * 99 + 1), V.int 99999, V.int 1]) := upd_same
      have hR := s1 _ _ hR
      have sm1 := sm0.trans s1
      generalize upd G0 l1 (.lst [V.int ((u1 : Int) + 1), V.int ((u1 : Int) * 99 + 1), V.int 99999, V.int 1]) = G1 at *
      refine ⟨_, rfl, r, _, 2, _, rfl, rfl, SqL.of hR, g2, _, _, rfl, rfl, (by show (0 : Int) < 4; decide), l1, _, _, _, rfl, rfl, SqL.of h1, hn, ?_⟩
      refine ⟨⟨_, rfl⟩, _, rfl, r, _, 3, _, rfl, rfl, SqL.of hR, g3, _, _, rfl, rfl, (by show (0 : Int) < 31; decide), (u3 : Int) % 31, rfl, by omega, by omega, fun D nD => ?_⟩
      refine lc_range (lo := 0) (n := ((u3 : Int) % 31).toNat) (fun i H' => Same G1 H' ∧ ∃ cs : List Nat, cs.length = i ∧ OkL cs ∧ H' D = some (.lst ((cs.map fun c => S [c]).map V.str))) ⟨same_upd' nD, [], rfl, (fun _ h => by cases h), upd_same⟩ ?_ ?_
      · rintro i H' hi ⟨sm, cs, hcl, hco, hD⟩
        have hi : i < 31 := by omega
        have hR := sm _ _ hR
        obtain ⟨v, gv, bv⟩ := dgN hdg hlen (show 10 + i < 60 by omega)
        have ev : ((10 + i : Nat) : Int) = 10 + (0 + (i : Int)) := by omega
        rw [ev] at gv
        obtain ⟨c, hc⟩ : ∃ c, signL[v % 41]? = some c := ⟨_, List.getElem?_eq_getElem (by rw [sign_len]; exact Nat.mod_lt _ (by decide))⟩
        refine ⟨rfl, ?_⟩
        refine ⟨rfl, _, rfl, _, rfl, _, _, rfl, rfl, r, _, _, _, rfl, rfl, SqL.of hR, gv, _, _, rfl, rfl, (by show (0 : Int) < 41; decide), S signL, (v : Int) % 41, c, rfl, rfl, by omega, by omega, by rw [S_len, sign_len]; omega, ?_, ?_⟩
        · have e : ((v : Int) % 41).toNat = v % 41 := by omega
          rw [e]
          have : (S signL).cps.toList[v % 41]? = some c := hc
          simpa using this
        refine ⟨_, hD, ?_, same_of sm nD, cs ++ [c], ?_, ?_, ?_⟩
        · rw [List.length_map, List.length_map, hcl]
          exact small1000 (by omega)
        · rw [List.length_append, hcl]; rfl
        · intro y hy
          rcases List.mem_append.mp hy with z | z
          · exact hco y z
          · rw [List.mem_singleton.mp z]
            exact sign_ok c (List.mem_of_getElem? hc)
        · rw [upd_same, List.map_append, List.map_append]
          rfl
      rintro G2 ⟨s2, cs, hcl, hco, hD⟩
      have hcl : cs.length ≤ 30 := by omega
      refine ⟨_, D, cs.map fun c => S [c], rfl, rfl, .inl (SqL.of hD), ?_, ?_⟩
      · skip
        rw [sumOne, List.length_map, n_S, S_len]
        show cs.length + cs.length * 0 ≤ _
        omega
      have ej : Txt.join ("" : Str) (cs.map fun c => S [c]) = S cs := by
        have e := join_S [] (cs.map fun c => [c])
        rw [List.map_map] at e
        rw [n_S]
        refine e.trans ?_
        rw [joinOne]
      rw [ej]
      have hR := s2 _ _ hR
      have sm2 := sm1.trans s2
      refine ⟨_, rfl, (by show 2 ≤ sizeLine; decide), fun l3 n3 => ?_⟩
      have s3 := same_upd' (o := .lst [V.int 1, V.int 280]) n3
      have h3 : upd G2 l3 (.lst [V.int 1, V.int 280]) l3 = some (.lst [V.int 1, V.int 280]) := upd_same
      have hR := s3 _ _ hR
      have sm3 := sm2.trans s3
      generalize upd G2 l3 (.lst [V.int 1, V.int 280]) = G3 at *
      refine ⟨_, rfl, r, _, 9, _, rfl, rfl, SqL.of hR, g9, _, _, rfl, rfl, (by show (0 : Int) < 8; decide), rfl, .inr ⟨_, rfl, ?_⟩⟩
      obtain ⟨m, m1, m2, hm⟩ : ∃ m : Nat, 1 ≤ m ∧ m ≤ 280 ∧ atI [V.int 1, V.int 280] (if decide (V.int ((u9 : Int) % 8) = V.int 7) = true then 1 else 0) = some (.int (m : Int)) := by
        cases decide (V.int ((u9 : Int) % 8) = V.int 7)
        · exact ⟨1, by decide, by decide, rfl⟩
        · exact ⟨280, by decide, by decide, rfl⟩
      have hml : m * cs.length ≤ 8400 := Nat.le_trans (Nat.mul_le_mul m2 hcl) (by decide)
      refine ⟨l3, _, _, _, rfl, rfl, SqL.of h3, hm, S cs, m, rfl, rfl, m1, by omega, szl (by rw [S_len]; omega), ?_⟩
      obtain ⟨t, et⟩ : ∃ t, t = (List.replicate m cs).flatten := ⟨_, rfl⟩
      have htt : timesS (S cs) m = S t := by rw [et]; rfl
      rw [htt]
      have hto : OkL t := by rw [et]; exact okRep hco m
      have htl : t.length ≤ 8400 := by rw [et, lenRep]; exact hml
      clear et htt hml hm h3 hD hcl hco ej
      have hL := numL5 hn1
      have hC := chk_lt (kd :: numL n ++ 32 :: t)
      have hcL : (numL (chk (kd :: numL n ++ 32 :: t))).length ≤ 5 := numL5 (by omega)
      have a2 : (⟨#[kd]⟩ : Str) ++ S (numL n) = S (kd :: numL n) := S_cat [kd] _
      have ln : ∀ {x y : List Nat}, x.length ≤ 30000 → y.length ≤ 30000 → (S x).length + (S y).length ≤ sizeLine := fun h h' => szl (by rw [S_len, S_len]; omega)
      have h13 : (kd :: numL n).length ≤ 10 := by rw [List.length_cons]; omega
      have hkc : kd < 128 := by rcases hkd with z | z <;> rw [z] <;> decide
      have okh : OkL (kd :: numL n) := fun c hc => by
        rcases List.mem_cons.mp hc with z | z
        · rw [z]; exact hkc
        · exact okNum n c z
      refine ⟨_, rfl, _, rfl, _, rfl, num_small2 hn1, ?_⟩
      rw [numS]
      refine ⟨_, _, rfl, rfl, ln (x := [kd]) (by simp) (by omega), ?_⟩
      rw [a2]
      refine ⟨_, _, rfl, rfl, ?_, ?_⟩
      · rw [sp_S]; exact ln (by omega) (by simp)
      rw [sp_S, S_cat]
      refine ⟨_, rfl, _, rfl, _, rfl, num_small2 hn1, ?_⟩
      rw [numS]
      refine ⟨_, _, rfl, rfl, ln (x := [kd]) (by simp) (by omega), ?_⟩
      rw [a2]
      refine ⟨_, rfl, kd :: numL n, t, rfl, okh, hto, by omega, by omega, ?_⟩
      refine ⟨_, rfl, num_small2 (n := chk (kd :: numL n ++ 32 :: t)) (by omega), ?_⟩
      rw [numS]
      refine ⟨_, _, rfl, rfl, ln (by rw [List.length_append, List.length_singleton]; omega) (by omega), ?_⟩
      rw [S_cat]
      refine ⟨_, _, rfl, rfl, ?_, ?_⟩
      · exact ln (by simp only [List.length_append, List.length_singleton]; omega) (by simp)
      rw [S_cat]
      refine ⟨_, rfl, _, _, rfl, rfl, ln (by simp only [List.length_append, List.length_singleton]; omega) (by omega), ?_⟩
      rw [S_cat]
      have elet : kd :: numL n ++ [32] ++ numL (chk (kd :: numL n ++ 32 :: t)) ++ [32] ++ t = letL kd n t := by
        unfold letL
        simp only [List.append_assoc, List.cons_append, List.nil_append, List.singleton_append]
      rw [elet]
      obtain ⟨ll1, ll2⟩ := letL_len (kd := kd) (t := t) hn1
      have lok := letL_ok (n := n) hkd hto
      have lself := letM_self (kd := kd) (t := t) hn1
      refine ⟨_, rfl, _, rfl, _, rfl, kd, n, t, rfl, hkc, hn1, hto, by omega, fun G4 s4 => ?_⟩
      have hR := s4 _ _ hR
      have sm4 := sm3.trans s4
      refine ⟨_, rfl, rfl, _, rfl, ifN (fun h => absurd rfl (of_decide_eq_false h)) (fun _ => ?_)⟩
      refine ⟨_, rfl, _, rfl, kd, letL kd n t, rfl, hkd, lok, by omega, (fun z => by rw [lself] at z; cases z), fun n' t' e G5 p5 s5 np5 hp5 => ?_⟩
      rw [lself] at e
      obtain ⟨rfl, rfl⟩ : n = n' ∧ t = t' := by
        have := Option.some.inj e
        exact ⟨congrArg Prod.fst this, congrArg Prod.snd this⟩
      clear e
      have hR := s5 _ _ hR
      have sm5 := sm4.trans s5
      refine ⟨_, rfl, _, rfl, (by show 2 ≤ sizeLine; decide), fun p6 np6 => ?_⟩
      have s6 := same_upd' (o := .tup [V.int (n : Int), V.str (S t)]) np6
      have h6 : upd G5 p6 (.tup [V.int (n : Int), V.str (S t)]) p6 = some (.tup [V.int (n : Int), V.str (S t)]) := upd_same
      have hR := s6 _ _ hR
      have hp5 := s6 _ _ hp5
      have sm6 := sm5.trans s6
      generalize upd G5 p6 (.tup [V.int (n : Int), V.str (S t)]) = G6 at *
      have plt : PyData.plain (.tuple [.int (n : Int), .str (S t)]) = true := rfl
      refine ⟨.tuple [.int (n : Int), .str (S t)], .tuple [.int (n : Int), .str (S t)], .tup (SqT.of hp5) (.cons (.int _) (.cons (.str _) .nil)), .tup (SqT.of h6) (.cons (.int _) (.cons (.str _) .nil)), plt, plt, (by show 0 + 1 ≤ 60; decide), _, rfl, ?_⟩
      rw [PySem.SeqAt.eqv_refl_plain _ plt]
      refine ifN (fun h => by cases h) (fun _ => ?_)
      refine ⟨_, rfl, r, _, 0, _, rfl, rfl, SqL.of hR, g0, _, _, rfl, rfl, (by show (0 : Int) < 2; decide), _, _, kd2, rfl, rfl, by omega, by omega, by rw [L2a]; omega, k2, ?_⟩
      have lnone : letM kd2 (letL kd n t) = none := letM_other (Ne.symm hkne)
      refine ⟨_, rfl, kd2, letL kd n t, rfl, hkd2, lok, by omega, fun _ G7 s7 => ?_, fun n' t' e => by rw [lnone] at e; cases e⟩
      have hR := s7 _ _ hR
      have sm7 := sm6.trans s7
      refine ⟨rfl, _, rfl, ifN (fun h => absurd rfl (of_decide_eq_false h)) (fun _ => ?_)⟩
      have hlne : letL kd n t ≠ [] := by unfold letL; exact List.cons_ne_nil _ _
      refine ⟨4, rfl, by decide, by decide, ?_⟩
      have hcaG := sm7.seq hca
      clear s1 s2 s3 s4 s5 s6 s7 sm0 sm1 sm2 sm3 sm4 sm5 sm6 h1 hp5 h6
      refine for_range (lo := 0) (n := ((4 : Int)).toNat) (fun i σ H' => Same G7 H' ∧ ∃ (y8 y9 y10 y11 : Option V), σ = [some (.ref a), some (.ref ca), some (.int cell), some (.ref r), some (.str ⟨#[kd]⟩), some (.int (n : Int)), some (.str (S t)), some (.str (S (letL kd n t))), y8, y9, y10, y11]) ⟨Same.refl _, _, _, _, _, rfl⟩ ?_ ?_
      · rintro i σ H0 hi ⟨sm, y8, y9, y10, y11, rfl⟩
        have hi : i < 4 := hi
        have hR := sm _ _ hR
        obtain ⟨w, x, s, z, hcut, w1, x1, s1, z1, gw, gx⟩ := cut_four hdg hlen hi
        have c0 : (0 : Int) + (i : Int) = (i : Int) := by omega
        refine ⟨_, rfl, _, rfl, _, rfl, _, _, rfl, rfl, .inl ⟨by decide, by decide⟩, _, _, rfl, rfl, _, rfl, _, rfl, _, _, rfl, rfl, .inl ⟨by decide, by decide⟩, _, _, rfl, rfl, _, rfl, r, _, rfl, SqL.of hR, fun pc npc => ?_⟩
        rw [c0, hcut]
        have s2 := same_upd' (o := .lst [V.int w, V.int x, V.int s, V.int z]) npc
        have hpc : upd H0 pc (.lst [V.int w, V.int x, V.int s, V.int z]) pc = some (.lst [V.int w, V.int x, V.int s, V.int z]) := upd_same
        have hR := s2 _ _ hR
        have sm2 := sm.trans s2
        generalize upd H0 pc (.lst [V.int w, V.int x, V.int s, V.int z]) = H1 at *
        refine ⟨pc, letL kd n t, w, x, s, z, rfl, hpc, w1, x1, s1, z1, hlne, by omega, fun H2 s3 => ?_⟩
        have hR := s3 _ _ hR
        have sm3 := sm2.trans s3
        have bok := bent_ok w x s z lok
        have bln := bent_len (l := letL kd n t) w x s z
        obtain ⟨bt, ebt⟩ : ∃ bt, bt = bentM (letL kd n t) w x s z := ⟨_, rfl⟩
        rw [← ebt] at bok bln ⊢
        refine ⟨(by show 2 ≤ sizeLine; decide), fun l4 n4 => ?_⟩
        have s4 := same_upd' (o := .lst [V.str "q", V.str "a"]) n4
        have h4 : upd H2 l4 (.lst [V.str "q", V.str "a"]) l4 = some (.lst [V.str "q", V.str "a"]) := upd_same
        have hR := s4 _ _ hR
        have sm4 := sm3.trans s4
        generalize upd H2 l4 (.lst [V.str "q", V.str "a"]) = H3 at *
        refine ⟨l4, rfl, ⟨_, SqL.of h4⟩, ?_⟩
        refine for_list (K := K) (a := l4) (xs := [V.str "q", V.str "a"]) (fun j σ H' => Same H3 H' ∧ ∃ (y10 y11 : Option V), σ = [some (.ref a), some (.ref ca), some (.int cell), some (.ref r), some (.str ⟨#[kd]⟩), some (.int (n : Int)), some (.str (S t)), some (.str (S (letL kd n t))), some (.int (i : Int)), some (.str (S bt)), y10, y11]) ⟨Same.refl _, _, _, rfl⟩ (fun j σ H' _ h => SqL.of (h.1 _ _ h4)) ?_ ?_
        · rintro j v σ H4 hv ⟨sm5, y10, y11, rfl⟩
          obtain ⟨k3, rfl, hk3⟩ : ∃ k3, v = V.str (S [k3]) ∧ KdOk k3 := by
            have hv2 : v ∈ [V.str "q", V.str "a"] := List.mem_of_getElem? hv
            rcases List.mem_cons.mp hv2 with y | y
            · exact ⟨113, by rw [y, q_S], .inl rfl⟩
            · exact ⟨97, by rw [List.mem_singleton.mp y, a_S], .inr rfl⟩
          cases eb : letM k3 bt with
          | none =>
            refine ⟨_, rfl, _, rfl, k3, bt, rfl, hk3, bok, by omega, fun _ H5 s6 => ?_, fun n' t' e => by rw [eb] at e; cases e⟩
            refine ⟨_, rfl, _, rfl, k3, bt, rfl, hk3, bok, by omega, fun _ H6 s7 => ?_, fun n' t' e => by rw [eb] at e; cases e⟩
            refine ⟨.str "none", .str "none", .str _, .str _, rfl, rfl, (by show 0 ≤ 60; decide), _, rfl, ?_⟩
            rw [PySem.SeqAt.eqv_refl_plain _ rfl]
            refine ifN (fun h => by cases h) (fun _ => ?_)
            exact ⟨(sm5.trans s6).trans s7, _, _, rfl⟩
          | some nt =>
            obtain ⟨n', t'⟩ := nt
            refine ⟨_, rfl, _, rfl, k3, bt, rfl, hk3, bok, by omega, (fun e => by rw [eb] at e; cases e), fun n2 t2 e H5 p8 s6 np8 hp8 => ?_⟩
            refine ⟨_, rfl, _, rfl, k3, bt, rfl, hk3, bok, by omega, (fun e => by rw [eb] at e; cases e), fun n3 t3 e3 H6 p9 s7 np9 hp9 => ?_⟩
            have hp8 := s7 _ _ hp8
            rw [e] at e3
            have e4 := Option.some.inj e3
            have e5 : n2 = n3 := congrArg Prod.fst e4
            have e6 : t2 = t3 := congrArg Prod.snd e4
            rw [← e5, ← e6] at hp9
            have plt : PyData.plain (.tuple [.int (n2 : Int), .str (S t2)]) = true := rfl
            refine ⟨.tuple [.int (n2 : Int), .str (S t2)], .tuple [.int (n2 : Int), .str (S t2)], .tup (SqT.of hp8) (.cons (.int _) (.cons (.str _) .nil)), .tup (SqT.of hp9) (.cons (.int _) (.cons (.str _) .nil)), plt, plt, (by show 0 + 1 ≤ 60; decide), _, rfl, ?_⟩
            rw [PySem.SeqAt.eqv_refl_plain _ plt]
            refine ifN (fun h => by cases h) (fun _ => ?_)
            exact ⟨(sm5.trans s6).trans s7, _, _, rfl⟩
        rintro σ H4 ⟨sm5, y10, y11, rfl⟩
        have hR := sm5 _ _ hR
        have sm6 := sm4.trans sm5
        have hll : (letL kd n t).length ≤ 10000 := by omega
        have hl0 : 0 < (letL kd n t).length := List.length_pos_iff.mpr hlne
        have em : (x : Int) % ((S (letL kd n t)).length : Int) = ((x % (letL kd n t).length : Nat) : Int) := by rw [S_len]; rfl
        refine ⟨_, rfl, _, rfl, _, _, rfl, rfl, .inl ⟨by decide, by decide⟩, _, _, rfl, rfl, r, _, _, _, rfl, rfl, SqL.of hR, gx, _, rfl, _, rfl, szl (by rw [S_len]; omega), _, _, rfl, rfl, (by show (0 : Int) < ((S (letL kd n t)).length : Int); rw [S_len]; omega), ?_⟩
        refine ⟨_, rfl, _, rfl, szl (by rw [S_len]; omega), _, rfl, _, rfl, szl (by rw [S_len]; omega), _, _, rfl, rfl, _, _, rfl, rfl, _, rfl, ?_⟩
        have fin : ∀ H', Same H4 H' → ∀ y10 y11 : Option V, Same G7 H' ∧ ∃ (y8 y9 y10' y11' : Option V), [some (V.ref a), some (.ref ca), some (.int cell), some (.ref r), some (.str ⟨#[kd]⟩), some (.int (n : Int)), some (.str (S t)), some (.str (S (letL kd n t))), some (.int (i : Int)), some (.str (S bt)), y10, y11] = [some (.ref a), some (.ref ca), some (.int cell), some (.ref r), some (.str ⟨#[kd]⟩), some (.int (n : Int)), some (.str (S t)), some (.str (S (letL kd n t))), y8, y9, y10', y11'] := fun H' sH y10 y11 => ⟨sm6.trans sH, _, _, _, _, rfl⟩
        refine ifB (fun hge => ?_) (fun _ => ?_)
        · refine ⟨_, rfl, _, rfl, rfl, ?_⟩
          refine ⟨_, rfl, _, rfl, _, _, rfl, rfl, .inl ⟨by decide, by decide⟩, _, _, rfl, rfl, r, _, _, _, rfl, rfl, SqL.of hR, gw, _, _, rfl, rfl, (by show (0 : Int) < 6; decide), (by show 2 ≤ sizeLine; decide), fun l5 n5 => ⟨l5, _, rfl, .inl (SqL.of upd_same), rfl, rfl, _, rfl, ?_⟩⟩
          have s7 := same_upd' (o := .lst [V.int 0, V.int 3]) n5
          refine ifB (fun hin => ?_) (fun _ => fin _ s7 _ _)
          refine ⟨_, rfl, _, rfl, ifN (fun hnb => ?_) (fun _ => fin _ s7 _ _)⟩
          have hbn : bt ≠ letL kd n t := fun y => of_decide_eq_false hnb (by rw [y])
          have ha : (letL kd n t).length - t.length ≤ x % (letL kd n t).length := by
            have h2 := of_decide_eq_true hge
            rw [em, S_len, S_len] at h2
            omega
          have hno : letM kd bt = none := by
            rw [ebt] at hbn ⊢
            exact bent_none hn1 hkd hto (by omega) (in03 hin) ha hbn
          refine ⟨_, rfl, _, rfl, kd, bt, rfl, hkd, bok, by omega, fun _ H6 s8 => ?_, fun n' t' e => by rw [hno] at e; cases e⟩
          exact ⟨rfl, _, rfl, ifN (fun h => absurd rfl (of_decide_eq_false h)) (fun _ => fin _ (s7.trans s8) _ _)⟩
        · refine ⟨_, rfl, _, rfl, _, _, rfl, rfl, .inl ⟨by decide, by decide⟩, _, _, rfl, rfl, r, _, _, _, rfl, rfl, SqL.of hR, gw, _, _, rfl, rfl, (by show (0 : Int) < 6; decide), (by show 2 ≤ sizeLine; decide), fun l5 n5 => ⟨l5, _, rfl, .inl (SqL.of upd_same), rfl, rfl, _, rfl, ?_⟩⟩
          have s7 := same_upd' (o := .lst [V.int 0, V.int 3]) n5
          refine ifB (fun hin => ?_) (fun _ => fin _ s7 _ _)
          exact ⟨_, rfl, _, rfl, ifB (fun h => by cases h) (fun _ => fin _ s7 _ _)⟩
      rintro σ H0 ⟨sm, y8, y9, y10, y11, rfl⟩
      exact ⟨sm.seq hcaG, _, _, _, _, _, _, _, _, _, _, rfl⟩
    · rintro σ H1 ⟨_, y2, y3, y4, y5, y6, y7, y8, y9, y10, y11, rfl⟩
      exact q _
  · obtain ⟨ms', hca⟩ : ∃ ms' : List Int, SqL K (upd (upd H c (.lst (ms.map V.int))) e0 (.lst [])) c (ms'.map V.int) := ⟨ms, hc1⟩
    refine ⟨_, rfl, c, rfl, ⟨_, hca⟩, ?_⟩
    refine for_list (K := K) (a := c) (xs := ms'.map V.int) (fun i σ H' => SqL K H' c (ms'.map V.int) ∧ ∃ y2 y3 y4 y5 y6 y7 y8 y9 y10 y11 : Option V, σ = [some (.ref a), some (.ref c), y2, y3, y4, y5, y6, y7, y8, y9, y10, y11]) ⟨hca, none, none, none, none, none, none, none, none, none, none, rfl⟩ (fun _ _ _ _ h => h.1) ?_ ?_
    · rintro i v σ H1 hi ⟨hca, y2, y3, y4, y5, y6, y7, y8, y9, y10, y11, rfl⟩
      obtain ⟨cell, _, rfl⟩ := getI hi
      refine ⟨_, rfl, cell, 60, rfl, by decide, fun G0 r ds hlen hdg sm0 nr hR => ?_⟩
      obtain ⟨u0, g0, b0⟩ := dgN hdg hlen (show 0 < 60 by decide)
      obtain ⟨u1, g1, b1⟩ := dgN hdg hlen (show 1 < 60 by decide)
      obtain ⟨u2, g2, b2⟩ := dgN hdg hlen (show 2 < 60 by decide)
      obtain ⟨u3, g3, b3⟩ := dgN hdg hlen (show 3 < 60 by decide)
      obtain ⟨u9, g9, b9⟩ := dgN hdg hlen (show 9 < 60 by decide)
      obtain ⟨kd, hkd, k1, kd2, hkd2, hkne, k2⟩ := kinds u0
      have L2q : ("qa" : Str).length = 2 := by decide +kernel
      have L2a : ("aq" : Str).length = 2 := by decide +kernel
      refine ⟨_, rfl, r, _, 0, _, rfl, rfl, SqL.of hR, g0, _, _, rfl, rfl, (by show (0 : Int) < 2; decide), _, _, kd, rfl, rfl, by omega, by omega, by rw [L2q]; omega, k1, ?_⟩
      obtain ⟨n, hn1, hn⟩ := numb (v := u2) b1
      refine ⟨_, rfl, r, _, 1, _, rfl, rfl, SqL.of hR, g1, _, _, rfl, rfl, _, rfl, r, _, 1, _, rfl, rfl, SqL.of hR, g1, _, _, rfl, rfl, .inr ⟨by decide, by decide⟩, _, _, rfl, rfl, (by show 4 ≤ sizeLine; decide), fun l1 n1 => ?_⟩
      have s1 := same_upd' (o := .lst [V.int ((u1 : Int) + 1), V.int ((u1 : Int) * 99 + 1), V.int 99999, V.int 1]) n1
      have h1 : upd G0 l1 (.lst [V.int ((u1 : Int) + 1), V.int ((u1 : Int) * 99 + 1), V.int 99999, V.int 1]) l1 = some (.lst [V.int ((u1 : Int) + 1), V.int ((u1 : Int) * 99 + 1), V.int 99999, V.int 1]) := upd_same
      have hR := s1 _ _ hR
      have sm1 := sm0.trans s1
      generalize upd G0 l1 (.lst [V.int ((u1 : Int) + 1), V.int ((u1 : Int) * 99 + 1), V.int 99999, V.int 1]) = G1 at *
      refine ⟨_, rfl, r, _, 2, _, rfl, rfl, SqL.of hR, g2, _, _, rfl, rfl, (by show (0 : Int) < 4; decide), l1, _, _, _, rfl, rfl, SqL.of h1, hn, ?_⟩
      refine ⟨⟨_, rfl⟩, _, rfl, r, _, 3, _, rfl, rfl, SqL.of hR, g3, _, _, rfl, rfl, (by show (0 : Int) < 31; decide), (u3 : Int) % 31, rfl, by omega, by omega, fun D nD => ?_⟩
      refine lc_range (lo := 0) (n := ((u3 : Int) % 31).toNat) (fun i H' => Same G1 H' ∧ ∃ cs : List Nat, cs.length = i ∧ OkL cs ∧ H' D = some (.lst ((cs.map fun c => S [c]).map V.str))) ⟨same_upd' nD, [], rfl, (fun _ h => by cases h), upd_same⟩ ?_ ?_
      · rintro i H' hi ⟨sm, cs, hcl, hco, hD⟩
        have hi : i < 31 := by omega
        have hR := sm _ _ hR
        obtain ⟨v, gv, bv⟩ := dgN hdg hlen (show 10 + i < 60 by omega)
        have ev : ((10 + i : Nat) : Int) = 10 + (0 + (i : Int)) := by omega
        rw [ev] at gv
        obtain ⟨c, hc⟩ : ∃ c, signL[v % 41]? = some c := ⟨_, List.getElem?_eq_getElem (by rw [sign_len]; exact Nat.mod_lt _ (by decide))⟩
        refine ⟨rfl, ?_⟩
        refine ⟨rfl, _, rfl, _, rfl, _, _, rfl, rfl, r, _, _, _, rfl, rfl, SqL.of hR, gv, _, _, rfl, rfl, (by show (0 : Int) < 41; decide), S signL, (v : Int) % 41, c, rfl, rfl, by omega, by omega, by rw [S_len, sign_len]; omega, ?_, ?_⟩
        · have e : ((v : Int) % 41).toNat = v % 41 := by omega
          rw [e]
          have : (S signL).cps.toList[v % 41]? = some c := hc
          simpa using this
        refine ⟨_, hD, ?_, same_of sm nD, cs ++ [c], ?_, ?_, ?_⟩
        · rw [List.length_map, List.length_map, hcl]
          exact small1000 (by omega)
        · rw [List.length_append, hcl]; rfl
        · intro y hy
          rcases List.mem_append.mp hy with z | z
          · exact hco y z
          · rw [List.mem_singleton.mp z]
            exact sign_ok c (List.mem_of_getElem? hc)
        · rw [upd_same, List.map_append, List.map_append]
          rfl
      rintro G2 ⟨s2, cs, hcl, hco, hD⟩
      have hcl : cs.length ≤ 30 := by omega
      refine ⟨_, D, cs.map fun c => S [c], rfl, rfl, .inl (SqL.of hD), ?_, ?_⟩
      · skip
        rw [sumOne, List.length_map, n_S, S_len]
        show cs.length + cs.length * 0 ≤ _
        omega
      have ej : Txt.join ("" : Str) (cs.map fun c => S [c]) = S cs := by
        have e := join_S [] (cs.map fun c => [c])
        rw [List.map_map] at e
        rw [n_S]
        refine e.trans ?_
        rw [joinOne]
      rw [ej]
      have hR := s2 _ _ hR
      have sm2 := sm1.trans s2
      refine ⟨_, rfl, (by show 2 ≤ sizeLine; decide), fun l3 n3 => ?_⟩
      have s3 := same_upd' (o := .lst [V.int 1, V.int 280]) n3
      have h3 : upd G2 l3 (.lst [V.int 1, V.int 280]) l3 = some (.lst [V.int 1, V.int 280]) := upd_same
      have hR := s3 _ _ hR
      have sm3 := sm2.trans s3
      generalize upd G2 l3 (.lst [V.int 1, V.int 280]) = G3 at *
      refine ⟨_, rfl, r, _, 9, _, rfl, rfl, SqL.of hR, g9, _, _, rfl, rfl, (by show (0 : Int) < 8; decide), rfl, .inr ⟨_, rfl, ?_⟩⟩
      obtain ⟨m, m1, m2, hm⟩ : ∃ m : Nat, 1 ≤ m ∧ m ≤ 280 ∧ atI [V.int 1, V.int 280] (if decide (V.int ((u9 : Int) % 8) = V.int 7) = true then 1 else 0) = some (.int (m : Int)) := by
        cases decide (V.int ((u9 : Int) % 8) = V.int 7)
        · exact ⟨1, by decide, by decide, rfl⟩
        · exact ⟨280, by decide, by decide, rfl⟩
      have hml : m * cs.length ≤ 8400 := Nat.le_trans (Nat.mul_le_mul m2 hcl) (by decide)
      refine ⟨l3, _, _, _, rfl, rfl, SqL.of h3, hm, S cs, m, rfl, rfl, m1, by omega, szl (by rw [S_len]; omega), ?_⟩
      obtain ⟨t, et⟩ : ∃ t, t = (List.replicate m cs).flatten := ⟨_, rfl⟩
      have htt : timesS (S cs) m = S t := by rw [et]; rfl
      rw [htt]
      have hto : OkL t := by rw [et]; exact okRep hco m
      have htl : t.length ≤ 8400 := by rw [et, lenRep]; exact hml
      clear et htt hml hm h3 hD hcl hco ej
      have hL := numL5 hn1
      have hC := chk_lt (kd :: numL n ++ 32 :: t)
      have hcL : (numL (chk (kd :: numL n ++ 32 :: t))).length ≤ 5 := numL5 (by omega)
      have a2 : (⟨#[kd]⟩ : Str) ++ S (numL n) = S (kd :: numL n) := S_cat [kd] _
      have ln : ∀ {x y : List Nat}, x.length ≤ 30000 → y.length ≤ 30000 → (S x).length + (S y).length ≤ sizeLine := fun h h' => szl (by rw [S_len, S_len]; omega)
      have h13 : (kd :: numL n).length ≤ 10 := by rw [List.length_cons]; omega
      have hkc : kd < 128 := by rcases hkd with z | z <;> rw [z] <;> decide
      have okh : OkL (kd :: numL n) := fun c hc => by
        rcases List.mem_cons.mp hc with z | z
        · rw [z]; exact hkc
        · exact okNum n c z
      refine ⟨_, rfl, _, rfl, _, rfl, num_small2 hn1, ?_⟩
      rw [numS]
      refine ⟨_, _, rfl, rfl, ln (x := [kd]) (by simp) (by omega), ?_⟩
      rw [a2]
      refine ⟨_, _, rfl, rfl, ?_, ?_⟩
      · rw [sp_S]; exact ln (by omega) (by simp)
      rw [sp_S, S_cat]
      refine ⟨_, rfl, _, rfl, _, rfl, num_small2 hn1, ?_⟩
      rw [numS]
      refine ⟨_, _, rfl, rfl, ln (x := [kd]) (by simp) (by omega), ?_⟩
      rw [a2]
      refine ⟨_, rfl, kd :: numL n, t, rfl, okh, hto, by omega, by omega, ?_⟩
      refine ⟨_, rfl, num_small2 (n := chk (kd :: numL n ++ 32 :: t)) (by omega), ?_⟩
      rw [numS]
      refine ⟨_, _, rfl, rfl, ln (by rw [List.length_append, List.length_singleton]; omega) (by omega), ?_⟩
      rw [S_cat]
      refine ⟨_, _, rfl, rfl, ?_, ?_⟩
      · exact ln (by simp only [List.length_append, List.length_singleton]; omega) (by simp)
      rw [S_cat]
      refine ⟨_, rfl, _, _, rfl, rfl, ln (by simp only [List.length_append, List.length_singleton]; omega) (by omega), ?_⟩
      rw [S_cat]
      have elet : kd :: numL n ++ [32] ++ numL (chk (kd :: numL n ++ 32 :: t)) ++ [32] ++ t = letL kd n t := by
        unfold letL
        simp only [List.append_assoc, List.cons_append, List.nil_append, List.singleton_append]
      rw [elet]
      obtain ⟨ll1, ll2⟩ := letL_len (kd := kd) (t := t) hn1
      have lok := letL_ok (n := n) hkd hto
      have lself := letM_self (kd := kd) (t := t) hn1
      refine ⟨_, rfl, _, rfl, _, rfl, kd, n, t, rfl, hkc, hn1, hto, by omega, fun G4 s4 => ?_⟩
      have hR := s4 _ _ hR
      have sm4 := sm3.trans s4
      refine ⟨_, rfl, rfl, _, rfl, ifN (fun h => absurd rfl (of_decide_eq_false h)) (fun _ => ?_)⟩
      refine ⟨_, rfl, _, rfl, kd, letL kd n t, rfl, hkd, lok, by omega, (fun z => by rw [lself] at z; cases z), fun n' t' e G5 p5 s5 np5 hp5 => ?_⟩
      rw [lself] at e
      obtain ⟨rfl, rfl⟩ : n = n' ∧ t = t' := by
        have := Option.some.inj e
        exact ⟨congrArg Prod.fst this, congrArg Prod.snd this⟩
      clear e
      have hR := s5 _ _ hR
      have sm5 := sm4.trans s5
      refine ⟨_, rfl, _, rfl, (by show 2 ≤ sizeLine; decide), fun p6 np6 => ?_⟩
      have s6 := same_upd' (o := .tup [V.int (n : Int), V.str (S t)]) np6
      have h6 : upd G5 p6 (.tup [V.int (n : Int), V.str (S t)]) p6 = some (.tup [V.int (n : Int), V.str (S t)]) := upd_same
      have hR := s6 _ _ hR
      have hp5 := s6 _ _ hp5
      have sm6 := sm5.trans s6
      generalize upd G5 p6 (.tup [V.int (n : Int), V.str (S t)]) = G6 at *
      have plt : PyData.plain (.tuple [.int (n : Int), .str (S t)]) = true := rfl
      refine ⟨.tuple [.int (n : Int), .str (S t)], .tuple [.int (n : Int), .str (S t)], .tup (SqT.of hp5) (.cons (.int _) (.cons (.str _) .nil)), .tup (SqT.of h6) (.cons (.int _) (.cons (.str _) .nil)), plt, plt, (by show 0 + 1 ≤ 60; decide), _, rfl, ?_⟩
      rw [PySem.SeqAt.eqv_refl_plain _ plt]
      refine ifN (fun h => by cases h) (fun _ => ?_)
      refine ⟨_, rfl, r, _, 0, _, rfl, rfl, SqL.of hR, g0, _, _, rfl, rfl, (by show (0 : Int) < 2; decide), _, _, kd2, rfl, rfl, by omega, by omega, by rw [L2a]; omega, k2, ?_⟩
      have lnone : letM kd2 (letL kd n t) = none := letM_other (Ne.symm hkne)
      refine ⟨_, rfl, kd2, letL kd n t, rfl, hkd2, lok, by omega, fun _ G7 s7 => ?_, fun n' t' e => by rw [lnone] at e; cases e⟩
      have hR := s7 _ _ hR
      have sm7 := sm6.trans s7
      refine ⟨rfl, _, rfl, ifN (fun h => absurd rfl (of_decide_eq_false h)) (fun _ => ?_)⟩
      have hlne : letL kd n t ≠ [] := by unfold letL; exact List.cons_ne_nil _ _
      refine ⟨4, rfl, by decide, by decide, ?_⟩
      have hcaG := sm7.seq hca
      clear s1 s2 s3 s4 s5 s6 s7 sm0 sm1 sm2 sm3 sm4 sm5 sm6 h1 hp5 h6
      refine for_range (lo := 0) (n := ((4 : Int)).toNat) (fun i σ H' => Same G7 H' ∧ ∃ (y8 y9 y10 y11 : Option V), σ = [some (.ref a), some (.ref c), some (.int cell), some (.ref r), some (.str ⟨#[kd]⟩), some (.int (n : Int)), some (.str (S t)), some (.str (S (letL kd n t))), y8, y9, y10, y11]) ⟨Same.refl _, _, _, _, _, rfl⟩ ?_ ?_
      · rintro i σ H0 hi ⟨sm, y8, y9, y10, y11, rfl⟩
        have hi : i < 4 := hi
        have hR := sm _ _ hR
        obtain ⟨w, x, s, z, hcut, w1, x1, s1, z1, gw, gx⟩ := cut_four hdg hlen hi
        have c0 : (0 : Int) + (i : Int) = (i : Int) := by omega
        refine ⟨_, rfl, _, rfl, _, rfl, _, _, rfl, rfl, .inl ⟨by decide, by decide⟩, _, _, rfl, rfl, _, rfl, _, rfl, _, _, rfl, rfl, .inl ⟨by decide, by decide⟩, _, _, rfl, rfl, _, rfl, r, _, rfl, SqL.of hR, fun pc npc => ?_⟩
        rw [c0, hcut]
        have s2 := same_upd' (o := .lst [V.int w, V.int x, V.int s, V.int z]) npc
        have hpc : upd H0 pc (.lst [V.int w, V.int x, V.int s, V.int z]) pc = some (.lst [V.int w, V.int x, V.int s, V.int z]) := upd_same
        have hR := s2 _ _ hR
        have sm2 := sm.trans s2
        generalize upd H0 pc (.lst [V.int w, V.int x, V.int s, V.int z]) = H1 at *
        refine ⟨pc, letL kd n t, w, x, s, z, rfl, hpc, w1, x1, s1, z1, hlne, by omega, fun H2 s3 => ?_⟩
        have hR := s3 _ _ hR
        have sm3 := sm2.trans s3
        have bok := bent_ok w x s z lok
        have bln := bent_len (l := letL kd n t) w x s z
        obtain ⟨bt, ebt⟩ : ∃ bt, bt = bentM (letL kd n t) w x s z := ⟨_, rfl⟩
        rw [← ebt] at bok bln ⊢
        refine ⟨(by show 2 ≤ sizeLine; decide), fun l4 n4 => ?_⟩
        have s4 := same_upd' (o := .lst [V.str "q", V.str "a"]) n4
        have h4 : upd H2 l4 (.lst [V.str "q", V.str "a"]) l4 = some (.lst [V.str "q", V.str "a"]) := upd_same
        have hR := s4 _ _ hR
        have sm4 := sm3.trans s4
        generalize upd H2 l4 (.lst [V.str "q", V.str "a"]) = H3 at *
        refine ⟨l4, rfl, ⟨_, SqL.of h4⟩, ?_⟩
        refine for_list (K := K) (a := l4) (xs := [V.str "q", V.str "a"]) (fun j σ H' => Same H3 H' ∧ ∃ (y10 y11 : Option V), σ = [some (.ref a), some (.ref c), some (.int cell), some (.ref r), some (.str ⟨#[kd]⟩), some (.int (n : Int)), some (.str (S t)), some (.str (S (letL kd n t))), some (.int (i : Int)), some (.str (S bt)), y10, y11]) ⟨Same.refl _, _, _, rfl⟩ (fun j σ H' _ h => SqL.of (h.1 _ _ h4)) ?_ ?_
        · rintro j v σ H4 hv ⟨sm5, y10, y11, rfl⟩
          obtain ⟨k3, rfl, hk3⟩ : ∃ k3, v = V.str (S [k3]) ∧ KdOk k3 := by
            have hv2 : v ∈ [V.str "q", V.str "a"] := List.mem_of_getElem? hv
            rcases List.mem_cons.mp hv2 with y | y
            · exact ⟨113, by rw [y, q_S], .inl rfl⟩
            · exact ⟨97, by rw [List.mem_singleton.mp y, a_S], .inr rfl⟩
          cases eb : letM k3 bt with
          | none =>
            refine ⟨_, rfl, _, rfl, k3, bt, rfl, hk3, bok, by omega, fun _ H5 s6 => ?_, fun n' t' e => by rw [eb] at e; cases e⟩
            refine ⟨_, rfl, _, rfl, k3, bt, rfl, hk3, bok, by omega, fun _ H6 s7 => ?_, fun n' t' e => by rw [eb] at e; cases e⟩
            refine ⟨.str "none", .str "none", .str _, .str _, rfl, rfl, (by show 0 ≤ 60; decide), _, rfl, ?_⟩
            rw [PySem.SeqAt.eqv_refl_plain _ rfl]
            refine ifN (fun h => by cases h) (fun _ => ?_)
            exact ⟨(sm5.trans s6).trans s7, _, _, rfl⟩
          | some nt =>
            obtain ⟨n', t'⟩ := nt
            refine ⟨_, rfl, _, rfl, k3, bt, rfl, hk3, bok, by omega, (fun e => by rw [eb] at e; cases e), fun n2 t2 e H5 p8 s6 np8 hp8 => ?_⟩
            refine ⟨_, rfl, _, rfl, k3, bt, rfl, hk3, bok, by omega, (fun e => by rw [eb] at e; cases e), fun n3 t3 e3 H6 p9 s7 np9 hp9 => ?_⟩
            have hp8 := s7 _ _ hp8
            rw [e] at e3
            have e4 := Option.some.inj e3
            have e5 : n2 = n3 := congrArg Prod.fst e4
            have e6 : t2 = t3 := congrArg Prod.snd e4
            rw [← e5, ← e6] at hp9
            have plt : PyData.plain (.tuple [.int (n2 : Int), .str (S t2)]) = true := rfl
            refine ⟨.tuple [.int (n2 : Int), .str (S t2)], .tuple [.int (n2 : Int), .str (S t2)], .tup (SqT.of hp8) (.cons (.int _) (.cons (.str _) .nil)), .tup (SqT.of hp9) (.cons (.int _) (.cons (.str _) .nil)), plt, plt, (by show 0 + 1 ≤ 60; decide), _, rfl, ?_⟩
            rw [PySem.SeqAt.eqv_refl_plain _ plt]
            refine ifN (fun h => by cases h) (fun _ => ?_)
            exact ⟨(sm5.trans s6).trans s7, _, _, rfl⟩
        rintro σ H4 ⟨sm5, y10, y11, rfl⟩
        have hR := sm5 _ _ hR
        have sm6 := sm4.trans sm5
        have hll : (letL kd n t).length ≤ 10000 := by omega
        have hl0 : 0 < (letL kd n t).length := List.length_pos_iff.mpr hlne
        have em : (x : Int) % ((S (letL kd n t)).length : Int) = ((x % (letL kd n t).length : Nat) : Int) := by rw [S_len]; rfl
        refine ⟨_, rfl, _, rfl, _, _, rfl, rfl, .inl ⟨by decide, by decide⟩, _, _, rfl, rfl, r, _, _, _, rfl, rfl, SqL.of hR, gx, _, rfl, _, rfl, szl (by rw [S_len]; omega), _, _, rfl, rfl, (by show (0 : Int) < ((S (letL kd n t)).length : Int); rw [S_len]; omega), ?_⟩
        refine ⟨_, rfl, _, rfl, szl (by rw [S_len]; omega), _, rfl, _, rfl, szl (by rw [S_len]; omega), _, _, rfl, rfl, _, _, rfl, rfl, _, rfl, ?_⟩
        have fin : ∀ H', Same H4 H' → ∀ y10 y11 : Option V, Same G7 H' ∧ ∃ (y8 y9 y10' y11' : Option V), [some (V.ref a), some (.ref c), some (.int cell), some (.ref r), some (.str ⟨#[kd]⟩), some (.int (n : Int)), some (.str (S t)), some (.str (S (letL kd n t))), some (.int (i : Int)), some (.str (S bt)), y10, y11] = [some (.ref a), some (.ref c), some (.int cell), some (.ref r), some (.str ⟨#[kd]⟩), some (.int (n : Int)), some (.str (S t)), some (.str (S (letL kd n t))), y8, y9, y10', y11'] := fun H' sH y10 y11 => ⟨sm6.trans sH, _, _, _, _, rfl⟩
        refine ifB (fun hge => ?_) (fun _ => ?_)
        · refine ⟨_, rfl, _, rfl, rfl, ?_⟩
          refine ⟨_, rfl, _, rfl, _, _, rfl, rfl, .inl ⟨by decide, by decide⟩, _, _, rfl, rfl, r, _, _, _, rfl, rfl, SqL.of hR, gw, _, _, rfl, rfl, (by show (0 : Int) < 6; decide), (by show 2 ≤ sizeLine; decide), fun l5 n5 => ⟨l5, _, rfl, .inl (SqL.of upd_same), rfl, rfl, _, rfl, ?_⟩⟩
          have s7 := same_upd' (o := .lst [V.int 0, V.int 3]) n5
          refine ifB (fun hin => ?_) (fun _ => fin _ s7 _ _)
          refine ⟨_, rfl, _, rfl, ifN (fun hnb => ?_) (fun _ => fin _ s7 _ _)⟩
          have hbn : bt ≠ letL kd n t := fun y => of_decide_eq_false hnb (by rw [y])
          have ha : (letL kd n t).length - t.length ≤ x % (letL kd n t).length := by
            have h2 := of_decide_eq_true hge
            rw [em, S_len, S_len] at h2
            omega
          have hno : letM kd bt = none := by
            rw [ebt] at hbn ⊢
            exact bent_none hn1 hkd hto (by omega) (in03 hin) ha hbn
          refine ⟨_, rfl, _, rfl, kd, bt, rfl, hkd, bok, by omega, fun _ H6 s8 => ?_, fun n' t' e => by rw [hno] at e; cases e⟩
          exact ⟨rfl, _, rfl, ifN (fun h => absurd rfl (of_decide_eq_false h)) (fun _ => fin _ (s7.trans s8) _ _)⟩
        · refine ⟨_, rfl, _, rfl, _, _, rfl, rfl, .inl ⟨by decide, by decide⟩, _, _, rfl, rfl, r, _, _, _, rfl, rfl, SqL.of hR, gw, _, _, rfl, rfl, (by show (0 : Int) < 6; decide), (by show 2 ≤ sizeLine; decide), fun l5 n5 => ⟨l5, _, rfl, .inl (SqL.of upd_same), rfl, rfl, _, rfl, ?_⟩⟩
          have s7 := same_upd' (o := .lst [V.int 0, V.int 3]) n5
          refine ifB (fun hin => ?_) (fun _ => fin _ s7 _ _)
          exact ⟨_, rfl, _, rfl, ifB (fun h => by cases h) (fun _ => fin _ s7 _ _)⟩
      rintro σ H0 ⟨sm, y8, y9, y10, y11, rfl⟩
      exact ⟨sm.seq hcaG, _, _, _, _, _, _, _, _, _, _, rfl⟩
    · rintro σ H1 ⟨_, y2, y3, y4, y5, y6, y7, y8, y9, y10, y11, rfl⟩
      exact q _
end
end Bh

namespace Bh
open PySem PySem.Spec PyProof.Rows L2 PySem.W
theorem all_mk {l : PySem.W.OpenLaw} {w : World} {K : PySem.W.Frag} {h : Heap} {mg : Str → Option Value} {fa : Addr} (X : K.In h) (G : h.Ns mainGlobals mg) (hfa : mg "law" = some (.ref fa)) (c : SaysH faL fnL tsL xlL 11 w K)
    : ∃ fd : FuncData, (∀ (s : Shared) (v : Value), BindsTo s fd ⟨[v], []⟩ [("_law_script", v)]) ∧ ∀ base : Heap, K.In base → base.Ns mainGlobals mg → FnOk l.prog w K mg base CX0 4 fa fd ["_law_script"] (spLaw K) := by
  have e := hfa.symm.trans (He.glo_ok X G (c.fact 28 (f := .glo "law") rfl))
  cases e
  have T : Lx K mg (He.ga K "NoLetter") (He.ga K "BoardError") := {
    g_NUMBER_FIGURES := He.int_ok X G (c.fact 0 (f := .int "NUMBER_FIGURES" 5) rfl)
    g_CHECK_FIGURES := He.int_ok X G (c.fact 1 (f := .int "CHECK_FIGURES" 4) rfl)
    g_CHECK_SPAN := He.int_ok X G (c.fact 2 (f := .int "CHECK_SPAN" 9973) rfl)
    g_KINDS := ⟨_, (He.glo_ok X G (c.fact 3 (f := .glo "KINDS") rfl)), fun H => He.tupB_ok (vs := [.str "q", .str "a"]) (c.x 0 rfl) H⟩
    z_len := (He.free_ok X G (c.fact 4 (f := .free "len") rfl))
    z_range := (He.free_ok X G (c.fact 5 (f := .free "range") rfl))
    z_int := (He.free_ok X G (c.fact 6 (f := .free "int") rfl))
    z_str := (He.free_ok X G (c.fact 7 (f := .free "str") rfl))
    z_ord := (He.free_ok X G (c.fact 8 (f := .free "ord") rfl))
    z_sum := (He.free_ok X G (c.fact 9 (f := .free "sum") rfl))
    z_enumerate := (He.free_ok X G (c.fact 10 (f := .free "enumerate") rfl))
    z_isinstance := (He.free_ok X G (c.fact 11 (f := .free "isinstance") rfl))
    gY := (He.glo_ok X G (c.fact 12 (f := .glo "NoLetter") rfl))
    kY := He.keep_ok (c.fact 13 (f := .keep "NoLetter") rfl)
    xY := (He.exc_ok (c.fact 14 (f := .exc "NoLetter") rfl)).1
    bY := of_decide_eq_true (c.x 1 rfl)
    tY := of_decide_eq_true (c.x 2 rfl)
    gE := (He.glo_ok X G (c.fact 15 (f := .glo "BoardError") rfl))
    exY := ⟨(He.eqO_ok (c.x 3 rfl)), (He.eqO_ok (c.x 4 rfl)), (of_decide_eq_true (c.x 1 rfl)), (c.x 5 rfl), (He.eqO_ok (c.x 6 rfl)), (He.eqO_ok (c.x 7 rfl)), (of_decide_eq_true (c.x 8 rfl)), (of_decide_eq_true (c.x 9 rfl))⟩
    kYY := of_decide_eq_true (c.x 10 rfl)
    eY := He.exm_ok (c.fact 16 (f := .exm "NoLetter" "BoardError" true) rfl) }
  obtain ⟨fd_checkof, D_checkof⟩ := c.def_ 0 (d := d_checkof) rfl
  have F_checkof : Fun K "check_of" "check_of" sFchk _ fd_checkof := He5.fun_of D_checkof
  have b_checkof := F_checkof.binds (ps := ["kind", "number", "text"]) fun _ _ _ _ _ _ us hl => match us, hl with | [_, _, _], _ => rfl
  obtain ⟨fd_letterof, D_letterof⟩ := c.def_ 1 (d := d_letterof) rfl
  have F_letterof : Fun K "letter_of" "letter_of" sFlet _ fd_letterof := He5.fun_of D_letterof
  have b_letterof := F_letterof.binds (ps := ["kind", "number", "text"]) fun _ _ _ _ _ _ us hl => match us, hl with | [_, _, _], _ => rfl
  obtain ⟨fd_lawsigns, D_lawsigns⟩ := c.def_ 2 (d := d_lawsigns) rfl
  have F_lawsigns : Fun K "_law_signs" "_law_signs" sLsgn _ fd_lawsigns := He5.fun_of D_lawsigns
  have b_lawsigns := F_lawsigns.binds (ps := []) fun _ _ _ _ _ _ us hl => match us, hl with | [], _ => rfl
  obtain ⟨fd_lawbent, D_lawbent⟩ := c.def_ 3 (d := d_lawbent) rfl
  have F_lawbent : Fun K "_law_bent" "_law_bent" sLbnt _ fd_lawbent := He5.fun_of D_lawbent
  have b_lawbent := F_lawbent.binds (ps := ["_law_letter", "_law_row"]) fun _ _ _ _ _ _ us hl => match us, hl with | [_, _], _ => rfl
  obtain ⟨fd_lawcheck, D_lawcheck⟩ := c.def_ 4 (d := d_lawcheck) rfl
  have F_lawcheck : Fun K "_law_check" "_law_check" sLchk _ fd_lawcheck := He5.fun_of D_lawcheck
  have b_lawcheck := F_lawcheck.binds (ps := ["_law_head", "_law_text"]) fun _ _ _ _ _ _ us hl => match us, hl with | [_, _], _ => rfl
  obtain ⟨fd_lawdigits, D_lawdigits⟩ := c.def_ 5 (d := d_lawdigits) rfl
  have F_lawdigits : Fun K "_law_digits" "_law_digits" sDig _ fd_lawdigits := He5.fun_of D_lawdigits
  have b_lawdigits := F_lawdigits.binds (ps := ["_law_cell_here", "_law_many"]) fun _ _ _ _ _ _ us hl => match us, hl with | [_, _], _ => rfl
  obtain ⟨fd_lawnumber, D_lawnumber⟩ := c.def_ 6 (d := d_lawnumber) rfl
  have F_lawnumber : Fun K "_law_number" "_law_number" sLnum _ fd_lawnumber := He5.fun_of D_lawnumber
  have b_lawnumber := F_lawnumber.binds (ps := ["_law_text"]) fun _ _ _ _ _ _ us hl => match us, hl with | [_], _ => rfl
  obtain ⟨fd_lawdue, D_lawdue⟩ := c.def_ 7 (d := d_lawdue) rfl
  have F_lawdue : Fun K "_law_due" "_law_due" sLdue _ fd_lawdue := He5.fun_of D_lawdue
  have b_lawdue := F_lawdue.binds (ps := ["_law_kind", "_law_letter"]) fun _ _ _ _ _ _ us hl => match us, hl with | [_, _], _ => rfl
  obtain ⟨fd_figured, D_figured⟩ := c.def_ 8 (d := d_figured) rfl
  have F_figured : Fun K "figured" "figured" sFfig _ fd_figured := He5.fun_of D_figured
  have b_figured := F_figured.binds (ps := ["part", "most"]) fun _ _ _ _ _ _ us hl => match us, hl with | [_, _], _ => rfl
  obtain ⟨fd_opened, D_opened⟩ := c.def_ 9 (d := d_opened) rfl
  have F_opened : Fun K "opened" "opened" sFopn _ fd_opened := He5.fun_of D_opened
  have b_opened := F_opened.binds (ps := ["kind", "letter"]) fun _ _ _ _ _ _ us hl => match us, hl with | [_, _], _ => rfl
  obtain ⟨fd_lawtold, D_lawtold⟩ := c.def_ 10 (d := d_lawtold) rfl
  have F_lawtold : Fun K "_law_told" "_law_told" sLtold _ fd_lawtold := He5.fun_of D_lawtold
  have b_lawtold := F_lawtold.binds (ps := ["_law_kind", "_law_letter"]) fun _ _ _ _ _ _ us hl => match us, hl with | [_, _], _ => rfl
  obtain ⟨fd_law, D_law⟩ := c.def_ 11 (d := d_law) rfl
  have F_law : Fun K "law" "law" sLaw _ fd_law := He5.fun_of D_law
  refine ⟨fd_law, fun s v => (FunD.bindsA (ps := ["_law_script"]) D_law fun _ _ _ _ _ _ us hl => match us, hl with | [_], _ => rfl) s [v] rfl, fun base _ _ => ?_⟩
  have X_F_chk : CalF l.prog w K mg base 1 "check_of" ["kind", "number", "text"] (spChk) _ _ := ⟨(He.glo_ok X G (c.fact 17 (f := .glo "check_of") rfl)), F_checkof.kp, b_checkof, ok_Fchk F_checkof T⟩
  have X_F_let : CalF l.prog w K mg base 2 "letter_of" ["kind", "number", "text"] (spLet) _ _ := ⟨(He.glo_ok X G (c.fact 18 (f := .glo "letter_of") rfl)), F_letterof.kp, b_letterof, ok_Flet F_letterof T X_F_chk⟩
  have X_L_sgn : CalF l.prog w K mg base 1 "_law_signs" [] (spSg) _ _ := ⟨(He.glo_ok X G (c.fact 19 (f := .glo "_law_signs") rfl)), F_lawsigns.kp, b_lawsigns, ok_Lsgn F_lawsigns T⟩
  have X_L_bnt : CalF l.prog w K mg base 2 "_law_bent" ["_law_letter", "_law_row"] (spBent) _ _ := ⟨(He.glo_ok X G (c.fact 20 (f := .glo "_law_bent") rfl)), F_lawbent.kp, b_lawbent, ok_Lbnt F_lawbent T X_L_sgn⟩
  have X_L_chk : CalF l.prog w K mg base 1 "_law_check" ["_law_head", "_law_text"] (spCk) _ _ := ⟨(He.glo_ok X G (c.fact 21 (f := .glo "_law_check") rfl)), F_lawcheck.kp, b_lawcheck, ok_Lchk F_lawcheck T⟩
  have X_L_dig : CalF l.prog w K mg base 1 "_law_digits" ["_law_cell_here", "_law_many"] spDig _ _ := ⟨(He.glo_ok X G (c.fact 22 (f := .glo "_law_digits") rfl)), F_lawdigits.kp, b_lawdigits, ok_Ldig F_lawdigits (He.free_ok X G (c.fact 5 (f := .free "range") rfl))⟩
  have X_L_num : CalF l.prog w K mg base 1 "_law_number" ["_law_text"] (spNu) _ _ := ⟨(He.glo_ok X G (c.fact 23 (f := .glo "_law_number") rfl)), F_lawnumber.kp, b_lawnumber, ok_Lnum F_lawnumber T⟩
  have X_L_due : CalF l.prog w K mg base 2 "_law_due" ["_law_kind", "_law_letter"] (spDue) _ _ := ⟨(He.glo_ok X G (c.fact 24 (f := .glo "_law_due") rfl)), F_lawdue.kp, b_lawdue, ok_Ldue F_lawdue T X_L_chk X_L_num⟩
  have X_F_fig : CalF l.prog w K mg base 1 "figured" ["part", "most"] (spFig) _ _ := ⟨(He.glo_ok X G (c.fact 25 (f := .glo "figured") rfl)), F_figured.kp, b_figured, ok_Ffig F_figured T⟩
  have Y_F_opn : FnOk l.prog w K mg base (L2.CX l.prog w) 2 _ _ ["kind", "letter"] (spOpen (He.ga K "NoLetter")) := ok_Fopn F_opened T X_F_chk X_F_fig
  have X_L_told : CalF l.prog w K mg base 3 "_law_told" ["_law_kind", "_law_letter"] (spDue) _ _ := ⟨(He.glo_ok X G (c.fact 27 (f := .glo "_law_told") rfl)), F_lawtold.kp, b_lawtold, ok_Ltold F_lawtold T (He.glo_ok X G (c.fact 26 (f := .glo "opened") rfl)) F_opened.kp b_opened Y_F_opn⟩
  exact ok_Llaw F_law T X_F_let X_L_bnt X_L_chk X_L_dig X_L_due X_L_sgn X_L_told
end Bh
open PySem PySem.W PySem.Calls PyProof.Rows
set_option maxRecDepth 100000 in
set_option maxHeartbeats 0 in
theorem PySem.Challenge.cw_boardheld_k22_letters_holds : PySem.Challenge.rw_boardheld_k22_letters.Holds := by
  w_on; o_law
  refine HandSHeadRun.head_any (r := Bh.RR) (q := Bh.qV) (H := Bh.hkH) (ob := Bh.obL) (M := 10000) (loose := Bh.looseL) (d := HandSHeadRun.topDef Bh.RR.prog 22) (kwd := []) Bh.obL_eq
    (by kernel_rfl) (fun s => by kernel_rfl) Bh.run (by kernel_rfl) (by kernel_rfl) (by kernel_rfl) (by rfl) (by first | assumption | decide +kernel) (by decide +kernel) ⟨rfl, rfl, rfl, rfl, rfl, by decide +kernel⟩ ?hw ?hc
  case hw => w_witness2
  case hc =>
    refine L2.walk_ofE (l := PySem.Challenge.rw_boardheld_k22_letters) (n := 63) (k := 4) (x := "_law_script") (CX := L2.CX0) rfl (by decide) (by kernel_rfl) ⟨rfl, by decide, by decide⟩ ?F (fun _ _ _ _ z => z)
    intro w mg fa h Y G hmg0
    obtain ⟨K, KX, c⟩ := Y
    have hmg : mg ("law" : PySem.Str) = some (.ref fa) := by
      have e : (HandSHeadRun.topDef Bh.RR.prog 22).name = ("law" : PySem.Str) := by kernel_rfl
      rw [← e]
      exact hmg0
    obtain ⟨fd, hb, hF⟩ := Bh.all_mk (l := PySem.Challenge.rw_boardheld_k22_letters) (w := w) KX G hmg c
    exact ⟨K, fd, Bh.spLaw K, KX, hb, fun H a ns hl _ hS => ⟨a, ns, rfl, hS, hl, fun _ => rfl⟩, hF⟩

