import PyProof.Rows.All
import Wide.All
import OpenK.AllK
import Wide.FinOn
import HandS.ForMost
import HandS.IsInst
import HandS.ForExc
import HandS.CallLocal
import HandS.More
import PySem.Challenge.RW_boardheld_k34_watches_set
import HandS.HeadEnd
import HandS.HeadHook3
import HandS.HeadNt
import HandS.Head2
import KE.BitLaws
import HandS.ExcOwn
import HandS.Walk
import HandS.Conv
import HandS.ExcIs
import KE.DataFind
set_option Elab.async false
set_option linter.all false
set_option maxRecDepth 100000
set_option maxHeartbeats 4000000
/-! What the top has written, read off its run; the head. -/
namespace Bh
open PySem PySem.Spec PyProof.Rows L2 PySem.W
def topR (i : Nat) : Stmt := PySem.Challenge.pw_boardheld_k34_watches_set.main.body.getD i (.Pass ⟨0, 0, 0, 0⟩)
/-- a fragment told by addresses, handed on whole -/
def gath {α : Type} (g : Addr → Option Obj) : List Addr → (PySem.W.Frag → α) → α
  | [], k => k []
  | a :: r, k => match g a with
    | some o => gath g r fun K => k ((a, o) :: K)
    | none => gath g r k
theorem gath_eq {α : Type} (g : Addr → Option Obj) : ∀ (as : List Addr) (k : PySem.W.Frag → α), gath g as k = k (He.frG g as)
  | [], k => rfl
  | a :: r, k => by
    unfold gath He.frG
    rw [List.filterMap_cons]
    cases e : g a with
    | none => exact gath_eq g r k
    | some o => exact gath_eq g r _
abbrev AlH : Type := He.AlT × List Bool
def obsH (fa : List He.Fa) (fn : List He.DefD) (ts : List He.Tab) (xl : PySem.W.Frag → List Bool) (K : PySem.W.Frag) : AlH := (He.obsT fa fn ts K, xl K)
def SaysH (fa : List He.Fa) (fn : List He.DefD) (ts : List He.Tab) (xl : PySem.W.Frag → List Bool) (nx : Nat) (w : World) (K : PySem.W.Frag) : Prop := obsH fa fn ts xl K = (He.valT fn ts w, List.replicate nx true)
def hookH (as : List Addr) (fa : List He.Fa) (fn : List He.DefD) (ts : List He.Tab) (xl : PySem.W.Frag → List Bool) (nx : Nat) : PySem.W.Hook where
  α := AlH
  obs := fun s => gath s.heap.get? as (obsH fa fn ts xl)
  val := fun w => (He.valT fn ts w, List.replicate nx true)
  says := fun w h => ∃ K : PySem.W.Frag, K.In h ∧ SaysH fa fn ts xl nx w K
  of := fun _ _ e => ⟨_, He.frG_in, by
    rw [gath_eq] at e
    exact e⟩
  keeps := fun _ _ _ ⟨K, hK, c⟩ k => ⟨K, PySem.W.Frag.In.keeps hK k, c⟩
section
variable {fa : List He.Fa} {fn : List He.DefD} {ts : List He.Tab} {xl : PySem.W.Frag → List Bool} {nx : Nat} {w : World} {K : PySem.W.Frag}
theorem SaysH.t (c : SaysH fa fn ts xl nx w K) : He.SaysT fa fn ts w K := congrArg (fun z : AlH => z.1) c
theorem SaysH.fact (c : SaysH fa fn ts xl nx w K) (i : Nat) {f : He.Fa} (h : fa[i]? = some f) : f.ok K = true := c.t.d.fact i h
theorem SaysH.def_ (c : SaysH fa fn ts xl nx w K) (i : Nat) {d : He.DefD} (h : fn[i]? = some d) : ∃ fd, FunD K d.name d.qual d.params d.body d.scope (d.dvs K) (d.kws K) (He.fAd K d.at_) fd := c.t.d.def_ i h
theorem SaysH.tab (c : SaysH fa fn ts xl nx w K) (i : Nat) {t : He.Tab} (h : ts[i]? = some t) : ∃ es n, KDict K w (t.1 K) es n := c.t.tab i h
theorem SaysH.x (c : SaysH fa fn ts xl nx w K) (i : Nat) {b : Bool} (h : (xl K)[i]? = some b) : b = true := by
  have e : xl K = List.replicate nx true := congrArg (fun z : AlH => z.2) c
  rw [e] at h
  have m := List.mem_of_getElem? h
  exact (List.mem_replicate.mp m).2
end
def asL0 : List Addr := [3, 414, 413, 374, 373, 381, 380, 388, 387, 393, 392, 407, 406, 400, 399, 1098, 1097, 1112, 1111, 1119, 1118, 1157, 1156, 1126]
def asL1 : List Addr := [1125, 1133, 1132, 1150, 1149, 1171, 1170, 1164, 1163, 1138, 1137, 1143, 1142, 1105, 1104, 1178, 1177, 520, 519, 362, 361, 1087, 1086, 719]
def asL2 : List Addr := [718, 877, 876, 653, 652, 555, 554, 604, 603, 778, 777, 820, 819, 220, 219, 195, 275, 274, 251, 250, 263, 262, 239, 238]
def asL3 : List Addr := [194, 22, 367, 825, 882, 298, 297, 428, 427, 573, 572, 622, 621, 538, 537, 671, 670, 744, 743, 796, 795, 839, 838, 903]
def asL4 : List Addr := [902, 867, 866, 860, 859, 1021, 1020, 853, 852, 1014, 1013, 305, 304, 915, 914, 716, 715, 1000, 999, 936, 935, 922, 921, 929]
def asL5 : List Addr := [928, 943, 942, 1007, 1006, 1028, 1027]
def asL : List Addr := asL0 ++ asL1 ++ asL2 ++ asL3 ++ asL4 ++ asL5

def looseL0 : List Str := ["_wall", "WORDS", "HIGH", "READS_AT_X", "touches_of", "give", "do_lit", "do_get", "do_put", "do_add", "do_sub", "do_and", "do_xor", "do_putb", "do_tob", "do_swap", "do_go", "do_ifz", "do_ifn", "do_call", "do_ret", "do_push", "do_pop", "do_sleep"]
def looseL1 : List Str := ["do_let", "do_back", "do_half", "DOINGS", "BoardError", "NoImage", "NoWord", "Barred", "Taken", "TooMany", "NoMark", "FLASH_END", "RAM_END", "PLACES_END", "COUNT", "TOP", "FLAGS", "MASK", "LINE_IN", "LINE_OUT", "TIMER_FLAG", "LINE_FLAG", "WORD_MOST", "ERASED"]
def looseL2 : List Str := ["bar_of", "Memory", "X_SPAN", "OP_NAMES", "LINE_MOST", "is_whole", "is_between", "is_word", "is_image", "is_line", "is_line_row", "STACK_TOP", "INTERRUPT_BEATS", "TIMER_PC", "LINE_PC", "first_registers", "Board", "KEPT_TURNS", "History", "Counts", "OUTSIDE", "Frames", "PAGES", "PAGE_WORDS"]
def looseL3 : List Str := ["HARD_MOST", "Marks", "BEAT_MOST", "BIT_MOST", "WAITING_MOST", "is_fault", "Mishaps", "Stands", "WATCHES", "KINDS", "Watches", "REGISTERS", "peeks_by_turn", "Probe", "_law_cell_at", "_law_well", "_law_draw", "_law_one", "_law_board", "_law_probe", "_law_shown", "_law_told", "_law_program", "_law_own_watch"]
def looseL4 : List Str := ["_law_said", "_law_asked"]
def looseL : List Str := looseL0 ++ looseL1 ++ looseL2 ++ looseL3 ++ looseL4

def faL0 : List He.Fa := [.int "FLASH_END" 512, .int "RAM_END" 768, .int "PLACES_END" 774, .int "COUNT" 768, .int "TOP" 769, .int "FLAGS" 770, .int "MASK" 771, .int "LINE_IN" 772, .int "LINE_OUT" 773, .int "TIMER_FLAG" 1, .int "LINE_FLAG" 2, .int "WORD_MOST" 65535, .int "ERASED" 65535, .int "X_SPAN" 1024, .int "LINE_MOST" 3, .int "STACK_TOP" 767, .int "INTERRUPT_BEATS" 3, .int "TIMER_PC" 1, .int "LINE_PC" 2, .int "WORDS" 65536, .int "HIGH" 32768, .free "len", .free "range", .free "isinstance"]
def faL1 : List He.Fa := [.free "all", .free "int", .free "bool", .free "list", .free "tuple", .free "divmod", .glo "READS_AT_X", .glo "OP_NAMES", .cls "Board", .cls "Memory", .noat "Board" "registers", .noat "Board" "zero", .noat "Board" "lets", .noat "Board" "asleep", .noat "Board" "beat", .noat "Board" "stopped", .noat "Board" "sent", .noat "Board" "memory", .noat "Board" "line", .noat "Board" "line_at", .noat "Board" "touched", .noat "Board" "did", .noat "Board" "bend", .noat "Memory" "words"]
def faL2 : List He.Fa := [.noat "Memory" "swapped", .int "WATCHES" 2, .int "PAGES" 16, .cls "Probe", .noat "Probe" "board", .noat "Probe" "standing", .noat "Probe" "watching", .noat "Probe" "frames", .noat "Probe" "history", .noat "Probe" "counts", .noat "Probe" "mishaps", .noat "Probe" "stands", .noat "Probe" "turns_gone", .noat "Probe" "course", .cls "Marks", .noat "Marks" "memory", .noat "Marks" "hard", .noat "Marks" "erased", .cls "Watches", .noat "Watches" "rows", .cls "Frames", .noat "Frames" "rows", .noat "Frames" "strays", .cls "History"]
def faL3 : List He.Fa := [.noat "History" "rows", .noat "History" "faded", .cls "Counts", .noat "Counts" "deeds", .noat "Counts" "frames", .noat "Counts" "idle", .noat "Counts" "peeked", .cls "Mishaps", .noat "Mishaps" "rows", .noat "Mishaps" "met_rows", .cls "Stands", .noat "Stands" "rows", .glo "NoWord", .keep "NoWord", .exc "NoWord", .glo "NoMark", .keep "NoMark", .exc "NoMark", .glo "KINDS", .glo "REGISTERS", .glo "Taken", .glo "TooMany", .glo "Barred", .glo "BoardError"]
def faL4 : List He.Fa := [.exm "NoWord" "BoardError" true, .exm "NoMark" "BoardError" true, .mkr "Memory", .glo "Memory", .glo "first_registers", .glo "is_whole", .glo "is_between", .glo "is_word", .glo "is_image", .glo "is_line_row", .glo "is_line", .mkr "Board", .glo "Board", .mkr "Counts", .glo "Counts", .mkr "Frames", .glo "Frames", .mkr "History", .glo "History", .mkr "Marks", .glo "Marks", .mkr "Mishaps", .glo "Mishaps", .mkr "Stands"]
def faL5 : List He.Fa := [.glo "Stands", .mkr "Watches", .glo "Watches", .mkr "Probe", .glo "Probe", .glo "_law_cell_at", .glo "_law_draw", .glo "_law_one", .glo "_law_own_watch", .free "dict", .glo "_law_board", .glo "_law_probe", .glo "_law_program", .meth "Watches" "check_number", .meth "Watches" "lift", .meth "Probe" "unwatch", .free "str", .meth "Watches" "lay", .meth "Probe" "watch", .glo "_law_asked", .glo "_law_said", .free "sorted", .glo "_law_shown", .meth "Memory" "word_at"]
def faL6 : List He.Fa := [.meth "Probe" "look", .meth "Marks" "told", .meth "Probe" "marks", .meth "Probe" "out", .meth "Probe" "register_of", .meth "Probe" "stop_told", .meth "Probe" "turns", .meth "Probe" "wear", .meth "Probe" "watches", .glo "_law_told", .glo "_law_well", .glo "law"]
def faL : List He.Fa := faL0 ++ faL1 ++ faL2 ++ faL3 ++ faL4 ++ faL5 ++ faL6

def d_Memoryinit : He.DefD := (⟨("Memory", some "__init__"), "__init__", "Memory.__init__", defArgs (inClass (topR 52) 0), defBody (inClass (topR 52) 0), defScope (inClass (topR 52) 0), [], []⟩ : He.DefD)
def d_firstregisters : He.DefD := (⟨("first_registers", none), "first_registers", "first_registers", defArgs (topR 68), defBody (topR 68), defScope (topR 68), [], []⟩ : He.DefD)
def d_iswhole : He.DefD := (⟨("is_whole", none), "is_whole", "is_whole", defArgs (topR 57), defBody (topR 57), defScope (topR 57), [], []⟩ : He.DefD)
def d_isbetween : He.DefD := (⟨("is_between", none), "is_between", "is_between", defArgs (topR 58), defBody (topR 58), defScope (topR 58), [], []⟩ : He.DefD)
def d_isword : He.DefD := (⟨("is_word", none), "is_word", "is_word", defArgs (topR 59), defBody (topR 59), defScope (topR 59), [], []⟩ : He.DefD)
def d_isimage : He.DefD := (⟨("is_image", none), "is_image", "is_image", defArgs (topR 60), defBody (topR 60), defScope (topR 60), [], []⟩ : He.DefD)
def d_islinerow : He.DefD := (⟨("is_line_row", none), "is_line_row", "is_line_row", defArgs (topR 62), defBody (topR 62), defScope (topR 62), [], []⟩ : He.DefD)
def d_isline : He.DefD := (⟨("is_line", none), "is_line", "is_line", defArgs (topR 61), defBody (topR 61), defScope (topR 61), [], []⟩ : He.DefD)
def d_Boardinit : He.DefD := (⟨("Board", some "__init__"), "__init__", "Board.__init__", defArgs (inClass (topR 69) 0), defBody (inClass (topR 69) 0), defScope (inClass (topR 69) 0), [], []⟩ : He.DefD)
def d_Countsinit : He.DefD := (⟨("Counts", some "__init__"), "__init__", "Counts.__init__", defArgs (inClass (topR 73) 0), defBody (inClass (topR 73) 0), defScope (inClass (topR 73) 0), [], []⟩ : He.DefD)
def d_Framesinit : He.DefD := (⟨("Frames", some "__init__"), "__init__", "Frames.__init__", defArgs (inClass (topR 76) 0), defBody (inClass (topR 76) 0), defScope (inClass (topR 76) 0), [], []⟩ : He.DefD)
def d_Historyinit : He.DefD := (⟨("History", some "__init__"), "__init__", "History.__init__", defArgs (inClass (topR 72) 0), defBody (inClass (topR 72) 0), defScope (inClass (topR 72) 0), [], []⟩ : He.DefD)
def d_Marksinit : He.DefD := (⟨("Marks", some "__init__"), "__init__", "Marks.__init__", defArgs (inClass (topR 81) 0), defBody (inClass (topR 81) 0), defScope (inClass (topR 81) 0), [], []⟩ : He.DefD)
def d_Mishapsinit : He.DefD := (⟨("Mishaps", some "__init__"), "__init__", "Mishaps.__init__", defArgs (inClass (topR 87) 0), defBody (inClass (topR 87) 0), defScope (inClass (topR 87) 0), [], []⟩ : He.DefD)
def d_Standsinit : He.DefD := (⟨("Stands", some "__init__"), "__init__", "Stands.__init__", defArgs (inClass (topR 89) 0), defBody (inClass (topR 89) 0), defScope (inClass (topR 89) 0), [], []⟩ : He.DefD)
def d_Watchesinit : He.DefD := (⟨("Watches", some "__init__"), "__init__", "Watches.__init__", defArgs (inClass (topR 93) 0), defBody (inClass (topR 93) 0), defScope (inClass (topR 93) 0), [], []⟩ : He.DefD)
def d_Probeinit : He.DefD := (⟨("Probe", some "__init__"), "__init__", "Probe.__init__", defArgs (inClass (topR 97) 0), defBody (inClass (topR 97) 0), defScope (inClass (topR 97) 0), [], []⟩ : He.DefD)
def d_lawcellat : He.DefD := (⟨("_law_cell_at", none), "_law_cell_at", "_law_cell_at", defArgs (topR 99), defBody (topR 99), defScope (topR 99), [], []⟩ : He.DefD)
def d_lawdraw : He.DefD := (⟨("_law_draw", none), "_law_draw", "_law_draw", defArgs (topR 101), defBody (topR 101), defScope (topR 101), [], []⟩ : He.DefD)
def d_lawone : He.DefD := (⟨("_law_one", none), "_law_one", "_law_one", defArgs (topR 102), defBody (topR 102), defScope (topR 102), [], []⟩ : He.DefD)
def d_lawownwatch : He.DefD := (⟨("_law_own_watch", none), "_law_own_watch", "_law_own_watch", defArgs (topR 108), defBody (topR 108), defScope (topR 108), [], []⟩ : He.DefD)
def d_lawboard : He.DefD := (⟨("_law_board", none), "_law_board", "_law_board", defArgs (topR 103), defBody (topR 103), defScope (topR 103), [], []⟩ : He.DefD)
def d_lawprobe : He.DefD := (⟨("_law_probe", none), "_law_probe", "_law_probe", defArgs (topR 104), defBody (topR 104), defScope (topR 104), [], []⟩ : He.DefD)
def d_lawprogram : He.DefD := (⟨("_law_program", none), "_law_program", "_law_program", defArgs (topR 107), defBody (topR 107), defScope (topR 107), [], []⟩ : He.DefD)
def d_Watcheschecknumber : He.DefD := (⟨("Watches", some "check_number"), "check_number", "Watches.check_number", defArgs (inClass (topR 93) 4), defBody (inClass (topR 93) 4), defScope (inClass (topR 93) 4), [], []⟩ : He.DefD)
def d_Watcheslift : He.DefD := (⟨("Watches", some "lift"), "lift", "Watches.lift", defArgs (inClass (topR 93) 3), defBody (inClass (topR 93) 3), defScope (inClass (topR 93) 3), [], []⟩ : He.DefD)
def d_Probeunwatch : He.DefD := (⟨("Probe", some "unwatch"), "unwatch", "Probe.unwatch", defArgs (inClass (topR 97) 17), defBody (inClass (topR 97) 17), defScope (inClass (topR 97) 17), [], []⟩ : He.DefD)
def d_Watcheslay : He.DefD := (⟨("Watches", some "lay"), "lay", "Watches.lay", defArgs (inClass (topR 93) 2), defBody (inClass (topR 93) 2), defScope (inClass (topR 93) 2), [], []⟩ : He.DefD)
def d_Probewatch : He.DefD := (⟨("Probe", some "watch"), "watch", "Probe.watch", defArgs (inClass (topR 97) 16), defBody (inClass (topR 97) 16), defScope (inClass (topR 97) 16), [], []⟩ : He.DefD)
def d_lawasked : He.DefD := (⟨("_law_asked", none), "_law_asked", "_law_asked", defArgs (topR 110), defBody (topR 110), defScope (topR 110), [], []⟩ : He.DefD)
def d_lawsaid : He.DefD := (⟨("_law_said", none), "_law_said", "_law_said", defArgs (topR 109), defBody (topR 109), defScope (topR 109), [], []⟩ : He.DefD)
def d_lawshown : He.DefD := (⟨("_law_shown", none), "_law_shown", "_law_shown", defArgs (topR 105), defBody (topR 105), defScope (topR 105), [], []⟩ : He.DefD)
def d_Memorywordat : He.DefD := (⟨("Memory", some "word_at"), "word_at", "Memory.word_at", defArgs (inClass (topR 52) 1), defBody (inClass (topR 52) 1), defScope (inClass (topR 52) 1), [], []⟩ : He.DefD)
def d_Probelook : He.DefD := (⟨("Probe", some "look"), "look", "Probe.look", defArgs (inClass (topR 97) 2), defBody (inClass (topR 97) 2), defScope (inClass (topR 97) 2), [], []⟩ : He.DefD)
def d_Markstold : He.DefD := (⟨("Marks", some "told"), "told", "Marks.told", defArgs (inClass (topR 81) 7), defBody (inClass (topR 81) 7), defScope (inClass (topR 81) 7), [], []⟩ : He.DefD)
def d_Probemarks : He.DefD := (⟨("Probe", some "marks"), "marks", "Probe.marks", defArgs (inClass (topR 97) 14), defBody (inClass (topR 97) 14), defScope (inClass (topR 97) 14), [], []⟩ : He.DefD)
def d_Probeout : He.DefD := (⟨("Probe", some "out"), "out", "Probe.out", defArgs (inClass (topR 97) 5), defBody (inClass (topR 97) 5), defScope (inClass (topR 97) 5), [], []⟩ : He.DefD)
def d_Proberegisterof : He.DefD := (⟨("Probe", some "register_of"), "register_of", "Probe.register_of", defArgs (inClass (topR 97) 3), defBody (inClass (topR 97) 3), defScope (inClass (topR 97) 3), [], []⟩ : He.DefD)
def d_Probestoptold : He.DefD := (⟨("Probe", some "stop_told"), "stop_told", "Probe.stop_told", defArgs (inClass (topR 97) 4), defBody (inClass (topR 97) 4), defScope (inClass (topR 97) 4), [], []⟩ : He.DefD)
def d_Probeturns : He.DefD := (⟨("Probe", some "turns"), "turns", "Probe.turns", defArgs (inClass (topR 97) 6), defBody (inClass (topR 97) 6), defScope (inClass (topR 97) 6), [], []⟩ : He.DefD)
def d_Probewear : He.DefD := (⟨("Probe", some "wear"), "wear", "Probe.wear", defArgs (inClass (topR 97) 15), defBody (inClass (topR 97) 15), defScope (inClass (topR 97) 15), [], []⟩ : He.DefD)
def d_Probewatches : He.DefD := (⟨("Probe", some "watches"), "watches", "Probe.watches", defArgs (inClass (topR 97) 18), defBody (inClass (topR 97) 18), defScope (inClass (topR 97) 18), [], []⟩ : He.DefD)
def d_lawtold : He.DefD := (⟨("_law_told", none), "_law_told", "_law_told", defArgs (topR 106), defBody (topR 106), defScope (topR 106), [], []⟩ : He.DefD)
def d_lawwell : He.DefD := (⟨("_law_well", none), "_law_well", "_law_well", defArgs (topR 100), defBody (topR 100), defScope (topR 100), [], []⟩ : He.DefD)
def d_law : He.DefD := (⟨("law", none), "law", "law", defArgs (topR 111), defBody (topR 111), defScope (topR 111), [], []⟩ : He.DefD)
def fnL0 : List He.DefD := [d_Memoryinit, d_firstregisters, d_iswhole, d_isbetween, d_isword, d_isimage, d_islinerow, d_isline, d_Boardinit, d_Countsinit, d_Framesinit, d_Historyinit, d_Marksinit, d_Mishapsinit, d_Standsinit, d_Watchesinit, d_Probeinit, d_lawcellat, d_lawdraw, d_lawone, d_lawownwatch, d_lawboard, d_lawprobe, d_lawprogram]
def fnL1 : List He.DefD := [d_Watcheschecknumber, d_Watcheslift, d_Probeunwatch, d_Watcheslay, d_Probewatch, d_lawasked, d_lawsaid, d_lawshown, d_Memorywordat, d_Probelook, d_Markstold, d_Probemarks, d_Probeout, d_Proberegisterof, d_Probestoptold, d_Probeturns, d_Probewear, d_Probewatches, d_lawtold, d_lawwell, d_law]
def fnL : List He.DefD := fnL0 ++ fnL1

def tsL : List He.Tab := []
def xl0 (K : PySem.W.Frag) : List Bool := [He.tupB K "READS_AT_X" [.str "get", .str "add", .str "sub", .str "and", .str "xor"], He.tupB K "OP_NAMES" [.str "mark", .str "lit", .str "get", .str "put", .str "add", .str "sub", .str "and", .str "xor", .str "getb", .str "putb", .str "tob", .str "swap", .str "go", .str "ifz", .str "ifn", .str "call", .str "ret", .str "push", .str "pop", .str "sleep", .str "let", .str "back", .str "half"], decide (PySem.W.subIn K (.ref (He.ga K "NoWord")) (.type "BaseException") = some true), decide (PySem.W.typeIn K (.ref (He.ga K "NoWord")) = some (.type "type")), decide (PySem.W.subIn K (.ref (He.ga K "NoMark")) (.type "BaseException") = some true), decide (PySem.W.typeIn K (.ref (He.ga K "NoMark")) = some (.type "type")), He.tupB K "KINDS" [.str "r", .str "w", .str "rw"], He.tupB K "REGISTERS" [.str "a", .str "b", .str "pc", .str "sp"], He.eqO (PySem.W.findIn K (.ref (He.ga K "NoWord")) "__getattribute__") (some (some (.builtin "BaseException.__getattribute__"))), He.eqO (PySem.W.findIn K (.ref (He.ga K "NoWord")) "__getattr__") (some none), PySem.W.hasDictIn K (He.ga K "NoWord"), He.eqO (PySem.W.findIn K (.ref (He.ga K "NoWord")) "__class__") (some (some (.builtin "object.__class__"))), He.eqO (PySem.W.specialIn K (.builtin "object.__class__") "__get__") (some (some (.builtin "getset_descriptor.__get__"))), decide (PySem.W.takesIn K (.builtin "object.__class__") = some true), decide (PySem.W.mroIn K (He.ga K "NoWord") (.type "object") = some true), He.eqO (PySem.W.findIn K (.ref (He.ga K "NoMark")) "__getattribute__") (some (some (.builtin "BaseException.__getattribute__"))), He.eqO (PySem.W.findIn K (.ref (He.ga K "NoMark")) "__getattr__") (some none), PySem.W.hasDictIn K (He.ga K "NoMark"), He.eqO (PySem.W.findIn K (.ref (He.ga K "NoMark")) "__class__") (some (some (.builtin "object.__class__"))), decide (PySem.W.mroIn K (He.ga K "NoMark") (.type "object") = some true)]
def xl1 (K : PySem.W.Frag) : List Bool := [decide (PySem.W.kitOne K (.ref (He.ga K "NoWord")) (.ref (He.ga K "NoWord")) = some true), decide (PySem.W.kitOne K (.ref (He.ga K "NoWord")) (.ref (He.ga K "Taken")) = some false), decide (PySem.W.kitOne K (.ref (He.ga K "NoWord")) (.ref (He.ga K "TooMany")) = some false), decide (PySem.W.kitOne K (.ref (He.ga K "NoWord")) (.ref (He.ga K "NoMark")) = some false), decide (PySem.W.kitOne K (.ref (He.ga K "NoWord")) (.ref (He.ga K "Barred")) = some false), decide (PySem.W.kitOne K (.ref (He.ga K "NoMark")) (.ref (He.ga K "NoWord")) = some false), decide (PySem.W.kitOne K (.ref (He.ga K "NoMark")) (.ref (He.ga K "Taken")) = some false), decide (PySem.W.kitOne K (.ref (He.ga K "NoMark")) (.ref (He.ga K "TooMany")) = some false), decide (PySem.W.kitOne K (.ref (He.ga K "NoMark")) (.ref (He.ga K "NoMark")) = some true), decide (PySem.W.kitOne K (.ref (He.ga K "NoMark")) (.ref (He.ga K "Barred")) = some false)]
def xlL (K : PySem.W.Frag) : List Bool := xl0 K ++ xl1 K
abbrev RR : PySem.W.OpenRow := PySem.W.OpenLaw.row PySem.Challenge.rw_boardheld_k34_watches_set
abbrev hkH : PySem.W.Hook := hookH asL faL fnL tsL xlL 30
def obL (s : PySem.W.SharedT) : AlH := gath (HandSHeadRun.getT s) asL (obsH faL fnL tsL xlL)
theorem obL_eq (s : PySem.W.SharedT) : obL s = hkH.obs s.abs := by
  have e : HandSHeadRun.getT s = s.abs.heap.get? := funext (HandSHeadRun.getT_eq s)
  unfold obL
  rw [e]
  rfl
abbrev qV : Program := PySem.W.view RR.prog [111]
set_option maxHeartbeats 0 in
theorem runF (w : World) : HandSHeadRun.RunEq RR qV hkH obL 10000 looseL (w.withFollow "special-get-raises" false) := by
  intro os
  kernel_rfl
set_option maxHeartbeats 0 in
theorem runT (w : World) : HandSHeadRun.RunEq RR qV hkH obL 10000 looseL (w.withFollow "special-get-raises" true) := by
  intro os
  kernel_rfl
theorem run (w : World) : HandSHeadRun.RunEq RR qV hkH obL 10000 looseL w := byRow2 "special-get-raises" runF runT w
end Bh

/-! A board in plain words. -/
namespace Bh
open PySem PySem.Spec PyProof.Rows L2
structure Bd where
  a : Int
  b : Int
  pc : Int
  sp : Int
  zero : Bool
  lets : Bool
  asleep : Bool
  beat : Int
  sent : List (Int × Int)
  mem : List Int
  line : List (Int × Int)
  la : Nat
  stop : Option (Str × List Int)
def rd (m : List Int) (i : Int) : Int := m.getD i.toNat 0
def stM (m : List Int) (i : Int) (v : Int) : List Int := m.set i.toNat v
def takeLineM (v : Int) (m : List Int) : List Int := if rd m 772 % 2 < v % 2 then stM (stM m 772 v) 770 (Builtin.bitOr (rd (stM m 772 v) 770) 2) else stM m 772 v
def goTimerM (m : List Int) : List Int := if rd m 769 = 0 then m else if rd m 769 ≤ rd m 768 + 1 then stM (stM m 770 (Builtin.bitOr (rd m 770) 1)) 768 0 else stM m 768 (rd m 768 + 1)
def putMM (a v : Int) (m : List Int) : List Int := if a = 770 then stM m 770 (Builtin.bitAnd (rd m 770) (65535 - v)) else stM m a v
def comeM (x : Bd) : Bd := if x.la < x.line.length ∧ (x.line.getD x.la (0, 0)).1 = x.beat then { x with mem := takeLineM (x.line.getD x.la (0, 0)).2 x.mem, la := x.la + 1 } else x
def passOneM (x : Bd) : Bd := { comeM { x with beat := x.beat + 1 } with mem := goTimerM (comeM { x with beat := x.beat + 1 }).mem }
def passM : Nat → Bd → Bd
  | 0, x => x
  | n + 1, x => passM n (passOneM x)
def sendM (a v : Int) (x : Bd) : Bd := if a = 773 then { x with sent := x.sent ++ [(x.beat, v)] } else x
def putWM (a v : Int) (x : Bd) : Bd := { sendM a v x with mem := putMM a v x.mem }
def giveM (v : Int) (x : Bd) : Bd := { x with a := v, zero := decide (v = 0) }
/-- what a deed does, its words read; pc leads behind it already -/
def doM (op : Nat) (n : Int) (ws : List Int) (x : Bd) : Bd :=
  match op with
  | 1 => giveM n x
  | 2 => giveM (ws.getD 0 0) x
  | 3 => putWM n x.a x
  | 4 => giveM ((x.a + ws.getD 0 0) % 65536) x
  | 5 => giveM ((x.a - ws.getD 0 0) % 65536) x
  | 6 => giveM (Builtin.bitAnd x.a (ws.getD 0 0)) x
  | 7 => giveM (Builtin.bitXor x.a (ws.getD 0 0)) x
  | 8 => giveM (ws.getD 0 0) x
  | 9 => putWM (n + x.b) x.a x
  | 10 => { x with b := x.a }
  | 11 => { giveM x.b x with b := x.a }
  | 12 => { x with pc := n }
  | 13 => if x.zero = true then { x with pc := n } else x
  | 14 => if 32768 ≤ x.a then { x with pc := n } else x
  | 15 => { putWM x.sp x.pc x with sp := x.sp - 1, pc := n }
  | 16 => { x with sp := x.sp + 1, pc := ws.getD 0 0 }
  | 17 => { putWM x.sp x.a x with sp := x.sp - 1 }
  | 18 => giveM (ws.getD 0 0) { x with sp := x.sp + 1 }
  | 19 => { x with asleep := true }
  | 20 => { x with lets := decide (n % 2 = 1) }
  | 21 => { x with sp := x.sp + 2, zero := decide (ws.getD 0 0 % 2 = 1), pc := ws.getD 1 0, lets := true }
  | 22 => giveM (x.a / 2) x
  | _ => x
/-- what a deed reads (false) and puts (true) -/
def touM (op : Nat) (n b sp : Int) : List (Bool × Int) :=
  match op with
  | 2 => [(false, n)]
  | 3 => [(true, n)]
  | 4 => [(false, n)]
  | 5 => [(false, n)]
  | 6 => [(false, n)]
  | 7 => [(false, n)]
  | 8 => [(false, n + b)]
  | 9 => [(true, n + b)]
  | 15 => [(true, sp)]
  | 16 => [(false, sp + 1)]
  | 17 => [(true, sp)]
  | 18 => [(false, sp + 1)]
  | 21 => [(false, sp + 1), (false, sp + 2)]
  | _ => []
/-- why a word can't be read or put there -/
def barM (t : Bool × Int) : Option Str :=
  if ¬ (0 ≤ t.2 ∧ t.2 < 774) then some "far" else if t.1 = false then none else if t.2 < 512 then some "flash" else if t.2 = 772 then some "still" else none
def firstBad : List (Bool × Int) → Option (Str × Int)
  | [] => none
  | t :: r => match barM t with
    | some w => some (w, t.2)
    | none => firstBad r
def readsM (m : List Int) (ts : List (Bool × Int)) : List Int := (ts.filter fun t => !t.1).map fun t => rd m t.2
def opM (x : Bd) : Nat := (rd x.mem x.pc / 1024).toNat
def xM (x : Bd) : Int := rd x.mem x.pc % 1024
def toM (x : Bd) : List (Bool × Int) := touM (opM x) (xM x) x.b x.sp
/-- the deed at pc, which can be done -/
def doneM (x : Bd) : Bd := passM (1 + (toM x).length) (doM (opM x) (xM x) (readsM x.mem (toM x)) { x with pc := x.pc + 1 })
def stopAt (w : Str) (ns : List Int) (x : Bd) : Str × Bd := ("stopped", { x with stop := some (w, ns) })
def deedM (x : Bd) : Str × Bd :=
  if ¬ (0 ≤ x.pc ∧ x.pc < 768) then stopAt "far" [x.pc, x.pc] x
  else if 23 ≤ opM x then stopAt "none" [x.pc] x
  else if opM x = 0 then stopAt "mark" [x.pc] x
  else match firstBad (toM x) with
    | some r => stopAt r.1 [x.pc, r.2] x
    | none => ("deed", doneM x)
def calledM (x : Bd) : Int := Builtin.bitAnd (rd x.mem 770) (rd x.mem 771)
def b2n (b : Bool) : Int := if b = true then 1 else 0
def begunM (x : Bd) : Bd :=
  let y := putWM (x.sp - 1) (b2n x.zero) (putWM x.sp x.pc x)
  passM 3 { y with sp := x.sp - 2, lets := false, pc := if Builtin.bitAnd (calledM x) 1 ≠ 0 then 1 else 2 }
def intM (x : Bd) : Str × Bd :=
  match firstBad [(true, x.sp), (true, x.sp - 1)] with
  | some r => stopAt r.1 [x.pc, r.2] x
  | none => ("interrupt", begunM x)
def turnM (x : Bd) : Str × Bd :=
  if x.stop ≠ none then ("stopped", x)
  else if x.asleep = true ∧ calledM x = 0 then ("asleep", passM 1 x)
  else if x.lets = true ∧ calledM x ≠ 0 then intM { x with asleep := false }
  else deedM { x with asleep := false }
theorem firstBad_cons (t : Bool × Int) (r : List (Bool × Int)) : firstBad (t :: r) = match barM t with
    | some w => some (w, t.2)
    | none => firstBad r := rfl
theorem barM_ok {t : Bool × Int} (h : barM t = none) : 0 ≤ t.2 ∧ t.2 < 774 := by
  unfold barM at h
  split at h
  · cases h
  · rename_i z
    exact Classical.not_not.mp z
theorem firstBad_ok : ∀ {ts : List (Bool × Int)}, firstBad ts = none → ∀ t ∈ ts, barM t = none
  | [], _, _, h => by cases h
  | t :: r, h, u, hu => by
    unfold firstBad at h
    cases e : barM t with
    | some w => rw [e] at h; cases h
    | none =>
      rw [e] at h
      rcases List.mem_cons.mp hu with rfl | h2
      · exact e
      · exact firstBad_ok h u h2
theorem touM_len (op : Nat) (n b sp : Int) : (touM op n b sp).length ≤ 2 := by
  unfold touM
  split <;> first | exact Nat.le_succ _ | exact Nat.le_refl _ | exact Nat.zero_le _
theorem stM_len (m : List Int) (i v : Int) : (stM m i v).length = m.length := List.length_set
theorem takeLineM_len (v : Int) (m : List Int) : (takeLineM v m).length = m.length := by
  unfold takeLineM
  split
  · rw [stM_len, stM_len]
  · rw [stM_len]
theorem goTimerM_len (m : List Int) : (goTimerM m).length = m.length := by
  unfold goTimerM
  split
  · rfl
  · split
    · rw [stM_len, stM_len]
    · rw [stM_len]
theorem putMM_len (a v : Int) (m : List Int) : (putMM a v m).length = m.length := by
  unfold putMM
  split
  · rw [stM_len]
  · rw [stM_len]
theorem atI_rd {m : List Int} {i : Int} (h0 : 0 ≤ i) (h1 : i < m.length) : atI (m.map V.int) i = some (.int (rd m i)) := by
  have hj : i.toNat < m.length := by omega
  have e : i = ((i.toNat : Nat) : Int) := (Int.toNat_of_nonneg h0).symm
  have q : atI (m.map V.int) ((i.toNat : Nat) : Int) = some (.int (rd m i)) := atI_nat (by
    unfold rd
    rw [List.getElem?_map, List.getElem?_eq_getElem hj, List.getD_eq_getElem?_getD, List.getElem?_eq_getElem hj]
    rfl)
  rw [← e] at q
  exact q
theorem ixN_in {n : Nat} {i : Int} (h0 : 0 ≤ i) (h1 : i < n) : ixN n i = some i.toNat := by
  unfold ixN
  rw [if_pos h0, if_pos h1]
theorem set_map (m : List Int) (i v : Int) : (m.map V.int).set i.toNat (.int v) = (stM m i v).map V.int := by
  unfold stM
  rw [List.map_set]
theorem rd_stM_same {m : List Int} {i v : Int} (h0 : 0 ≤ i) (h1 : i < m.length) : rd (stM m i v) i = v := by
  unfold rd stM
  have : i.toNat < m.length := by omega
  rw [List.getD_eq_getElem?_getD, List.getElem?_set_self this]
  rfl
theorem rd_stM_ne {m : List Int} {i j v : Int} (h0 : 0 ≤ i) (h1 : 0 ≤ j) (h : i ≠ j) : rd (stM m i v) j = rd m j := by
  unfold rd stM
  rw [List.getD_eq_getElem?_getD, List.getElem?_set_ne (by omega), ← List.getD_eq_getElem?_getD]
end Bh

/-! A board in the heap. -/
namespace Bh
open PySem PySem.Spec PyProof.Rows L2
theorem same_upd' {H : Hp} {p : Addr} {o : HO} (h : H p = none) : Same H (upd H p o) := fun b x e => by
  rw [upd_ne (ne_of_none e h)]
  exact e
theorem same_of {H0 H : Hp} {x : Addr} {o : HO} (sm : Same H0 H) (fx : H0 x = none) : Same H0 (upd H x o) := fun b y e => by
  rw [upd_ne (ne_of_none e fx)]
  exact sm _ _ e
theorem upd_upd {H : Hp} {p : Addr} {o o' : HO} : upd (upd H p o) p o' = upd H p o' := by
  funext b
  by_cases h : b = p
  · subst h
    rw [upd_same, upd_same]
  · rw [upd_ne h, upd_ne h, upd_ne h]
theorem upd_id {H : Hp} {p : Addr} {o : HO} (h : H p = some o) : upd H p o = H := by
  funext b
  by_cases e : b = p
  · subst e
    rw [upd_same, h]
  · rw [upd_ne e]
theorem ifN {c : Bool} {A B : Prop} (h1 : c = false → A) (h2 : c = true → B) : if (!c) = true then A else B := by
  cases c with
  | true => exact h2 rfl
  | false => exact h1 rfl
theorem ifJ {c : Bool} {A B : Prop} (h1 : B) (h2 : c = true → B → A) : if c = true then A else B := by
  cases c with
  | true => exact h2 rfl h1
  | false => exact h1
theorem ifB {c : Bool} {A B : Prop} (h1 : c = true → A) (h2 : c = false → B) : if c = true then A else B := by
  cases c with
  | true => exact h1 rfl
  | false => exact h2 rfl
section
variable {X : Cx}
theorem pgI {x : Str} {n : Int} {t : Tok} {pos : Pos} (hm : X.mg x = some (.int n t)) (hg : Gl X x := by rfl) (hd : (x == ("__debug__" : Str)) = false := by decide) : PE X (.Name x pos) (tC (.int n)) := pe_glob (v := .int n) hg hm ⟨t, rfl⟩ hd
theorem pgR {x : Str} {a : Addr} {pos : Pos} (hm : X.mg x = some (.ref a)) (hg : Gl X x := by rfl) (hd : (x == ("__debug__" : Str)) = false := by decide) : PE X (.Name x pos) (tC (.ref a)) := pe_glob (v := .ref a) hg hm rfl hd
theorem ix_listK {K : PySem.W.Frag} (h : X.K = K := by rfl) : IxR X (rIxL K) := by
  subst h
  exact ix_list
theorem ix_tupK {K : PySem.W.Frag} (h : X.K = K := by rfl) : IxR X (rIxT K) := by
  subst h
  exact ix_tup
end
theorem gtK {X : Cx} {K : PySem.W.Frag} {n : Nat} {es : List Expr} {k : Nat} {pos : Pos} {t : TGs} (hK : X.K = K) (hc : X.calm = true) (h : PGs X es t) (hn : (assignEach es X.env).length = n) (hst : (assignEach es X.env).findIdx? (·.1) = none) : PG X (.Tuple es k pos) (gTup K n t) := by
  subst hK
  subst hn
  exact pg_tup hc h rfl hst
theorem pe_fldK {X : Cx} {K : PySem.W.Frag} {e : Expr} {f : Str} {pos : Pos} {ta : TE} (hK : X.K = K) (he : PE X e ta) (hb : attributeBase e f X.env (eval e X.env) = eval e X.env) : PE X (.Attribute e f pos) (tFld K ta f) := by
  subst hK
  exact pe_fld he hb
section
variable (P : Program) (w : World) (K : PySem.W.Frag) (mg : Str → Option Value) (base : Heap)
/-- a def that may be called by its name -/
structure CalF (k : Nat) (nm : Str) (ps : List Str) (sp : Sp) (f : Addr) (fd : FuncData) : Prop where
  g : mg nm = some (.ref f)
  kp : PySem.W.keepIn K (.ref f) = true
  b : Binds K fd ps []
  G : FnOk P w K mg base CX0 k f fd ps sp
structure CalM (C : Addr) (k : Nat) (nm : Str) (ps : List Str) (sp : Sp) (f : Addr) (fd : FuncData) : Prop where
  c : Cls K C
  m : Meth K C nm f
  b : Binds K fd ps []
  G : FnOk P w K mg base CX0 k f fd ps sp
/-- a class that may be called by its name -/
structure CalC (C : Addr) (k : Nat) (nm : Str) (ps : List Str) (sp : Sp) (f : Addr) (fd : FuncData) : Prop where
  M : Mk K C f
  g : mg nm = some (.ref C)
  b : Binds K fd ps []
  I : FnOk P w K mg base CX0 k f fd ps sp
end
/-! ### fields -/
def bdF (r t m l : Addr) (z le as : Bool) (bt : Int) (sv : V) (la : Nat) (tv dv : V) : List (Str × V) :=
  [("registers", .ref r), ("zero", .bl z), ("lets", .bl le), ("asleep", .bl as), ("beat", .int bt), ("stopped", sv), ("sent", .ref t), ("memory", .ref m), ("line", .ref l), ("line_at", .int (la : Int)), ("touched", tv), ("did", dv), ("bend", .int 0)]
def mmF (w s : Addr) : List (Str × V) := [("words", .ref w), ("swapped", .ref s)]
section
variable {r t m l w s : Addr} {z le as z' : Bool} {bt bt' : Int} {la : Nat} {sv tv dv v : V}
theorem bF_reg : (bdF r t m l z le as bt sv la tv dv).lookup ("registers" : Str) = some (.ref r) := by kernel_rfl
theorem bF_zero : (bdF r t m l z le as bt sv la tv dv).lookup ("zero" : Str) = some (.bl z) := by kernel_rfl
theorem bF_lets : (bdF r t m l z le as bt sv la tv dv).lookup ("lets" : Str) = some (.bl le) := by kernel_rfl
theorem bF_asleep : (bdF r t m l z le as bt sv la tv dv).lookup ("asleep" : Str) = some (.bl as) := by kernel_rfl
theorem bF_beat : (bdF r t m l z le as bt sv la tv dv).lookup ("beat" : Str) = some (.int bt) := by kernel_rfl
theorem bF_stop : (bdF r t m l z le as bt sv la tv dv).lookup ("stopped" : Str) = some sv := by kernel_rfl
theorem bF_sent : (bdF r t m l z le as bt sv la tv dv).lookup ("sent" : Str) = some (.ref t) := by kernel_rfl
theorem bF_mem : (bdF r t m l z le as bt sv la tv dv).lookup ("memory" : Str) = some (.ref m) := by kernel_rfl
theorem bF_line : (bdF r t m l z le as bt sv la tv dv).lookup ("line" : Str) = some (.ref l) := by kernel_rfl
theorem bF_la : (bdF r t m l z le as bt sv la tv dv).lookup ("line_at" : Str) = some (.int (la : Int)) := by kernel_rfl
theorem bF_bend : (bdF r t m l z le as bt sv la tv dv).lookup ("bend" : Str) = some (.int 0) := by kernel_rfl
theorem bP_bend : putF "bend" (.int 0) (bdF r t m l z le as bt sv la tv dv) = bdF r t m l z le as bt sv la tv dv := by kernel_rfl
theorem bP_zero : putF "zero" (.bl z') (bdF r t m l z le as bt sv la tv dv) = bdF r t m l z' le as bt sv la tv dv := by kernel_rfl
theorem bP_lets : putF "lets" (.bl z') (bdF r t m l z le as bt sv la tv dv) = bdF r t m l z z' as bt sv la tv dv := by kernel_rfl
theorem bP_asleep : putF "asleep" (.bl z') (bdF r t m l z le as bt sv la tv dv) = bdF r t m l z le z' bt sv la tv dv := by kernel_rfl
theorem bP_beat : putF "beat" (.int bt') (bdF r t m l z le as bt sv la tv dv) = bdF r t m l z le as bt' sv la tv dv := by kernel_rfl
theorem bP_la {n : Nat} : putF "line_at" (.int ((la : Int) + 1)) (bdF r t m l z le as bt sv la tv dv) = bdF r t m l z le as bt sv (la + 1) tv dv := by kernel_rfl
theorem bP_stop : putF "stopped" v (bdF r t m l z le as bt sv la tv dv) = bdF r t m l z le as bt v la tv dv := by kernel_rfl
theorem bP_tou : putF "touched" v (bdF r t m l z le as bt sv la tv dv) = bdF r t m l z le as bt sv la v dv := by kernel_rfl
theorem bP_did : putF "did" v (bdF r t m l z le as bt sv la tv dv) = bdF r t m l z le as bt sv la tv v := by kernel_rfl
theorem bF_len : (bdF r t m l z le as bt sv la tv dv).length = 13 := rfl
theorem mF_w : (mmF w s).lookup ("words" : Str) = some (.ref w) := by kernel_rfl
theorem mF_s : (mmF w s).lookup ("swapped" : Str) = some (.ref s) := by kernel_rfl
theorem bN_coming : (bdF r t m l z le as bt sv la tv dv).lookup ("coming" : Str) = none := by kernel_rfl
theorem bN_do : (bdF r t m l z le as bt sv la tv dv).lookup ("do_deed" : Str) = none := by kernel_rfl
theorem bN_may : (bdF r t m l z le as bt sv la tv dv).lookup ("may_touch" : Str) = none := by kernel_rfl
theorem bN_pbt : (bdF r t m l z le as bt sv la tv dv).lookup ("put_by_turn" : Str) = none := by kernel_rfl
theorem bN_pw : (bdF r t m l z le as bt sv la tv dv).lookup ("put_word" : Str) = none := by kernel_rfl
theorem bN_pass : (bdF r t m l z le as bt sv la tv dv).lookup ("pass_beats" : Str) = none := by kernel_rfl
theorem bN_come : (bdF r t m l z le as bt sv la tv dv).lookup ("come_line" : Str) = none := by kernel_rfl
theorem bN_begin : (bdF r t m l z le as bt sv la tv dv).lookup ("begin_interrupt" : Str) = none := by kernel_rfl
theorem bN_stop : (bdF r t m l z le as bt sv la tv dv).lookup ("stop" : Str) = none := by kernel_rfl
theorem bN_turn : (bdF r t m l z le as bt sv la tv dv).lookup ("turn" : Str) = none := by kernel_rfl
theorem mN_at : (mmF w s).lookup ("word_at" : Str) = none := by kernel_rfl
theorem mN_read : (mmF w s).lookup ("read" : Str) = none := by kernel_rfl
theorem mN_put : (mmF w s).lookup ("put" : Str) = none := by kernel_rfl
theorem mN_called : (mmF w s).lookup ("called_flags" : Str) = none := by kernel_rfl
theorem mN_take : (mmF w s).lookup ("take_line" : Str) = none := by kernel_rfl
theorem mN_timer : (mmF w s).lookup ("go_timer" : Str) = none := by kernel_rfl
end
def regD (a b pc sp : Int) : List (Key × V) := [(Sum.inr "a", .int a), (Sum.inr "b", .int b), (Sum.inr "pc", .int pc), (Sum.inr "sp", .int sp)]
section
variable {a b pc sp v : Int}
theorem rG_a : valV (regD a b pc sp) (Sum.inr "a") = some (.int a) := by kernel_rfl
theorem rG_b : valV (regD a b pc sp) (Sum.inr "b") = some (.int b) := by kernel_rfl
theorem rG_pc : valV (regD a b pc sp) (Sum.inr "pc") = some (.int pc) := by kernel_rfl
theorem rG_sp : valV (regD a b pc sp) (Sum.inr "sp") = some (.int sp) := by kernel_rfl
theorem rP_a : putK (regD a b pc sp) (Sum.inr "a") (.int v) = regD v b pc sp := by kernel_rfl
theorem rP_b : putK (regD a b pc sp) (Sum.inr "b") (.int v) = regD a v pc sp := by kernel_rfl
theorem rP_pc : putK (regD a b pc sp) (Sum.inr "pc") (.int v) = regD a b v sp := by kernel_rfl
theorem rP_sp : putK (regD a b pc sp) (Sum.inr "sp") (.int v) = regD a b pc v := by kernel_rfl
end
/-! ### lists of tuples -/
def TupsAt (H : Hp) : List V → List (Int × Int) → Prop := Paired fun v u => ∃ t, v = .ref t ∧ H t = some (.tup [.int u.1, .int u.2])
theorem TupsAt.mono {H H' : Hp} (k : ∀ t xs, H t = some (.tup xs) → H' t = some (.tup xs)) : ∀ {us : List V} {ls : List (Int × Int)}, TupsAt H us ls → TupsAt H' us ls
  | _, _, .nil => .nil
  | _, _, .cons h r => .cons (let ⟨t, e, q⟩ := h; ⟨t, e, k _ _ q⟩) (TupsAt.mono k r)
theorem TupsAt.snoc {H : Hp} {t : Addr} {u : Int × Int} (ht : H t = some (.tup [.int u.1, .int u.2])) : ∀ {us : List V} {ls : List (Int × Int)}, TupsAt H us ls → TupsAt H (us ++ [.ref t]) (ls ++ [u])
  | _, _, .nil => .cons ⟨t, rfl, ht⟩ .nil
  | _, _, .cons h r => .cons h (TupsAt.snoc ht r)
theorem TupsAt.len {H : Hp} : ∀ {us : List V} {ls : List (Int × Int)}, TupsAt H us ls → us.length = ls.length
  | _, _, .nil => rfl
  | _, _, .cons _ r => by rw [List.length_cons, List.length_cons, TupsAt.len r]
theorem TupsAt.get {H : Hp} : ∀ {us : List V} {ls : List (Int × Int)} {i : Nat}, TupsAt H us ls → i < ls.length → ∃ t, us[i]? = some (.ref t) ∧ H t = some (.tup [.int (ls.getD i (0, 0)).1, .int (ls.getD i (0, 0)).2])
  | _, _, _, .nil, h => by cases h
  | _, _, 0, .cons h r, _ => by
    obtain ⟨t, rfl, q⟩ := h
    exact ⟨t, rfl, q⟩
  | _, _, i + 1, .cons h r, hi => by
    obtain ⟨t, e1, e2⟩ := TupsAt.get (i := i) r (by rw [List.length_cons] at hi; omega)
    exact ⟨t, by rw [List.getElem?_cons_succ]; exact e1, by rw [List.getD_cons_succ]; exact e2⟩
/-! ### the board -/
structure Ad where
  dx : Addr
  r : Addr
  m : Addr
  dm : Addr
  w : Addr
  s : Addr
  t : Addr
  l : Addr
def StopAt (H : Hp) (v : V) : Option (Str × List Int) → Prop
  | none => v = .non
  | some r => ∃ q, v = .ref q ∧ H q = some (.tup (.str r.1 :: r.2.map V.int))
theorem StopAt.mono {H H' : Hp} (k : ∀ t xs, H t = some (.tup xs) → H' t = some (.tup xs)) {v : V} : ∀ {o : Option (Str × List Int)}, StopAt H v o → StopAt H' v o
  | none, h => h
  | some r, ⟨q, e, h⟩ => ⟨q, e, k _ _ h⟩
structure Bp (CB CM : Addr) (H0 H : Hp) (p : Addr) (A : Ad) (ts ls : List V) (x : Bd) : Prop where
  sm : Same H0 H
  fp : H0 p = none
  fr : H0 A.r = none
  fw : H0 A.w = none
  ft : H0 A.t = none
  fm : H0 A.m = none
  fs : H0 A.s = none
  fl : H0 A.l = none
  hp : ∃ sv tv dv, H p = some (.ins CB A.dx (bdF A.r A.t A.m A.l x.zero x.lets x.asleep x.beat sv x.la tv dv)) ∧ StopAt H sv x.stop
  hr : H A.r = some (.dK (regD x.a x.b x.pc x.sp))
  hm : H A.m = some (.ins CM A.dm (mmF A.w A.s))
  hw : H A.w = some (.lst (x.mem.map V.int))
  hs : H A.s = some (.dK [])
  ht : H A.t = some (.lst ts)
  hl : H A.l = some (.lst ls)
  pm : p ≠ A.m
  rs : A.r ≠ A.s
  wt : A.w ≠ A.t
  wl : A.w ≠ A.l
  tl : A.t ≠ A.l
  us : TupsAt H ts x.sent
  ll : TupsAt H ls x.line
  lm : x.mem.length = 774
def BoardAt (CB CM : Addr) (H0 H : Hp) (p : Addr) (x : Bd) : Prop := ∃ A ts ls, Bp CB CM H0 H p A ts ls x
section
variable {CB CM p : Addr} {H0 H : Hp} {A : Ad} {ts ls : List V} {x : Bd}
theorem Bp.more (h : Bp CB CM H0 H p A ts ls x) {q : Addr} {o : HO} (hq : H q = none) : Bp CB CM H0 (upd H q o) p A ts ls x where
  sm := h.sm.trans (same_upd' hq)
  fp := h.fp
  fr := h.fr
  fw := h.fw
  ft := h.ft
  fm := h.fm
  fs := h.fs
  fl := h.fl
  hp := let ⟨sv, tv, dv, e, z⟩ := h.hp; ⟨sv, tv, dv, same_upd' hq _ _ e, z.mono fun t xs e => same_upd' hq _ _ e⟩
  hr := same_upd' hq _ _ h.hr
  hm := same_upd' hq _ _ h.hm
  hw := same_upd' hq _ _ h.hw
  hs := same_upd' hq _ _ h.hs
  ht := same_upd' hq _ _ h.ht
  hl := same_upd' hq _ _ h.hl
  pm := h.pm
  rs := h.rs
  wt := h.wt
  wl := h.wl
  tl := h.tl
  us := h.us.mono fun t xs e => same_upd' hq _ _ e
  ll := h.ll.mono fun t xs e => same_upd' hq _ _ e
  lm := h.lm
/-- its object changes -/
theorem Bp.fld (h : Bp CB CM H0 H p A ts ls x) {z le as : Bool} {bt : Int} {sv : V} {la : Nat} {tv dv : V} {so : Option (Str × List Int)} (hso : StopAt H sv so) : Bp CB CM H0 (upd H p (.ins CB A.dx (bdF A.r A.t A.m A.l z le as bt sv la tv dv))) p A ts ls { x with zero := z, lets := le, asleep := as, beat := bt, la := la, stop := so } := by
  obtain ⟨sv0, tv0, dv0, hp, hz⟩ := h.hp
  exact {
    sm := same_of h.sm h.fp
    fp := h.fp
    fr := h.fr
    fw := h.fw
    ft := h.ft
    fm := h.fm
    fs := h.fs
    fl := h.fl
    hp := ⟨sv, tv, dv, upd_same, hso.mono fun t xs e => by rw [upd_ne (ne_of e hp (by intro q; cases q))]; exact e⟩
    hr := by rw [upd_ne (ne_of h.hr hp (by intro q; cases q))]; exact h.hr
    hm := by rw [upd_ne h.pm.symm]; exact h.hm
    hw := by rw [upd_ne (ne_of h.hw hp (by intro q; cases q))]; exact h.hw
    hs := by rw [upd_ne (ne_of h.hs hp (by intro q; cases q))]; exact h.hs
    ht := by rw [upd_ne (ne_of h.ht hp (by intro q; cases q))]; exact h.ht
    hl := by rw [upd_ne (ne_of h.hl hp (by intro q; cases q))]; exact h.hl
    pm := h.pm
    rs := h.rs
    wt := h.wt
    wl := h.wl
    tl := h.tl
    us := h.us.mono fun t xs e => by rw [upd_ne (ne_of e hp (by intro q; cases q))]; exact e
    ll := h.ll.mono fun t xs e => by rw [upd_ne (ne_of e hp (by intro q; cases q))]; exact e
    lm := h.lm }
theorem Bp.regs (h : Bp CB CM H0 H p A ts ls x) {a b pc sp : Int} : Bp CB CM H0 (upd H A.r (.dK (regD a b pc sp))) p A ts ls { x with a := a, b := b, pc := pc, sp := sp } := by
  obtain ⟨sv0, tv0, dv0, hp, hz⟩ := h.hp
  exact {
    sm := same_of h.sm h.fr
    fp := h.fp
    fr := h.fr
    fw := h.fw
    ft := h.ft
    fm := h.fm
    fs := h.fs
    fl := h.fl
    hp := ⟨sv0, tv0, dv0, by rw [upd_ne (ne_of hp h.hr (by intro q; cases q))]; exact hp, hz.mono fun t xs e => by rw [upd_ne (ne_of e h.hr (by intro q; cases q))]; exact e⟩
    hr := upd_same
    hm := by rw [upd_ne (ne_of h.hm h.hr (by intro q; cases q))]; exact h.hm
    hw := by rw [upd_ne (ne_of h.hw h.hr (by intro q; cases q))]; exact h.hw
    hs := by rw [upd_ne h.rs.symm]; exact h.hs
    ht := by rw [upd_ne (ne_of h.ht h.hr (by intro q; cases q))]; exact h.ht
    hl := by rw [upd_ne (ne_of h.hl h.hr (by intro q; cases q))]; exact h.hl
    pm := h.pm
    rs := h.rs
    wt := h.wt
    wl := h.wl
    tl := h.tl
    us := h.us.mono fun t xs e => by rw [upd_ne (ne_of e h.hr (by intro q; cases q))]; exact e
    ll := h.ll.mono fun t xs e => by rw [upd_ne (ne_of e h.hr (by intro q; cases q))]; exact e
    lm := h.lm }
theorem Bp.wds (h : Bp CB CM H0 H p A ts ls x) {m : List Int} (hm : m.length = 774) : Bp CB CM H0 (upd H A.w (.lst (m.map V.int))) p A ts ls { x with mem := m } := by
  obtain ⟨sv0, tv0, dv0, hp, hz⟩ := h.hp
  exact {
    sm := same_of h.sm h.fw
    fp := h.fp
    fr := h.fr
    fw := h.fw
    ft := h.ft
    fm := h.fm
    fs := h.fs
    fl := h.fl
    hp := ⟨sv0, tv0, dv0, by rw [upd_ne (ne_of hp h.hw (by intro q; cases q))]; exact hp, hz.mono fun t xs e => by rw [upd_ne (ne_of e h.hw (by intro q; cases q))]; exact e⟩
    hr := by rw [upd_ne (ne_of h.hr h.hw (by intro q; cases q))]; exact h.hr
    hm := by rw [upd_ne (ne_of h.hm h.hw (by intro q; cases q))]; exact h.hm
    hw := upd_same
    hs := by rw [upd_ne (ne_of h.hs h.hw (by intro q; cases q))]; exact h.hs
    ht := by rw [upd_ne h.wt.symm]; exact h.ht
    hl := by rw [upd_ne h.wl.symm]; exact h.hl
    pm := h.pm
    rs := h.rs
    wt := h.wt
    wl := h.wl
    tl := h.tl
    us := h.us.mono fun t xs e => by rw [upd_ne (ne_of e h.hw (by intro q; cases q))]; exact e
    ll := h.ll.mono fun t xs e => by rw [upd_ne (ne_of e h.hw (by intro q; cases q))]; exact e
    lm := hm }
theorem Bp.snd (h : Bp CB CM H0 H p A ts ls x) {q : Addr} {u : Int × Int} (hq : H q = some (.tup [.int u.1, .int u.2])) : Bp CB CM H0 (upd H A.t (.lst (ts ++ [.ref q]))) p A (ts ++ [.ref q]) ls { x with sent := x.sent ++ [u] } := by
  obtain ⟨sv0, tv0, dv0, hp, hz⟩ := h.hp
  exact {
    sm := same_of h.sm h.ft
    fp := h.fp
    fr := h.fr
    fw := h.fw
    ft := h.ft
    fm := h.fm
    fs := h.fs
    fl := h.fl
    hp := ⟨sv0, tv0, dv0, by rw [upd_ne (ne_of hp h.ht (by intro q; cases q))]; exact hp, hz.mono fun t xs e => by rw [upd_ne (ne_of e h.ht (by intro q; cases q))]; exact e⟩
    hr := by rw [upd_ne (ne_of h.hr h.ht (by intro q; cases q))]; exact h.hr
    hm := by rw [upd_ne (ne_of h.hm h.ht (by intro q; cases q))]; exact h.hm
    hw := by rw [upd_ne h.wt]; exact h.hw
    hs := by rw [upd_ne (ne_of h.hs h.ht (by intro q; cases q))]; exact h.hs
    ht := upd_same
    hl := by rw [upd_ne h.tl.symm]; exact h.hl
    pm := h.pm
    rs := h.rs
    wt := h.wt
    wl := h.wl
    tl := h.tl
    us := (TupsAt.snoc hq h.us).mono fun t xs e => by rw [upd_ne (ne_of e h.ht (by intro q; cases q))]; exact e
    ll := h.ll.mono fun t xs e => by rw [upd_ne (ne_of e h.ht (by intro q; cases q))]; exact e
    lm := h.lm }
end
theorem Bp.same {CB CM p : Addr} {H0 H H1 : Hp} {A : Ad} {ts ls : List V} {x : Bd} (h : Bp CB CM H0 H p A ts ls x) (s : Same H H1) : Bp CB CM H0 H1 p A ts ls x where
  sm := h.sm.trans s
  fp := h.fp
  fr := h.fr
  fw := h.fw
  ft := h.ft
  fm := h.fm
  fs := h.fs
  fl := h.fl
  hp := let ⟨sv, tv, dv, e, z⟩ := h.hp; ⟨sv, tv, dv, s _ _ e, z.mono fun t xs e => s _ _ e⟩
  hr := s _ _ h.hr
  hm := s _ _ h.hm
  hw := s _ _ h.hw
  hs := s _ _ h.hs
  ht := s _ _ h.ht
  hl := s _ _ h.hl
  pm := h.pm
  rs := h.rs
  wt := h.wt
  wl := h.wl
  tl := h.tl
  us := h.us.mono fun t xs e => s _ _ e
  ll := h.ll.mono fun t xs e => s _ _ e
  lm := h.lm
/-- all that is not the board's own stands in the base -/
def baseOf (H : Hp) (p : Addr) (A : Ad) : Hp := fun b => if b = p ∨ b = A.r ∨ b = A.w ∨ b = A.t ∨ b = A.m ∨ b = A.s ∨ b = A.l then none else H b
theorem Bp.rebase {CB CM p : Addr} {H0 H : Hp} {A : Ad} {ts ls : List V} {x : Bd} (h : Bp CB CM H0 H p A ts ls x) : Bp CB CM (baseOf H p A) H p A ts ls x where
  sm := fun b o e => by
    unfold baseOf at e
    split at e
    · cases e
    · exact e
  fp := if_pos (.inl rfl)
  fr := if_pos (.inr (.inl rfl))
  fw := if_pos (.inr (.inr (.inl rfl)))
  ft := if_pos (.inr (.inr (.inr (.inl rfl))))
  fm := if_pos (.inr (.inr (.inr (.inr (.inl rfl)))))
  fs := if_pos (.inr (.inr (.inr (.inr (.inr (.inl rfl))))))
  fl := if_pos (.inr (.inr (.inr (.inr (.inr (.inr rfl))))))
  hp := h.hp
  hr := h.hr
  hm := h.hm
  hw := h.hw
  hs := h.hs
  ht := h.ht
  hl := h.hl
  pm := h.pm
  rs := h.rs
  wt := h.wt
  wl := h.wl
  tl := h.tl
  us := h.us
  ll := h.ll
  lm := h.lm
theorem Bp.base_at {CB CM p : Addr} {H0 H : Hp} {A : Ad} {ts ls : List V} {x : Bd} (h : Bp CB CM H0 H p A ts ls x) {b : Addr} (h1 : b ≠ p) (h2 : b ≠ A.r) (h3 : b ≠ A.w) (h4 : b ≠ A.t) (h5 : b ≠ A.m) (h6 : b ≠ A.s) (h7 : b ≠ A.l) : baseOf H p A b = H b := if_neg fun z => by
  rcases z with z | z | z | z | z | z | z
  · exact h1 z
  · exact h2 z
  · exact h3 z
  · exact h4 z
  · exact h5 z
  · exact h6 z
  · exact h7 z
theorem Bp.base_tup {CB CM p : Addr} {H0 H : Hp} {A : Ad} {ts ls : List V} {x : Bd} (h : Bp CB CM H0 H p A ts ls x) : ∀ t xs, H t = some (.tup xs) → baseOf H p A t = some (.tup xs) := fun t xs e => by
  obtain ⟨sv, tv, dv, hp, _⟩ := h.hp
  rw [h.base_at (ne_of e hp (by intro q; cases q)) (ne_of e h.hr (by intro q; cases q)) (ne_of e h.hw (by intro q; cases q)) (ne_of e h.ht (by intro q; cases q)) (ne_of e h.hm (by intro q; cases q)) (ne_of e h.hs (by intro q; cases q)) (ne_of e h.hl (by intro q; cases q))]
  exact e
theorem Bp.base_same {CB CM p : Addr} {H0 H : Hp} {A : Ad} {ts ls : List V} {x : Bd} (h : Bp CB CM H0 H p A ts ls x) : Same H0 (baseOf H p A) := fun b o e => by
  rw [h.base_at (ne_of_none e h.fp) (ne_of_none e h.fr) (ne_of_none e h.fw) (ne_of_none e h.ft) (ne_of_none e h.fm) (ne_of_none e h.fs) (ne_of_none e h.fl)]
  exact h.sm _ _ e
theorem Bp.base_eq {CB CM p : Addr} {H0 H : Hp} {A : Ad} {ts ls : List V} {x : Bd} (h : Bp CB CM H0 H p A ts ls x) {H' : Hp} {b : Addr} {o : HO} (e : H0 b = some o) : baseOf H' p A b = H' b := if_neg fun z => by
  rcases z with z | z | z | z | z | z | z
  · exact ne_of_none e h.fp z
  · exact ne_of_none e h.fr z
  · exact ne_of_none e h.fw z
  · exact ne_of_none e h.ft z
  · exact ne_of_none e h.fm z
  · exact ne_of_none e h.fs z
  · exact ne_of_none e h.fl z
theorem BoardAt.unbase {CB CM p : Addr} {H0 H1 H : Hp} {x : Bd} (s : Same H0 H1) (h : BoardAt CB CM H1 H p x) : BoardAt CB CM H0 H p x := by
  obtain ⟨A, ts, ls, h⟩ := h
  exact ⟨A, ts, ls, {
    sm := s.trans h.sm
    fp := s.free h.fp
    fr := s.free h.fr
    fw := s.free h.fw
    ft := s.free h.ft
    fm := s.free h.fm
    fs := s.free h.fs
    fl := s.free h.fl
    hp := h.hp
    hr := h.hr
    hm := h.hm
    hw := h.hw
    hs := h.hs
    ht := h.ht
    hl := h.hl
    pm := h.pm
    rs := h.rs
    wt := h.wt
    wl := h.wl
    tl := h.tl
    us := h.us
    ll := h.ll
    lm := h.lm }⟩
theorem dg {H : Hp} {r : Addr} {kvs : List (Key × V)} {k : Key} {v : V} (e : H r = some (.dK kvs)) (h : valV kvs k = some v) : DGet H r (kV k) (some v) := h ▸ DGet.k e
theorem dp {H : Hp} {r : Addr} {a b pc sp : Int} {kvs : List (Key × V)} {k : Key} {v : V} (e : H r = some (.dK (regD a b pc sp))) (h : putK (regD a b pc sp) k v = kvs) : DPut H r (kV k) v (upd H r (.dK kvs)) := by
  subst h
  exact DPut.k e (by show 4 < sizeLine; decide)
end Bh

/-! The program's small defs: the memory, what words and images are. -/
namespace Bh
open PySem PySem.Spec PyProof.Rows L2
def topS (i : Nat) : Stmt := PySem.Challenge.pw_boardheld_k34_watches_set.main.body.getD i (.Pass ⟨0, 0, 0, 0⟩)
def rdN : List Str := ["get", "add", "sub", "and", "xor"]
def opN : List Str := ["mark", "lit", "get", "put", "add", "sub", "and", "xor", "getb", "putb", "tob", "swap", "go", "ifz", "ifn", "call", "ret", "push", "pop", "sleep", "let", "back", "half"]
structure Tx (K : PySem.W.Frag) (mg : Str → Option Value) (CB CM : Addr) : Prop where
  g_FLASH_END : ∃ t, mg "FLASH_END" = some (.int 512 t)
  g_RAM_END : ∃ t, mg "RAM_END" = some (.int 768 t)
  g_PLACES_END : ∃ t, mg "PLACES_END" = some (.int 774 t)
  g_COUNT : ∃ t, mg "COUNT" = some (.int 768 t)
  g_TOP : ∃ t, mg "TOP" = some (.int 769 t)
  g_FLAGS : ∃ t, mg "FLAGS" = some (.int 770 t)
  g_MASK : ∃ t, mg "MASK" = some (.int 771 t)
  g_LINE_IN : ∃ t, mg "LINE_IN" = some (.int 772 t)
  g_LINE_OUT : ∃ t, mg "LINE_OUT" = some (.int 773 t)
  g_TIMER_FLAG : ∃ t, mg "TIMER_FLAG" = some (.int 1 t)
  g_LINE_FLAG : ∃ t, mg "LINE_FLAG" = some (.int 2 t)
  g_WORD_MOST : ∃ t, mg "WORD_MOST" = some (.int 65535 t)
  g_ERASED : ∃ t, mg "ERASED" = some (.int 65535 t)
  g_X_SPAN : ∃ t, mg "X_SPAN" = some (.int 1024 t)
  g_LINE_MOST : ∃ t, mg "LINE_MOST" = some (.int 3 t)
  g_STACK_TOP : ∃ t, mg "STACK_TOP" = some (.int 767 t)
  g_INTERRUPT_BEATS : ∃ t, mg "INTERRUPT_BEATS" = some (.int 3 t)
  g_TIMER_PC : ∃ t, mg "TIMER_PC" = some (.int 1 t)
  g_LINE_PC : ∃ t, mg "LINE_PC" = some (.int 2 t)
  g_WORDS : ∃ t, mg "WORDS" = some (.int 65536 t)
  g_HIGH : ∃ t, mg "HIGH" = some (.int 32768 t)
  z_len : mg "len" = none
  z_range : mg "range" = none
  z_isinstance : mg "isinstance" = none
  z_all : mg "all" = none
  z_int : mg "int" = none
  z_bool : mg "bool" = none
  z_list : mg "list" = none
  z_tuple : mg "tuple" = none
  z_divmod : mg "divmod" = none
  g_READS_AT_X : ∃ a, mg "READS_AT_X" = some (.ref a) ∧ ∀ H, SqT K H a (rdN.map V.str)
  g_OP_NAMES : ∃ a, mg "OP_NAMES" = some (.ref a) ∧ ∀ H, SqT K H a (opN.map V.str)
  cB : Cls K CB
  cM : Cls K CM
  n_registers : NoAttr K CB "registers"
  n_zero : NoAttr K CB "zero"
  n_lets : NoAttr K CB "lets"
  n_asleep : NoAttr K CB "asleep"
  n_beat : NoAttr K CB "beat"
  n_stopped : NoAttr K CB "stopped"
  n_sent : NoAttr K CB "sent"
  n_memory : NoAttr K CB "memory"
  n_line : NoAttr K CB "line"
  n_line_at : NoAttr K CB "line_at"
  n_touched : NoAttr K CB "touched"
  n_did : NoAttr K CB "did"
  n_bend : NoAttr K CB "bend"
  n_words : NoAttr K CM "words"
  n_swapped : NoAttr K CM "swapped"
structure MemAt (CM : Addr) (H : Hp) (m dm w s : Addr) (mem : List Int) : Prop where
  hm : H m = some (.ins CM dm (mmF w s))
  hw : H w = some (.lst (mem.map V.int))
  hs : H s = some (.dK [])
  lm : mem.length = 774
theorem Bp.mem {CB CM p : Addr} {H0 H : Hp} {A : Ad} {ts ls : List V} {x : Bd} (h : Bp CB CM H0 H p A ts ls x) : MemAt CM H A.m A.dm A.w A.s x.mem := ⟨h.hm, h.hw, h.hs, h.lm⟩
def kS (b : Bool) : Str := if b = true then "w" else "r"
theorem ne_wr : decide (V.str "w" = V.str "r") = false := by decide +kernel
theorem hsz {n : Nat} (h : n ≤ 100000) : n ≤ sizeLine := Nat.le_trans h (by decide)
theorem natI {n k : Nat} (h : n < k) : (n : Int) < k := by omega
def oS : Option Str → V
  | none => .non
  | some w => .str w
def spBar : Sp := fun vs H Q _ => ∃ t : Bool × Int, vs = [.str (kS t.1), .int t.2] ∧ Q (oS (barM t)) H
def spMRead (CM : Addr) : Sp := fun vs H Q _ => ∃ (m dm w s : Addr) (mem : List Int) (i pc : Int), vs = [.ref m, .int i, .int pc] ∧ MemAt CM H m dm w s mem ∧ 0 ≤ i ∧ i < 774 ∧ Q (.int (rd mem i)) H
def spMAt (CM : Addr) : Sp := fun vs H Q _ => ∃ (m dm w s : Addr) (mem : List Int) (i : Int), vs = [.ref m, .int i] ∧ MemAt CM H m dm w s mem ∧ 0 ≤ i ∧ i < 774 ∧ Q (.int (rd mem i)) H
def spMPut (CM : Addr) : Sp := fun vs H Q _ => ∃ (m dm w s : Addr) (mem : List Int) (i v : Int), vs = [.ref m, .int i, .int v] ∧ MemAt CM H m dm w s mem ∧ 0 ≤ i ∧ i < 774 ∧ Q .non (upd H w (.lst ((putMM i v mem).map V.int)))
def spMCall (CM : Addr) : Sp := fun vs H Q _ => ∃ (m dm w s : Addr) (mem : List Int), vs = [.ref m] ∧ MemAt CM H m dm w s mem ∧ Q (.int (Builtin.bitAnd (rd mem 770) (rd mem 771))) H
def spMTake (CM : Addr) : Sp := fun vs H Q _ => ∃ (m dm w s : Addr) (mem : List Int) (v : Int), vs = [.ref m, .int v] ∧ MemAt CM H m dm w s mem ∧ Q .non (upd H w (.lst ((takeLineM v mem).map V.int)))
def spMTim (CM : Addr) : Sp := fun vs H Q _ => ∃ (m dm w s : Addr) (mem : List Int), vs = [.ref m] ∧ MemAt CM H m dm w s mem ∧ Q .non (upd H w (.lst ((goTimerM mem).map V.int)))
def memOf (ns : List Int) : List Int := ns ++ List.replicate (512 - ns.length) 65535 ++ List.replicate 262 0
def spMI (CM : Addr) : Sp := fun vs H Q _ => ∃ (m dm im : Addr) (ns : List Int), vs = [.ref m, .ref im] ∧ H m = some (.ins CM dm []) ∧ H im = some (.lst (ns.map V.int)) ∧ ns.length ≤ 512 ∧
  ∀ (H' : Hp) (w s : Addr), MemAt CM H' m dm w s (memOf ns) → (∀ b o, b ≠ m → H b = some o → H' b = some o) → H w = none → H s = none → Q .non H'
def spWhole : Sp := fun vs H Q _ => ∃ i : Int, vs = [.int i] ∧ Q (.bl true) H
def spBetw : Sp := fun vs H Q _ => ∃ i a b : Int, vs = [.int i, .int a, .int b] ∧ Q (.bl (decide (a ≤ i ∧ i ≤ b))) H
def spWord : Sp := fun vs H Q _ => ∃ i : Int, vs = [.int i] ∧ Q (.bl (decide (0 ≤ i ∧ i ≤ 65535))) H
def WordsOk (ns : List Int) : Prop := ∀ n ∈ ns, 0 ≤ n ∧ n ≤ 65535
def spImg : Sp := fun vs H Q _ => ∃ (im : Addr) (ns : List Int), vs = [.ref im] ∧ H im = some (.lst (ns.map V.int)) ∧ ns.length ≤ 512 ∧ WordsOk ns ∧ ∀ H', Same H H' → Q (.bl true) H'
/-- the rows rise from behind n on -/
def riseM : Int → List (Int × Int) → Prop
  | _, [] => True
  | n, r :: rs => n < r.1 ∧ 0 ≤ r.2 ∧ r.2 ≤ 3 ∧ riseM r.1 rs
def spLRow : Sp := fun vs H Q _ => ∃ (t : Addr) (r : Int × Int) (n : Int), vs = [.ref t, .int n] ∧ H t = some (.tup [.int r.1, .int r.2]) ∧ n < r.1 ∧ 0 ≤ r.2 ∧ r.2 ≤ 3 ∧ Q (.bl true) H
def spLine : Sp := fun vs H Q _ => ∃ (l : Addr) (us : List V) (ls : List (Int × Int)), vs = [.ref l] ∧ H l = some (.lst us) ∧ TupsAt H us ls ∧ riseM 0 ls ∧ Q (.bl true) H
section
variable {P : Program} {w : World} {K : PySem.W.Frag} {mg : Str → Option Value} {base : Heap} {CB CM : Addr}
abbrev sFbar : Stmt := topS 51
def scFbarN : List Str := ["kind", "address"]
theorem scFbar : FnScope scFbarN ["kind", "address"] (defScope sFbar) := ⟨rfl, rfl, rfl, by decide +kernel, rfl, by decide +kernel, by decide +kernel⟩
theorem ok_Fbar {f : Addr} {fd : FuncData} (F : Fun K "bar_of" "bar_of" sFbar f fd) (T : Tx K mg CB CM) : FnOk P w K mg base CX0 1 f fd ["kind", "address"] (spBar) := by
  refine F.ok scFbar (fun vs H Q E h => by obtain ⟨t, rfl, _⟩ := h; rfl) (fun cdv A outer s H vs Q E hr h => ?_)
  have hu := hu_of hr
  obtain ⟨t_FLASH_END, g_FLASH_END⟩ := T.g_FLASH_END
  obtain ⟨t_LINE_IN, g_LINE_IN⟩ := T.g_LINE_IN
  obtain ⟨t_PLACES_END, g_PLACES_END⟩ := T.g_PLACES_END
  obtain ⟨⟨b, a⟩, rfl, q⟩ := h
  refine ⟨_, (pss_cons (ps_if (pt_not (pt_chain op_le op_lt pe_int (pv 1) (pgI g_PLACES_END))) (pss_one (ps_ret pe_str)) pss_nil)
    (pss_cons (ps_if (pt_cmpR op_eq (pv 0) pe_str (nomark _)) (pss_one (ps_ret pe_non)) pss_nil)
    (pss_cons (ps_if (pt_cmpR op_lt (pv 1) (pgI g_FLASH_END) (nomark _)) (pss_one (ps_ret pe_str)) pss_nil)
    (pss_cons (ps_if (pt_cmpR op_eq (pv 1) (pgI g_LINE_IN) (nomark _)) (pss_one (ps_ret pe_str)) pss_nil)
    (pss_one (ps_ret pe_non)))))), ?_⟩
  have far : ¬ (0 ≤ a ∧ a < 774) → Q (.str "far") H := fun h => by
    unfold barM at q
    rw [if_pos h] at q
    exact q
  refine ⟨_, rfl, _, _, rfl, rfl, _, rfl, ifB (fun t0 => ?_) (fun t0 => ⟨_, rfl, far fun z => absurd z.1 (of_decide_eq_false t0)⟩)⟩
  refine ⟨_, _, rfl, rfl, _, rfl, ifN (fun t1 => far fun z => absurd z.2 (of_decide_eq_false t1)) (fun t1 => ?_)⟩
  have t0 := of_decide_eq_true t0
  have t1 := of_decide_eq_true t1
  unfold barM at q
  rw [if_neg (fun z => z ⟨t0, t1⟩)] at q
  cases b with
  | false => exact ⟨_, rfl, rfl, _, rfl, q⟩
  | true =>
    refine ⟨_, rfl, rfl, _, rfl, ?_⟩
    show if decide (V.str "w" = V.str "r") = true then _ else _
    rw [ne_wr, if_neg Bool.false_ne_true]
    rw [if_neg (show ¬ ((true : Bool) = false) by decide)] at q
    refine ⟨_, rfl, _, _, rfl, rfl, _, rfl, ifB (fun h => ?_) (fun h => ?_)⟩
    · rw [if_pos (of_decide_eq_true h)] at q
      exact q
    · rw [if_neg (of_decide_eq_false h)] at q
      refine ⟨_, rfl, rfl, _, rfl, ifB (fun h2 => ?_) (fun h2 => ?_)⟩
      · rw [if_pos (V.int.inj (of_decide_eq_true h2))] at q
        exact q
      · rw [if_neg (fun z => of_decide_eq_false h2 (congrArg V.int z))] at q
        exact q
abbrev sMat : Stmt := inClass (topS 52) 1
def scMatN : List Str := ["self", "address"]
theorem scMat : FnScope scMatN ["self", "address"] (defScope sMat) := ⟨rfl, rfl, rfl, by decide +kernel, rfl, by decide +kernel, by decide +kernel⟩
theorem ok_Mat {f : Addr} {fd : FuncData} (F : Fun K "word_at" "Memory.word_at" sMat f fd) (T : Tx K mg CB CM) : FnOk P w K mg base CX0 1 f fd ["self", "address"] (spMAt CM) := by
  refine F.ok scMat (fun vs H Q E h => by obtain ⟨_, _, _, _, _, _, rfl, _⟩ := h; rfl) (fun cdv A outer s H vs Q E hr h => ?_)
  have hu := hu_of hr
  obtain ⟨t_PLACES_END, g_PLACES_END⟩ := T.g_PLACES_END
  obtain ⟨m, dm, w_, s_, mem, i, rfl, M, i0, i1, q⟩ := h
  refine ⟨_, (pss_cons (ps_if (pt_chain op_le op_lt pe_int (pv 1) (pgI g_PLACES_END)) (pss_one (ps_ret (pe_ix ix_list (pe_fld (pv 0) rfl) (pv 1) (fun _ _ => rfl)))) pss_nil)
    (pss_one (ps_ret pe_non))), ?_⟩
  refine ⟨_, rfl, _, _, rfl, rfl, _, rfl, ?_⟩
  rw [if_pos (decide_eq_true i0)]
  refine ⟨_, _, rfl, rfl, _, rfl, ifB (fun _ => ?_) (fun h => absurd i1 (of_decide_eq_false h))⟩
  exact ⟨_, rfl, m, CM, dm, _, _, rfl, M.hm, T.cM, T.n_words, mF_w, _, rfl, w_, _, _, _, rfl, rfl, SqL.of M.hw, atI_rd i0 (by rw [M.lm]; exact i1), q⟩
abbrev sMread : Stmt := inClass (topS 52) 2
def scMreadN : List Str := ["self", "address", "pc"]
theorem scMread : FnScope scMreadN ["self", "address", "pc"] (defScope sMread) := ⟨rfl, rfl, rfl, by decide +kernel, rfl, by decide +kernel, by decide +kernel⟩
theorem ok_Mread {f : Addr} {fd : FuncData} (F : Fun K "read" "Memory.read" sMread f fd) (T : Tx K mg CB CM) : FnOk P w K mg base CX0 1 f fd ["self", "address", "pc"] (spMRead CM) := by
  refine F.ok scMread (fun vs H Q E h => by obtain ⟨_, _, _, _, _, _, _, rfl, _⟩ := h; rfl) (fun cdv A outer s H vs Q E hr h => ?_)
  have hu := hu_of hr
  obtain ⟨m, dm, w_, s_, mem, i, pc, rfl, M, i0, i1, q⟩ := h
  refine ⟨_, (pss_cons (ps_if (PW.pt (pw_and (pt_cmp (pc_din hu (pv 1) (pe_fld (pv 0) rfl))) (pw_and1 (pt_cmpR op_ne (pv 1) (pv 2) (nomark _))))) (pss_one (ps_ret pe_int)) pss_nil)
    (pss_one (ps_ret (pe_ix ix_list (pe_fld (pv 0) rfl) (pv 1) (fun _ _ => rfl))))), ?_⟩
  refine ⟨_, rfl, _, rfl, m, CM, dm, _, _, rfl, M.hm, T.cM, T.n_swapped, mF_s, s_, _, rfl, DGet.k (k := Sum.inl i) M.hs, _, rfl, ?_⟩
  exact ⟨_, rfl, m, CM, dm, _, _, rfl, M.hm, T.cM, T.n_words, mF_w, _, rfl, w_, _, _, _, rfl, rfl, SqL.of M.hw, atI_rd i0 (by rw [M.lm]; exact i1), q⟩
abbrev sMput : Stmt := inClass (topS 52) 3
def scMputN : List Str := ["self", "address", "word"]
theorem scMput : FnScope scMputN ["self", "address", "word"] (defScope sMput) := ⟨rfl, rfl, rfl, by decide +kernel, rfl, by decide +kernel, by decide +kernel⟩
theorem ok_Mput {f : Addr} {fd : FuncData} (F : Fun K "put" "Memory.put" sMput f fd) (T : Tx K mg CB CM) : FnOk P w K mg base CX0 1 f fd ["self", "address", "word"] (spMPut CM) := by
  refine F.ok scMput (fun vs H Q E h => by obtain ⟨_, _, _, _, _, _, _, rfl, _⟩ := h; rfl) (fun cdv A outer s H vs Q E hr h => ?_)
  have hu := hu_of hr
  obtain ⟨t_FLAGS, g_FLAGS⟩ := T.g_FLAGS
  obtain ⟨t_WORD_MOST, g_WORD_MOST⟩ := T.g_WORD_MOST
  obtain ⟨m, dm, w_, s_, mem, i, v, rfl, M, i0, i1, q⟩ := h
  refine ⟨_, (pss_one (ps_if (pt_cmpR op_eq (pv 1) (pgI g_FLAGS) (nomark _)) (pss_one (ps_asg (pe_op op_and (pe_ix ix_list (pe_fld (pv 0) rfl) (pgI g_FLAGS) (fun _ _ => rfl)) (pe_op op_sub (pgI g_WORD_MOST) (pv 2))) (pg_sub (pe_fld (pv 0) rfl) (pgI g_FLAGS) set_list))) (pss_one (ps_asg (pv 2) (pg_sub (pe_fld (pv 0) rfl) (pv 1) set_list))))), ?_⟩
  unfold putMM at q
  refine ⟨_, rfl, rfl, _, rfl, ifB (fun h => ?_) (fun h => ?_)⟩
  · have e := V.int.inj (of_decide_eq_true h)
    rw [if_pos e] at q
    refine ⟨_, rfl, m, CM, dm, _, _, rfl, M.hm, T.cM, T.n_words, mF_w, w_, _, _, _, rfl, rfl, SqL.of M.hw, atI_rd (by decide) (by rw [M.lm]; decide), _, rfl, _, _, rfl, rfl, _, _, rfl, rfl, ?_⟩
    refine ⟨_, rfl, m, CM, dm, _, _, rfl, M.hm, T.cM, T.n_words, mF_w, w_, _, _, _, rfl, rfl, M.hw, ixN_in (by decide) (by rw [List.length_map, M.lm]; decide), ?_⟩
    rw [set_map]
    exact q
  · have e : ¬ i = 770 := fun z => of_decide_eq_false h (by rw [z])
    rw [if_neg e] at q
    refine ⟨_, rfl, _, rfl, m, CM, dm, _, _, rfl, M.hm, T.cM, T.n_words, mF_w, _, rfl, w_, _, _, _, rfl, rfl, M.hw, ixN_in i0 (by rw [List.length_map, M.lm]; exact i1), ?_⟩
    rw [set_map]
    exact q
abbrev sMcalled : Stmt := inClass (topS 52) 4
def scMcalledN : List Str := ["self"]
theorem scMcalled : FnScope scMcalledN ["self"] (defScope sMcalled) := ⟨rfl, rfl, rfl, by decide +kernel, rfl, by decide +kernel, by decide +kernel⟩
theorem ok_Mcalled {f : Addr} {fd : FuncData} (F : Fun K "called_flags" "Memory.called_flags" sMcalled f fd) (T : Tx K mg CB CM) : FnOk P w K mg base CX0 1 f fd ["self"] (spMCall CM) := by
  refine F.ok scMcalled (fun vs H Q E h => by obtain ⟨_, _, _, _, _, rfl, _⟩ := h; rfl) (fun cdv A outer s H vs Q E hr h => ?_)
  have hu := hu_of hr
  obtain ⟨t_FLAGS, g_FLAGS⟩ := T.g_FLAGS
  obtain ⟨t_MASK, g_MASK⟩ := T.g_MASK
  obtain ⟨m, dm, w_, s_, mem, rfl, M, q⟩ := h
  refine ⟨_, (pss_one (ps_ret (pe_op op_and (pe_ix ix_list (pe_fld (pv 0) rfl) (pgI g_FLAGS) (fun _ _ => rfl)) (pe_ix ix_list (pe_fld (pv 0) rfl) (pgI g_MASK) (fun _ _ => rfl))))), ?_⟩
  exact ⟨_, rfl, m, CM, dm, _, _, rfl, M.hm, T.cM, T.n_words, mF_w, w_, _, _, _, rfl, rfl, SqL.of M.hw, atI_rd (by decide) (by rw [M.lm]; decide), _, rfl, m, CM, dm, _, _, rfl, M.hm, T.cM, T.n_words, mF_w, w_, _, _, _, rfl, rfl, SqL.of M.hw, atI_rd (by decide) (by rw [M.lm]; decide), _, _, rfl, rfl, q⟩
abbrev sMtake : Stmt := inClass (topS 52) 5
def scMtakeN : List Str := ["self", "value", "rises"]
theorem scMtake : FnScope scMtakeN ["self", "value"] (defScope sMtake) := ⟨rfl, rfl, rfl, by decide +kernel, rfl, by decide +kernel, by decide +kernel⟩
theorem ok_Mtake {f : Addr} {fd : FuncData} (F : Fun K "take_line" "Memory.take_line" sMtake f fd) (T : Tx K mg CB CM) : FnOk P w K mg base CX0 1 f fd ["self", "value"] (spMTake CM) := by
  refine F.ok scMtake (fun vs H Q E h => by obtain ⟨_, _, _, _, _, _, rfl, _⟩ := h; rfl) (fun cdv A outer s H vs Q E hr h => ?_)
  have hu := hu_of hr
  obtain ⟨t_FLAGS, g_FLAGS⟩ := T.g_FLAGS
  obtain ⟨t_LINE_FLAG, g_LINE_FLAG⟩ := T.g_LINE_FLAG
  obtain ⟨t_LINE_IN, g_LINE_IN⟩ := T.g_LINE_IN
  obtain ⟨m, dm, w_, s_, mem, v, rfl, M, q⟩ := h
  refine ⟨_, (pss_cons (ps_set (i := 2) scMtake.nd rfl (.inl rfl) (pe_cmpR op_gt (pe_op op_mod (pv 1) pe_int) (pe_op op_mod (pe_ix ix_list (pe_fld (pv 0) rfl) (pgI g_LINE_IN) (fun _ _ => rfl)) pe_int) (nomark _)))
    (pss_cons (ps_asg (pv 1) (pg_sub (pe_fld (pv 0) rfl) (pgI g_LINE_IN) set_list))
    (pss_one (ps_if (pt_val (pv 2)) (pss_one (ps_asg (pe_op op_or (pe_ix ix_list (pe_fld (pv 0) rfl) (pgI g_FLAGS) (fun _ _ => rfl)) (pgI g_LINE_FLAG)) (pg_sub (pe_fld (pv 0) rfl) (pgI g_FLAGS) set_list))) pss_nil)))), ?_⟩
  unfold takeLineM at q
  refine ⟨_, rfl, _, _, rfl, rfl, (by show (0 : Int) < 2; decide), _, rfl, m, CM, dm, _, _, rfl, M.hm, T.cM, T.n_words, mF_w, w_, _, _, _, rfl, rfl, SqL.of M.hw, atI_rd (by decide) (by rw [M.lm]; decide), _, _, rfl, rfl, (by show (0 : Int) < 2; decide), _, _, rfl, rfl, ?_⟩
  refine ⟨_, rfl, _, rfl, m, CM, dm, _, _, rfl, M.hm, T.cM, T.n_words, mF_w, w_, _, _, _, rfl, rfl, M.hw, ixN_in (by decide) (by rw [List.length_map, M.lm]; decide), ?_⟩
  rw [set_map]
  have mw : m ≠ w_ := ne_of M.hm M.hw (by intro q; cases q)
  have hw2 : upd H w_ (.lst ((stM mem 772 v).map V.int)) w_ = some (.lst ((stM mem 772 v).map V.int)) := upd_same
  have hm2 : upd H w_ (.lst ((stM mem 772 v).map V.int)) m = some (.ins CM dm (mmF w_ s_)) := by rw [upd_ne mw]; exact M.hm
  have l2 : (stM mem 772 v).length = 774 := by rw [stM_len]; exact M.lm
  refine ⟨_, rfl, _, rfl, ifB (fun h => ?_) (fun h => ?_)⟩
  · rw [if_pos (of_decide_eq_true h)] at q
    refine ⟨_, rfl, m, CM, dm, _, _, rfl, hm2, T.cM, T.n_words, mF_w, w_, _, _, _, rfl, rfl, SqL.of hw2, atI_rd (by decide) (by rw [l2]; decide), _, _, rfl, rfl, ?_⟩
    refine ⟨_, rfl, m, CM, dm, _, _, rfl, hm2, T.cM, T.n_words, mF_w, w_, _, _, _, rfl, rfl, hw2, ixN_in (by decide) (by rw [List.length_map, l2]; decide), ?_⟩
    rw [set_map, upd_upd]
    exact q
  · rw [if_neg (of_decide_eq_false h)] at q
    exact q
abbrev sMtimer : Stmt := inClass (topS 52) 6
def scMtimerN : List Str := ["self", "top", "count"]
theorem scMtimer : FnScope scMtimerN ["self"] (defScope sMtimer) := ⟨rfl, rfl, rfl, by decide +kernel, rfl, by decide +kernel, by decide +kernel⟩
theorem ok_Mtimer {f : Addr} {fd : FuncData} (F : Fun K "go_timer" "Memory.go_timer" sMtimer f fd) (T : Tx K mg CB CM) : FnOk P w K mg base CX0 1 f fd ["self"] (spMTim CM) := by
  refine F.ok scMtimer (fun vs H Q E h => by obtain ⟨_, _, _, _, _, rfl, _⟩ := h; rfl) (fun cdv A outer s H vs Q E hr h => ?_)
  have hu := hu_of hr
  obtain ⟨t_COUNT, g_COUNT⟩ := T.g_COUNT
  obtain ⟨t_FLAGS, g_FLAGS⟩ := T.g_FLAGS
  obtain ⟨t_TIMER_FLAG, g_TIMER_FLAG⟩ := T.g_TIMER_FLAG
  obtain ⟨t_TOP, g_TOP⟩ := T.g_TOP
  obtain ⟨m, dm, w_, s_, mem, rfl, M, q⟩ := h
  refine ⟨_, (pss_cons (ps_set (i := 1) scMtimer.nd rfl (.inl rfl) (pe_ix ix_list (pe_fld (pv 0) rfl) (pgI g_TOP) (fun _ _ => rfl)))
    (pss_cons (ps_if (pt_cmpR op_eq (pv 1) pe_int (nomark _)) (pss_one ps_retN) pss_nil)
    (pss_cons (ps_set (i := 2) scMtimer.nd rfl (.inl rfl) (pe_op op_add (pe_ix ix_list (pe_fld (pv 0) rfl) (pgI g_COUNT) (fun _ _ => rfl)) pe_int))
    (pss_cons (ps_if (pt_cmpR op_ge (pv 2) (pv 1) (nomark _)) (pss_cons (ps_set (i := 2) scMtimer.nd rfl (.inl rfl) pe_int)
    (pss_one (ps_asg (pe_op op_or (pe_ix ix_list (pe_fld (pv 0) rfl) (pgI g_FLAGS) (fun _ _ => rfl)) (pgI g_TIMER_FLAG)) (pg_sub (pe_fld (pv 0) rfl) (pgI g_FLAGS) set_list)))) pss_nil)
    (pss_one (ps_asg (pv 2) (pg_sub (pe_fld (pv 0) rfl) (pgI g_COUNT) set_list))))))), ?_⟩
  unfold goTimerM at q
  refine ⟨_, rfl, m, CM, dm, _, _, rfl, M.hm, T.cM, T.n_words, mF_w, w_, _, _, _, rfl, rfl, SqL.of M.hw, atI_rd (by decide) (by rw [M.lm]; decide), ?_⟩
  refine ⟨_, rfl, rfl, _, rfl, ifB (fun h => ?_) (fun h => ?_)⟩
  · rw [if_pos (V.int.inj (of_decide_eq_true h)), upd_id M.hw] at q
    exact q
  · rw [if_neg (fun z => of_decide_eq_false h (by rw [z]))] at q
    refine ⟨_, rfl, m, CM, dm, _, _, rfl, M.hm, T.cM, T.n_words, mF_w, w_, _, _, _, rfl, rfl, SqL.of M.hw, atI_rd (by decide) (by rw [M.lm]; decide), _, _, rfl, rfl, ?_⟩
    refine ⟨_, rfl, _, rfl, _, _, rfl, rfl, _, rfl, ifB (fun h2 => ?_) (fun h2 => ?_)⟩
    · rw [if_pos (of_decide_eq_true h2)] at q
      have mw : m ≠ w_ := ne_of M.hm M.hw (by intro q; cases q)
      refine ⟨_, rfl, m, CM, dm, _, _, rfl, M.hm, T.cM, T.n_words, mF_w, w_, _, _, _, rfl, rfl, SqL.of M.hw, atI_rd (by decide) (by rw [M.lm]; decide), _, _, rfl, rfl, ?_⟩
      refine ⟨_, rfl, m, CM, dm, _, _, rfl, M.hm, T.cM, T.n_words, mF_w, w_, _, _, _, rfl, rfl, M.hw, ixN_in (by decide) (by rw [List.length_map, M.lm]; decide), ?_⟩
      rw [set_map]
      refine ⟨_, rfl, _, rfl, m, CM, dm, _, _, rfl, (by rw [upd_ne mw]; exact M.hm), T.cM, T.n_words, mF_w, w_, _, _, _, rfl, rfl, upd_same, ixN_in (by decide) (by rw [List.length_map, stM_len, M.lm]; decide), ?_⟩
      rw [set_map, upd_upd]
      exact q
    · rw [if_neg (of_decide_eq_false h2)] at q
      refine ⟨_, rfl, _, rfl, m, CM, dm, _, _, rfl, M.hm, T.cM, T.n_words, mF_w, w_, _, _, _, rfl, rfl, M.hw, ixN_in (by decide) (by rw [List.length_map, M.lm]; decide), ?_⟩
      rw [set_map]
      exact q
end
end Bh

/-! What words, images and lines are; a memory is made. -/
namespace Bh
open PySem PySem.Spec PyProof.Rows L2
theorem flat_rep (n : Nat) (v : Int) : (List.replicate n [V.int v]).flatten = (List.replicate n v).map V.int := by
  induction n with
  | zero => rfl
  | succ n ih => rw [List.replicate_succ, List.flatten_cons, ih, List.replicate_succ, List.map_cons]; rfl
section
variable {P : Program} {w : World} {K : PySem.W.Frag} {mg : Str → Option Value} {base : Heap} {CB CM : Addr}
abbrev sFwhole : Stmt := topS 57
def scFwholeN : List Str := ["thing"]
theorem scFwhole : FnScope scFwholeN ["thing"] (defScope sFwhole) := ⟨rfl, rfl, rfl, by decide +kernel, rfl, by decide +kernel, by decide +kernel⟩
theorem ok_Fwhole {f : Addr} {fd : FuncData} (F : Fun K "is_whole" "is_whole" sFwhole f fd) (T : Tx K mg CB CM) : FnOk P w K mg base CX0 1 f fd ["thing"] (spWhole) := by
  refine F.ok scFwhole (fun vs H Q E h => by obtain ⟨_, rfl, _⟩ := h; rfl) (fun cdv A outer s H vs Q E hr h => ?_)
  have hu := hu_of hr
  have z_bool := T.z_bool
  have z_int := T.z_int
  have z_isinstance := T.z_isinstance
  obtain ⟨i, rfl, q⟩ := h
  refine ⟨_, (pss_one (ps_ret (pe_and (pe_callB call_isi (by rfl) z_isinstance (by decide +kernel) (pa_cons (pv 0) (pa_cons (pe_bltn (v := .ty "int") (u := .type "int") (by rfl) z_int (by decide +kernel) rfl) pa_nil))) (pe_one (pe_not (pe_callB call_isi (by rfl) z_isinstance (by decide +kernel) (pa_cons (pv 0) (pa_cons (pe_bltn (v := .ty "bool") (u := .type "bool") (by rfl) z_bool (by decide +kernel) rfl) pa_nil)))))))), ?_⟩
  refine ⟨_, rfl, .int i, .ty "int", _, _, true, rfl, .ty "int", .base (.int i), kit_ty (by decide +kernel), _, rfl, ifB (fun _ => ?_) (fun h => by cases h)⟩
  exact ⟨_, rfl, .int i, .ty "bool", _, _, false, rfl, .ty "bool", .base (.int i), kit_ty (by decide +kernel), _, rfl, q⟩
abbrev sFbetw : Stmt := topS 58
def scFbetwN : List Str := ["thing", "least", "greatest"]
theorem scFbetw : FnScope scFbetwN ["thing", "least", "greatest"] (defScope sFbetw) := ⟨rfl, rfl, rfl, by decide +kernel, rfl, by decide +kernel, by decide +kernel⟩
theorem ok_Fbetw {f : Addr} {fd : FuncData} {fF_whole : Addr} {dF_whole : FuncData} (F : Fun K "is_between" "is_between" sFbetw f fd) (T : Tx K mg CB CM)
    (F_whole : CalF P w K mg base 1 "is_whole" ["thing"] (spWhole) fF_whole dF_whole) : FnOk P w K mg base CX0 2 f fd ["thing", "least", "greatest"] (spBetw) := by
  refine F.ok scFbetw (fun vs H Q E h => by obtain ⟨_, _, _, rfl, _⟩ := h; rfl) (fun cdv A outer s H vs Q E hr h => ?_)
  have hu := hu_of hr
  obtain ⟨i, a, b, rfl, q⟩ := h
  refine ⟨_, (pss_one (ps_ret (pe_and (pe_call F_whole.G (hr.mono (by decide)) (by rfl) F_whole.g F_whole.kp F_whole.b .nil pass0 (pa_cons (pv 0) pa_nil)) (pe_one (pe_chain op_le op_le (pv 1) (pv 0) (pv 2)))))), ?_⟩
  refine ⟨_, rfl, i, rfl, _, rfl, ifB (fun _ => ?_) (fun h => by cases h)⟩
  refine ⟨_, rfl, _, rfl, _, _, rfl, rfl, _, rfl, ifB (fun h => ?_) (fun h => ?_)⟩
  · have h' := of_decide_eq_true h
    have e : decide (a ≤ i ∧ i ≤ b) = decide (i ≤ b) := by simp [h']
    rw [e] at q
    exact ⟨_, rfl, _, _, rfl, rfl, q⟩
  · have h' := of_decide_eq_false h
    have e : decide (a ≤ i ∧ i ≤ b) = false := by simp [h']
    rw [e] at q
    exact q
abbrev sFword : Stmt := topS 59
def scFwordN : List Str := ["thing"]
theorem scFword : FnScope scFwordN ["thing"] (defScope sFword) := ⟨rfl, rfl, rfl, by decide +kernel, rfl, by decide +kernel, by decide +kernel⟩
theorem ok_Fword {f : Addr} {fd : FuncData} {fF_betw : Addr} {dF_betw : FuncData} (F : Fun K "is_word" "is_word" sFword f fd) (T : Tx K mg CB CM)
    (F_betw : CalF P w K mg base 2 "is_between" ["thing", "least", "greatest"] (spBetw) fF_betw dF_betw) : FnOk P w K mg base CX0 3 f fd ["thing"] (spWord) := by
  refine F.ok scFword (fun vs H Q E h => by obtain ⟨_, rfl, _⟩ := h; rfl) (fun cdv A outer s H vs Q E hr h => ?_)
  have hu := hu_of hr
  obtain ⟨t_WORD_MOST, g_WORD_MOST⟩ := T.g_WORD_MOST
  obtain ⟨i, rfl, q⟩ := h
  refine ⟨_, (pss_one (ps_ret (pe_call F_betw.G (hr.mono (by decide)) (by rfl) F_betw.g F_betw.kp F_betw.b .nil pass0 (pa_cons (pv 0) (pa_cons pe_int (pa_cons (pgI g_WORD_MOST) pa_nil)))))), ?_⟩
  exact ⟨_, rfl, i, 0, 65535, rfl, q⟩
abbrev sFimage : Stmt := topS 60
def scFimageN : List Str := ["thing", "word"]
theorem scFimage : FnScope scFimageN ["thing"] (defScope sFimage) := ⟨rfl, rfl, rfl, by decide +kernel, rfl, by decide +kernel, by decide +kernel⟩
theorem ok_Fimage {f : Addr} {fd : FuncData} {fF_word : Addr} {dF_word : FuncData} (F : Fun K "is_image" "is_image" sFimage f fd) (T : Tx K mg CB CM)
    (F_word : CalF P w K mg base 3 "is_word" ["thing"] (spWord) fF_word dF_word) : FnOk P w K mg base CX0 4 f fd ["thing"] (spImg) := by
  refine F.ok scFimage (fun vs H Q E h => by obtain ⟨_, _, rfl, _⟩ := h; rfl) (fun cdv A outer s H vs Q E hr h => ?_)
  have hu := hu_of hr
  obtain ⟨t_FLASH_END, g_FLASH_END⟩ := T.g_FLASH_END
  have z_all := T.z_all
  have z_isinstance := T.z_isinstance
  have z_len := T.z_len
  have z_list := T.z_list
  obtain ⟨im, ns, rfl, hm, hl, hw, q⟩ := h
  refine ⟨_, (pss_one (ps_ret (pe_and (pe_callB call_isi (by rfl) z_isinstance (by decide +kernel) (pa_cons (pv 0) (pa_cons (pe_bltn (v := .ty "list") (u := .type "list") (by rfl) z_list (by decide +kernel) rfl) pa_nil))) (pe_and (pe_cmpR op_le (pe_callB call_len_seq (by rfl) z_len PySem.boot_len (pa_cons (pv 0) pa_nil)) (pgI g_FLASH_END) (nomark _)) (pe_one (pe_callB (cr_all rfl) (by rfl) z_all (by decide +kernel) (pa_cons (pe_lc (own := [("word", 1)]) (g := gName 1) (tt := tYes) (by rfl) scFimage.nd (pi_list (pv 0)) (blkOk_by (own := [("word", 1)]) (N := scFimageN) (sc := defScope sFimage) (by decide +kernel)) (fun _ _ _ _ _ => (pg_name (i := 1) scFimage.nd rfl (.inl rfl))) (fun _ _ _ _ _ => pts_nil) (fun _ _ _ _ _ => (pe_call F_word.G (hr.mono (by decide)) (by rfl) F_word.g F_word.kp F_word.b .nil pass0 (pa_cons (pv 1) pa_nil)))) pa_nil))))))), ?_⟩
  refine ⟨_, rfl, .ref im, .ty "list", _, _, true, rfl, .ty "list", .base (.lst hm), kit_ty (by decide +kernel), _, rfl, ifB (fun _ => ?_) (fun h => by cases h)⟩
  refine ⟨_, rfl, im, _, rfl, .inl (SqL.of hm), _, _, rfl, rfl, _, rfl, ifB (fun _ => ?_) (fun h => absurd (show ((ns.map V.int).length : Int) ≤ 512 by rw [List.length_map]; omega) (of_decide_eq_false h))⟩
  refine ⟨_, rfl, im, rfl, ⟨_, SqL.of hm⟩, fun D nD => ?_⟩
  refine lc_list (K := K) (a := im) (xs := ns.map V.int) (fun i H' => Same H H' ∧ H' D = some (.lst ((List.replicate i true).map V.bl))) ⟨same_upd' nD, upd_same⟩ (fun i H' _ h => SqL.of (h.1 _ _ hm)) ?_ ?_
  · rintro j v H' hv ⟨sm, hD⟩
    obtain ⟨n, hn, rfl⟩ : ∃ n, ns[j]? = some n ∧ V.int n = v := by
      rw [List.getElem?_map] at hv
      cases e : ns[j]? with
      | none => rw [e] at hv; cases hv
      | some n => rw [e] at hv; exact ⟨n, rfl, Option.some.inj hv⟩
    have hj := (List.getElem?_eq_some_iff.mp hn).1
    refine ⟨rfl, ?_⟩
    refine ⟨_, rfl, n, rfl, ?_⟩
    rw [decide_eq_true (hw n (List.mem_of_getElem? hn))]
    refine ⟨_, hD, ?_, same_of sm nD, ?_⟩
    · rw [List.length_map, List.length_replicate]
      exact small1000 (by omega)
    · rw [upd_same, List.replicate_succ', List.map_append]
      rfl
  · rintro H4 ⟨sm, hD⟩
    refine ⟨D, _, rfl, SqL.of hD, ?_⟩
    have e : (List.replicate (ns.map V.int).length true).all id = true := by simp
    rw [e]
    exact q _ sm
abbrev sFlrow : Stmt := topS 62
def scFlrowN : List Str := ["row", "last"]
theorem scFlrow : FnScope scFlrowN ["row", "last"] (defScope sFlrow) := ⟨rfl, rfl, rfl, by decide +kernel, rfl, by decide +kernel, by decide +kernel⟩
theorem ok_Flrow {f : Addr} {fd : FuncData} {fF_betw : Addr} {dF_betw : FuncData} {fF_whole : Addr} {dF_whole : FuncData} (F : Fun K "is_line_row" "is_line_row" sFlrow f fd) (T : Tx K mg CB CM)
    (F_betw : CalF P w K mg base 2 "is_between" ["thing", "least", "greatest"] (spBetw) fF_betw dF_betw)
    (F_whole : CalF P w K mg base 1 "is_whole" ["thing"] (spWhole) fF_whole dF_whole) : FnOk P w K mg base CX0 3 f fd ["row", "last"] (spLRow) := by
  refine F.ok scFlrow (fun vs H Q E h => by obtain ⟨_, _, _, rfl, _⟩ := h; rfl) (fun cdv A outer s H vs Q E hr h => ?_)
  have hu := hu_of hr
  obtain ⟨t_LINE_MOST, g_LINE_MOST⟩ := T.g_LINE_MOST
  have z_isinstance := T.z_isinstance
  have z_len := T.z_len
  have z_tuple := T.z_tuple
  obtain ⟨t, r, n, rfl, ht, h1, h2, h3, q⟩ := h
  refine ⟨_, (pss_cons (ps_if (PW.pt (pw_or (pt_not (pt_val (pe_callB call_isi (by rfl) z_isinstance (by decide +kernel) (pa_cons (pv 0) (pa_cons (pe_bltn (v := .ty "tuple") (u := .type "tuple") (by rfl) z_tuple (by decide +kernel) rfl) pa_nil))))) (pw_or1 (pt_cmpR op_ne (pe_callB call_len_seq (by rfl) z_len PySem.boot_len (pa_cons (pv 0) pa_nil)) pe_int (nomark _))))) (pss_one (ps_ret pe_bl)) pss_nil)
    (pss_one (ps_ret (pe_and (pe_call F_whole.G (hr.mono (by decide)) (by rfl) F_whole.g F_whole.kp F_whole.b .nil pass0 (pa_cons (pe_ix ix_tup (pv 0) pe_int (fun _ _ => rfl)) pa_nil)) (pe_and (pe_cmpR op_gt (pe_ix ix_tup (pv 0) pe_int (fun _ _ => rfl)) (pv 1) (nomark _)) (pe_one (pe_call F_betw.G (hr.mono (by decide)) (by rfl) F_betw.g F_betw.kp F_betw.b .nil pass0 (pa_cons (pe_ix ix_tup (pv 0) pe_int (fun _ _ => rfl)) (pa_cons pe_int (pa_cons (pgI g_LINE_MOST) pa_nil)))))))))), ?_⟩
  refine ⟨_, rfl, .ref t, .ty "tuple", _, _, true, rfl, .ty "tuple", .base (.tup ht), kit_ty (by decide +kernel), _, rfl, ifN (fun h => by cases h) (fun _ => ?_)⟩
  refine ⟨_, rfl, t, _, rfl, .inr (SqT.of ht), rfl, _, rfl, ifN (fun h => absurd rfl (of_decide_eq_false h)) (fun _ => ?_)⟩
  refine ⟨_, rfl, t, _, 0, _, rfl, rfl, SqT.of ht, atI_nat (j := 0) rfl, _, rfl, _, rfl, ifB (fun _ => ?_) (fun h => by cases h)⟩
  refine ⟨_, rfl, t, _, 0, _, rfl, rfl, SqT.of ht, atI_nat (j := 0) rfl, _, rfl, _, _, rfl, rfl, _, rfl, ifB (fun _ => ?_) (fun h => absurd h1 (of_decide_eq_false h))⟩
  refine ⟨_, rfl, t, _, 1, _, rfl, rfl, SqT.of ht, atI_nat (j := 1) rfl, r.2, 0, 3, rfl, ?_⟩
  rw [decide_eq_true (⟨h2, h3⟩ : 0 ≤ r.2 ∧ r.2 ≤ 3)]
  exact q
theorem rise_get : ∀ {ls : List (Int × Int)} {n : Int} {i : Nat} {r : Int × Int}, riseM n ls → ls[i]? = some r → (if i = 0 then n else (ls.getD (i - 1) (0, 0)).1) < r.1 ∧ 0 ≤ r.2 ∧ r.2 ≤ 3
  | [], _, _, _, _, h => by cases h
  | u :: us, n, 0, r, ⟨a, b, c, _⟩, h => by
    cases h
    exact ⟨a, b, c⟩
  | u :: us, n, 1, r, ⟨_, _, _, d⟩, h => by
    have := rise_get (i := 0) d h
    exact this
  | u :: us, n, i + 2, r, ⟨_, _, _, d⟩, h => by
    have := rise_get (i := i + 1) d h
    exact this
abbrev sFline : Stmt := topS 61
def scFlineN : List Str := ["thing", "last", "row"]
theorem scFline : FnScope scFlineN ["thing"] (defScope sFline) := ⟨rfl, rfl, rfl, by decide +kernel, rfl, by decide +kernel, by decide +kernel⟩
theorem ok_Fline {f : Addr} {fd : FuncData} {fF_lrow : Addr} {dF_lrow : FuncData} (F : Fun K "is_line" "is_line" sFline f fd) (T : Tx K mg CB CM)
    (F_lrow : CalF P w K mg base 3 "is_line_row" ["row", "last"] (spLRow) fF_lrow dF_lrow) : FnOk P w K mg base CX0 4 f fd ["thing"] (spLine) := by
  refine F.ok scFline (fun vs H Q E h => by obtain ⟨_, _, _, rfl, _⟩ := h; rfl) (fun cdv A outer s H vs Q E hr h => ?_)
  have hu := hu_of hr
  have z_isinstance := T.z_isinstance
  have z_list := T.z_list
  obtain ⟨l, us, ls, rfl, hl, ht, hr2, q⟩ := h
  refine ⟨_, (pss_cons (ps_if (pt_not (pt_val (pe_callB call_isi (by rfl) z_isinstance (by decide +kernel) (pa_cons (pv 0) (pa_cons (pe_bltn (v := .ty "list") (u := .type "list") (by rfl) z_list (by decide +kernel) rfl) pa_nil))))) (pss_one (ps_ret pe_bl)) pss_nil)
    (pss_cons (ps_set (i := 1) scFline.nd rfl (.inl rfl) pe_int)
    (pss_cons (ps_for PassesOwn.never rfl (pi_list (pv 0)) (pg_name (i := 2) scFline.nd rfl (.inl rfl))
      (pss_cons (ps_if (pt_not (pt_val (pe_call F_lrow.G (hr.mono (by decide)) (by rfl) F_lrow.g F_lrow.kp F_lrow.b .nil pass0 (pa_cons (pv 2) (pa_cons (pv 1) pa_nil))))) (pss_one (ps_ret pe_bl)) pss_nil)
    (pss_one (ps_set (i := 1) scFline.nd rfl (.inl rfl) (pe_ix ix_tup (pv 2) pe_int (fun _ _ => rfl))))))
    (pss_one (ps_ret pe_bl))))), ?_⟩
  refine ⟨_, rfl, .ref l, .ty "list", _, _, true, rfl, .ty "list", .base (.lst hl), kit_ty (by decide +kernel), _, rfl, ifN (fun h => by cases h) (fun _ => ?_)⟩
  refine ⟨_, rfl, l, rfl, ⟨_, SqL.of hl⟩, ?_⟩
  refine for_list (K := K) (a := l) (xs := us) (fun i σ H' => H' = H ∧ ∃ y, σ = [some (.ref l), some (.int (if i = 0 then 0 else (ls.getD (i - 1) (0, 0)).1)), y]) ⟨rfl, none, rfl⟩ (fun i σ H' _ h => by obtain ⟨rfl, _⟩ := h; exact SqL.of hl) ?_ ?_
  · rintro i v σ H' hv ⟨rfl, y, rfl⟩
    have hi : i < ls.length := by
      rw [← TupsAt.len ht]
      exact (List.getElem?_eq_some_iff.mp hv).1
    obtain ⟨t, e1, e2⟩ := TupsAt.get ht hi
    have hv2 : v = .ref t := Option.some.inj (hv.symm.trans e1)
    subst hv2
    have hg : ls[i]? = some (ls.getD i (0, 0)) := by rw [List.getD_eq_getElem?_getD, List.getElem?_eq_getElem hi]; rfl
    obtain ⟨r1, r2, r3⟩ := rise_get hr2 hg
    refine ⟨_, rfl, _, rfl, t, _, _, rfl, e2, r1, r2, r3, _, rfl, ifN (fun h => by cases h) (fun _ => ?_)⟩
    refine ⟨_, rfl, t, _, 0, _, rfl, rfl, SqT.of e2, atI_nat (j := 0) rfl, rfl, some (.ref t), rfl⟩
  · rintro σ H' ⟨rfl, y, rfl⟩
    exact q
abbrev sCmem : Stmt := inClass (topS 52) 0
def scCmemN : List Str := ["self", "image", "erased", "nought"]
theorem scCmem : FnScope scCmemN ["self", "image"] (defScope sCmem) := ⟨rfl, rfl, rfl, by decide +kernel, rfl, by decide +kernel, by decide +kernel⟩
theorem ok_Cmem {f : Addr} {fd : FuncData} (F : Fun K "__init__" "Memory.__init__" sCmem f fd) (T : Tx K mg CB CM) : FnOk P w K mg base CX0 1 f fd ["self", "image"] (spMI CM) := by
  refine F.ok scCmem (fun vs H Q E h => by obtain ⟨_, _, _, _, rfl, _⟩ := h; rfl) (fun cdv A outer s H vs Q E hr h => ?_)
  have hu := hu_of hr
  obtain ⟨t_ERASED, g_ERASED⟩ := T.g_ERASED
  obtain ⟨t_FLASH_END, g_FLASH_END⟩ := T.g_FLASH_END
  obtain ⟨t_PLACES_END, g_PLACES_END⟩ := T.g_PLACES_END
  have z_len := T.z_len
  have z_list := T.z_list
  obtain ⟨m, dm, im, ns, rfl, hm, him, hl, q⟩ := h
  refine ⟨_, (pss_cons (ps_set (i := 2) scCmem.nd rfl (.inl rfl) (pe_op op_rep (pe_lst (pa_cons (pgI g_ERASED) pa_nil)) (pe_op op_sub (pgI g_FLASH_END) (pe_callB call_len_seq (by rfl) z_len PySem.boot_len (pa_cons (pv 1) pa_nil)))))
    (pss_cons (ps_set (i := 3) scCmem.nd rfl (.inl rfl) (pe_op op_rep (pe_lst (pa_cons pe_int pa_nil)) (pe_op op_sub (pgI g_PLACES_END) (pgI g_FLASH_END))))
    (pss_cons (ps_fld (pv 0) (pe_op op_cat (pe_op op_cat (pe_callTy call_list_of (by rfl) z_list (by decide +kernel) (pa_cons (pv 1) pa_nil)) (pv 2)) (pv 3)) rfl)
    (pss_one (ps_fld (pv 0) pe_dnewK rfl))))), ?_⟩
  have mim : m ≠ im := ne_of hm him (by intro q; cases q)
  refine ⟨(by show 1 ≤ sizeLine; decide), fun l1 n1 => ?_⟩
  have s1 : Same H (upd H l1 (.lst [.int 65535])) := same_upd' n1
  refine ⟨_, rfl, im, _, rfl, .inl (SqL.of (s1 _ _ him)), _, _, rfl, rfl, l1, _, _, rfl, rfl, upd_same, ?_, ?_, ?_, fun l2 n2 => ?_⟩
  · rw [List.length_map]; omega
  · rw [List.length_map]; omega
  · rw [List.length_map, List.length_singleton]; exact hsz (by omega)
  have e2 : (List.replicate (512 - ((ns.map V.int).length : Int)).toNat [V.int 65535]).flatten = (List.replicate (512 - ns.length) (65535 : Int)).map V.int := by
    rw [List.length_map, show (512 - (ns.length : Int)).toNat = 512 - ns.length by omega]
    exact flat_rep _ _
  rw [e2]
  have s2 := s1.trans (same_upd' (o := .lst ((List.replicate (512 - ns.length) (65535 : Int)).map V.int)) n2)
  have h2 : upd (upd H l1 (.lst [.int 65535])) l2 (.lst ((List.replicate (512 - ns.length) (65535 : Int)).map V.int)) l2 = _ := upd_same
  generalize upd (upd H l1 (.lst [.int 65535])) l2 (.lst ((List.replicate (512 - ns.length) (65535 : Int)).map V.int)) = H2 at *
  refine ⟨(by show 1 ≤ sizeLine; decide), fun l3 n3 => ?_⟩
  have s3 := s2.trans (same_upd' (o := .lst [.int 0]) n3)
  have h23 := same_upd' (o := .lst [.int 0]) n3 _ _ h2
  refine ⟨_, _, rfl, rfl, l3, _, _, rfl, rfl, upd_same, by omega, by omega, (by show 1 * 262 ≤ sizeLine; decide), fun l4 n4 => ?_⟩
  have e4 : (List.replicate ((774 : Int) - 512).toNat [V.int 0]).flatten = (List.replicate 262 (0 : Int)).map V.int := flat_rep 262 0
  rw [e4]
  have s4 := s3.trans (same_upd' (o := .lst ((List.replicate 262 (0 : Int)).map V.int)) n4)
  have h24 := same_upd' (o := .lst ((List.replicate 262 (0 : Int)).map V.int)) n4 _ _ h23
  have h4 : upd (upd H2 l3 (.lst [.int 0])) l4 (.lst ((List.replicate 262 (0 : Int)).map V.int)) l4 = _ := upd_same
  generalize upd (upd H2 l3 (.lst [.int 0])) l4 (.lst ((List.replicate 262 (0 : Int)).map V.int)) = H4 at *
  refine ⟨_, rfl, im, _, rfl, .inl (SqL.of (s4 _ _ him)), fun l5 n5 => ?_⟩
  have s5 := s4.trans (same_upd' (o := .lst (ns.map V.int)) n5)
  have h25 := same_upd' (o := .lst (ns.map V.int)) n5 _ _ h24
  have h45 := same_upd' (o := .lst (ns.map V.int)) n5 _ _ h4
  refine ⟨_, rfl, l5, l2, _, _, rfl, rfl, upd_same, h25, ?_, fun l6 n6 => ?_⟩
  · rw [List.length_map, List.length_map, List.length_replicate]; exact hsz (by omega)
  have s6 := s5.trans (same_upd' (o := .lst (ns.map V.int ++ (List.replicate (512 - ns.length) (65535 : Int)).map V.int)) n6)
  have h46 := same_upd' (o := .lst (ns.map V.int ++ (List.replicate (512 - ns.length) (65535 : Int)).map V.int)) n6 _ _ h45
  refine ⟨_, rfl, l6, l4, _, _, rfl, rfl, upd_same, h46, ?_, fun l7 n7 => ?_⟩
  · rw [List.length_append, List.length_map, List.length_map, List.length_map, List.length_replicate, List.length_replicate]; exact hsz (by omega)
  have em : ns.map V.int ++ (List.replicate (512 - ns.length) (65535 : Int)).map V.int ++ (List.replicate 262 (0 : Int)).map V.int = (memOf ns).map V.int := by
    unfold memOf
    rw [List.map_append, List.map_append]
  rw [em]
  have s7 := s6.trans (same_upd' (o := .lst ((memOf ns).map V.int)) n7)
  have f7 : H l7 = none := s6.free n7
  generalize upd (upd H4 l5 (.lst (ns.map V.int))) l6 (.lst (ns.map V.int ++ (List.replicate (512 - ns.length) (65535 : Int)).map V.int)) = H6 at *
  have h7 : upd H6 l7 (.lst ((memOf ns).map V.int)) l7 = _ := upd_same
  generalize upd H6 l7 (.lst ((memOf ns).map V.int)) = H7 at *
  have ml : m ≠ l7 := ne_of_none hm f7
  refine ⟨_, rfl, m, CM, dm, [], rfl, s7 _ _ hm, T.cM, T.n_words, (by show 0 < 1000; decide), ?_⟩
  intro s_ ns_
  have ms : m ≠ s_ := fun e => by rw [← e, upd_same] at ns_; cases ns_
  rw [upd_ne ms.symm] at ns_
  refine ⟨_, rfl, m, CM, dm, _, rfl, (by rw [upd_ne ms]; exact upd_same), T.cM, T.n_swapped, (by show 1 < 1000; decide), ?_⟩
  refine q _ l7 s_ ?_ ?_ f7 (s7.free ns_)
  · refine ⟨?_, ?_, ?_, ?_⟩
    · rw [upd_same]
      exact congrArg (fun z => some (HO.ins CM dm z)) (by kernel_rfl)
    · rw [upd_ne ml.symm, upd_ne (ne_of_none h7 ns_), upd_ne ml.symm]
      exact h7
    · rw [upd_ne ms.symm, upd_same]
    · unfold memOf
      rw [List.length_append, List.length_append, List.length_replicate, List.length_replicate]
      omega
  · intro b o hb e
    rw [upd_ne hb, upd_ne (ne_of_none (s7 _ _ e) ns_), upd_ne hb]
    exact s7 _ _ e
end
end Bh

/-! What deeds touch, and what they do. -/
namespace Bh
open PySem PySem.Spec PyProof.Rows L2
def touN (nm : Str) (n b sp : Int) : List (Bool × Int) :=
  if nm ∈ rdN then [(false, n)] else if nm = "put" then [(true, n)] else if nm = "getb" then [(false, n + b)] else if nm = "putb" then [(true, n + b)]
  else if nm ∈ [("call" : Str), "push"] then [(true, sp)] else if nm ∈ [("ret" : Str), "pop"] then [(false, sp + 1)] else if nm = "back" then [(false, sp + 1), (false, sp + 2)] else []
def nmOf (op : Nat) : Str := opN.getD op Str.empty
theorem touN_op (op : Nat) (h : op < 23) (n b sp : Int) : touN (nmOf op) n b sp = touM op n b sp := by
  match op, h with
  | 0, _ => kernel_rfl
  | 1, _ => kernel_rfl
  | 2, _ => kernel_rfl
  | 3, _ => kernel_rfl
  | 4, _ => kernel_rfl
  | 5, _ => kernel_rfl
  | 6, _ => kernel_rfl
  | 7, _ => kernel_rfl
  | 8, _ => kernel_rfl
  | 9, _ => kernel_rfl
  | 10, _ => kernel_rfl
  | 11, _ => kernel_rfl
  | 12, _ => kernel_rfl
  | 13, _ => kernel_rfl
  | 14, _ => kernel_rfl
  | 15, _ => kernel_rfl
  | 16, _ => kernel_rfl
  | 17, _ => kernel_rfl
  | 18, _ => kernel_rfl
  | 19, _ => kernel_rfl
  | 20, _ => kernel_rfl
  | 21, _ => kernel_rfl
  | 22, _ => kernel_rfl
  | n + 23, h => omega
def TouAt (H : Hp) : List V → List (Bool × Int) → Prop := Paired fun v t => ∃ q, v = .ref q ∧ H q = some (.tup [.str (kS t.1), .int t.2])
theorem TouAt.mono {H H' : Hp} (k : ∀ t xs, H t = some (.tup xs) → H' t = some (.tup xs)) : ∀ {us : List V} {ls : List (Bool × Int)}, TouAt H us ls → TouAt H' us ls
  | _, _, .nil => .nil
  | _, _, .cons h r => .cons (let ⟨t, e, q⟩ := h; ⟨t, e, k _ _ q⟩) (TouAt.mono k r)
theorem TouAt.len {H : Hp} : ∀ {us : List V} {ls : List (Bool × Int)}, TouAt H us ls → us.length = ls.length
  | _, _, .nil => rfl
  | _, _, .cons _ r => by rw [List.length_cons, List.length_cons, TouAt.len r]
theorem TouAt.get {H : Hp} : ∀ {us : List V} {ls : List (Bool × Int)} {i : Nat} {v : V}, TouAt H us ls → us[i]? = some v → ∃ q t, v = .ref q ∧ ls[i]? = some t ∧ H q = some (.tup [.str (kS t.1), .int t.2])
  | _, _, _, _, .nil, h => by cases h
  | _, _, 0, _, .cons h r, e => by
    obtain ⟨t, rfl, q⟩ := h
    cases e
    exact ⟨t, _, rfl, rfl, q⟩
  | _, _, i + 1, _, .cons h r, e => TouAt.get (i := i) r e
theorem in_strs (z : Str) : ∀ ys : List Str, inV (.str z) (ys.map V.str) = decide (z ∈ ys)
  | [] => rfl
  | y :: ys => by
    have ih := in_strs z ys
    unfold inV at ih ⊢
    rw [List.map_cons, List.any_cons, ih]
    show ((y == z) || decide (z ∈ ys)) = decide (z ∈ y :: ys)
    by_cases e : y = z
    · subst e
      simp
    · have e2 : ¬ z = y := fun q => e q.symm
      have : (y == z) = false := by simpa using e
      rw [this]
      simp [e2]
theorem flat_strs' (ys : List Str) : (ys.map V.str).all flatV = true := by
  rw [List.all_eq_true]
  intro v hv
  obtain ⟨y, _, rfl⟩ := List.mem_map.mp hv
  rfl
def spTou : Sp := fun vs H Q _ => ∃ (nm : Str) (n : Int) (r : Addr) (a b pc sp : Int), vs = [.str nm, .int n, .ref r] ∧ H r = some (.dK (regD a b pc sp)) ∧
  ∀ (H' : Hp) (l : Addr) (us : List V), Same H H' → H l = none → H' l = some (.lst us) → TouAt H' us (touN nm n b sp) → Q (.ref l) H'
/-- how many words it reads -/
def nR (op : Nat) : Nat :=
  match op with
  | 2 => 1
  | 4 => 1
  | 5 => 1
  | 6 => 1
  | 7 => 1
  | 8 => 1
  | 16 => 1
  | 18 => 1
  | 21 => 2
  | _ => 0
def spDo (CB CM : Addr) (op : Nat) : Sp := fun vs H Q _ => ∃ (H0 : Hp) (p lw : Addr) (x : Bd) (n : Int) (ws : List Int), vs = [.ref p, .int n, .ref lw] ∧ BoardAt CB CM H0 H p x ∧ H lw = some (.lst (ws.map V.int)) ∧ ws.length = nR op ∧
  (∀ t ∈ touM op n x.b x.sp, 0 ≤ t.2 ∧ t.2 < 774) ∧ x.sent.length < 1000000 ∧ ∀ H', BoardAt CB CM H0 H' p (doM op n ws x) → Q .non H'
def spGive (CB CM : Addr) : Sp := fun vs H Q _ => ∃ (H0 : Hp) (p : Addr) (x : Bd) (v : Int), vs = [.ref p, .int v] ∧ BoardAt CB CM H0 H p x ∧ ∀ H', BoardAt CB CM H0 H' p (giveM v x) → Q .non H'
def spPw (CB CM : Addr) : Sp := fun vs H Q _ => ∃ (H0 : Hp) (p : Addr) (x : Bd) (a v : Int), vs = [.ref p, .int a, .int v] ∧ BoardAt CB CM H0 H p x ∧ x.sent.length < 1000000 ∧ 0 ≤ a ∧ a < 774 ∧ ∀ H', BoardAt CB CM H0 H' p (putWM a v x) → Q .non H'
theorem len1 {α : Type} {l : List α} (h : l.length = 1) : ∃ v, l = [v] := by
  match l, h with
  | [v], _ => exact ⟨v, rfl⟩
theorem len2 {α : Type} {l : List α} (h : l.length = 2) : ∃ v w, l = [v, w] := by
  match l, h with
  | [v, w], _ => exact ⟨v, w, rfl⟩
section
variable {P : Program} {w : World} {K : PySem.W.Frag} {mg : Str → Option Value} {base : Heap} {CB CM : Addr}
abbrev sFtou : Stmt := topS 5
def scFtouN : List Str := ["name", "x", "registers"]
theorem scFtou : FnScope scFtouN ["name", "x", "registers"] (defScope sFtou) := ⟨rfl, rfl, rfl, by decide +kernel, rfl, by decide +kernel, by decide +kernel⟩
theorem ok_Ftou {f : Addr} {fd : FuncData} (F : Fun K "touches_of" "touches_of" sFtou f fd) (T : Tx K mg CB CM) : FnOk P w K mg base CX0 1 f fd ["name", "x", "registers"] (spTou) := by
  refine F.ok scFtou (fun vs H Q E h => by obtain ⟨_, _, _, _, _, _, _, rfl, _⟩ := h; rfl) (fun cdv A outer s H vs Q E hr h => ?_)
  have hu := hu_of hr
  obtain ⟨nm, n, r, a, b, pc, sp, rfl, hR, q⟩ := h
  obtain ⟨aR, g_READS_AT_X, vR⟩ := T.g_READS_AT_X
  unfold touN at q
  refine ⟨_, (pss_cons (ps_if (pt_cmpR op_in_seq (pv 0) (pgR g_READS_AT_X) (by rfl)) (pss_one (ps_ret (pe_lst (pa_cons (pe_tup (pa_cons pe_str (pa_cons (pv 1) pa_nil))) pa_nil)))) pss_nil)
    (pss_cons (ps_if (pt_cmpR op_eq (pv 0) pe_str (nomark _)) (pss_one (ps_ret (pe_lst (pa_cons (pe_tup (pa_cons pe_str (pa_cons (pv 1) pa_nil))) pa_nil)))) pss_nil)
    (pss_cons (ps_if (pt_cmpR op_eq (pv 0) pe_str (nomark _)) (pss_one (ps_ret (pe_lst (pa_cons (pe_tup (pa_cons pe_str (pa_cons (pe_op op_add (pv 1) (pe_dget hu (pv 2) pe_str (fun _ _ => rfl))) pa_nil))) pa_nil)))) pss_nil)
    (pss_cons (ps_if (pt_cmpR op_eq (pv 0) pe_str (nomark _)) (pss_one (ps_ret (pe_lst (pa_cons (pe_tup (pa_cons pe_str (pa_cons (pe_op op_add (pv 1) (pe_dget hu (pv 2) pe_str (fun _ _ => rfl))) pa_nil))) pa_nil)))) pss_nil)
    (pss_cons (ps_if (pt_cmpR op_in_seq (pv 0) (pe_tup (pa_cons pe_str (pa_cons pe_str pa_nil))) (by rfl)) (pss_one (ps_ret (pe_lst (pa_cons (pe_tup (pa_cons pe_str (pa_cons (pe_dget hu (pv 2) pe_str (fun _ _ => rfl)) pa_nil))) pa_nil)))) pss_nil)
    (pss_cons (ps_if (pt_cmpR op_in_seq (pv 0) (pe_tup (pa_cons pe_str (pa_cons pe_str pa_nil))) (by rfl)) (pss_one (ps_ret (pe_lst (pa_cons (pe_tup (pa_cons pe_str (pa_cons (pe_op op_add (pe_dget hu (pv 2) pe_str (fun _ _ => rfl)) pe_int) pa_nil))) pa_nil)))) pss_nil)
    (pss_cons (ps_if (pt_cmpR op_eq (pv 0) pe_str (nomark _)) (pss_one (ps_ret (pe_lst (pa_cons (pe_tup (pa_cons pe_str (pa_cons (pe_op op_add (pe_dget hu (pv 2) pe_str (fun _ _ => rfl)) pe_int) pa_nil))) (pa_cons (pe_tup (pa_cons pe_str (pa_cons (pe_op op_add (pe_dget hu (pv 2) pe_str (fun _ _ => rfl)) pe_int) pa_nil))) pa_nil))))) pss_nil)
    (pss_one (ps_ret (pe_lst pa_nil)))))))))), ?_⟩
  refine ⟨_, rfl, aR, _, rfl, .inr (vR _), rfl, flat_strs' rdN, _, rfl, ?_⟩
  rw [if_neg Bool.false_ne_true, in_strs]
  refine ifB (fun h => ?_) (fun h => ?_)
  · rw [if_pos (of_decide_eq_true h)] at q
    exact ⟨_, rfl, (by show 2 ≤ sizeLine; decide), fun t nt => ⟨(by show 1 ≤ sizeLine; decide), fun l nl => q _ l [.ref t] ((same_upd' nt).trans (same_upd' nl)) ((same_upd' nt).free nl) upd_same (.cons ⟨t, rfl, same_upd' nl _ _ upd_same⟩ .nil)⟩⟩
  rw [if_neg (of_decide_eq_false h)] at q
  refine ⟨_, rfl, rfl, _, rfl, ifB (fun h => ?_) (fun h => ?_)⟩
  · rw [if_pos (V.str.inj (of_decide_eq_true h))] at q
    exact ⟨_, rfl, (by show 2 ≤ sizeLine; decide), fun t nt => ⟨(by show 1 ≤ sizeLine; decide), fun l nl => q _ l [.ref t] ((same_upd' nt).trans (same_upd' nl)) ((same_upd' nt).free nl) upd_same (.cons ⟨t, rfl, same_upd' nl _ _ upd_same⟩ .nil)⟩⟩
  rw [if_neg (fun z => of_decide_eq_false h (congrArg V.str z))] at q
  refine ⟨_, rfl, rfl, _, rfl, ifB (fun h => ?_) (fun h => ?_)⟩
  · rw [if_pos (V.str.inj (of_decide_eq_true h))] at q
    exact ⟨_, rfl, _, rfl, r, _, rfl, dg (k := Sum.inr "b") hR rG_b, _, _, rfl, rfl, (by show 2 ≤ sizeLine; decide), fun t nt => ⟨(by show 1 ≤ sizeLine; decide), fun l nl => q _ l [.ref t] ((same_upd' nt).trans (same_upd' nl)) ((same_upd' nt).free nl) upd_same (.cons ⟨t, rfl, same_upd' nl _ _ upd_same⟩ .nil)⟩⟩
  rw [if_neg (fun z => of_decide_eq_false h (congrArg V.str z))] at q
  refine ⟨_, rfl, rfl, _, rfl, ifB (fun h => ?_) (fun h => ?_)⟩
  · rw [if_pos (V.str.inj (of_decide_eq_true h))] at q
    exact ⟨_, rfl, _, rfl, r, _, rfl, dg (k := Sum.inr "b") hR rG_b, _, _, rfl, rfl, (by show 2 ≤ sizeLine; decide), fun t nt => ⟨(by show 1 ≤ sizeLine; decide), fun l nl => q _ l [.ref t] ((same_upd' nt).trans (same_upd' nl)) ((same_upd' nt).free nl) upd_same (.cons ⟨t, rfl, same_upd' nl _ _ upd_same⟩ .nil)⟩⟩
  rw [if_neg (fun z => of_decide_eq_false h (congrArg V.str z))] at q
  refine ⟨_, rfl, (by show 2 ≤ sizeLine; decide), fun c1 nc1 => ?_⟩
  have sc1 := same_upd' (o := .tup [V.str "call", V.str "push"]) nc1
  have hc1 : upd H c1 (.tup [V.str "call", V.str "push"]) c1 = some (.tup ([("call" : Str), "push"].map V.str)) := upd_same
  generalize upd H c1 (.tup [V.str "call", V.str "push"]) = H1 at *
  refine ⟨c1, _, rfl, .inr (SqT.of hc1), rfl, flat_strs' _, _, rfl, ?_⟩
  rw [if_neg Bool.false_ne_true, in_strs]
  refine ifB (fun h => ?_) (fun h => ?_)
  · rw [if_pos (of_decide_eq_true h)] at q
    exact ⟨_, rfl, r, _, rfl, dg (k := Sum.inr "sp") (sc1 _ _ hR) rG_sp, (by show 2 ≤ sizeLine; decide), fun t nt => ⟨(by show 1 ≤ sizeLine; decide), fun l nl => q _ l [.ref t] ((sc1.trans (same_upd' nt)).trans (same_upd' nl)) ((sc1.trans (same_upd' nt)).free nl) upd_same (.cons ⟨t, rfl, same_upd' nl _ _ upd_same⟩ .nil)⟩⟩
  rw [if_neg (of_decide_eq_false h)] at q
  refine ⟨_, rfl, (by show 2 ≤ sizeLine; decide), fun c2 nc2 => ?_⟩
  have sc2 := sc1.trans (same_upd' (o := .tup [V.str "ret", V.str "pop"]) nc2)
  have hc2 : upd H1 c2 (.tup [V.str "ret", V.str "pop"]) c2 = some (.tup ([("ret" : Str), "pop"].map V.str)) := upd_same
  generalize upd H1 c2 (.tup [V.str "ret", V.str "pop"]) = H2 at *
  refine ⟨c2, _, rfl, .inr (SqT.of hc2), rfl, flat_strs' _, _, rfl, ?_⟩
  rw [if_neg Bool.false_ne_true, in_strs]
  refine ifB (fun h => ?_) (fun h => ?_)
  · rw [if_pos (of_decide_eq_true h)] at q
    exact ⟨_, rfl, r, _, rfl, dg (k := Sum.inr "sp") (sc2 _ _ hR) rG_sp, _, _, rfl, rfl, (by show 2 ≤ sizeLine; decide), fun t nt => ⟨(by show 1 ≤ sizeLine; decide), fun l nl => q _ l [.ref t] ((sc2.trans (same_upd' nt)).trans (same_upd' nl)) ((sc2.trans (same_upd' nt)).free nl) upd_same (.cons ⟨t, rfl, same_upd' nl _ _ upd_same⟩ .nil)⟩⟩
  rw [if_neg (of_decide_eq_false h)] at q
  refine ⟨_, rfl, rfl, _, rfl, ifB (fun h => ?_) (fun h => ?_)⟩
  · rw [if_pos (V.str.inj (of_decide_eq_true h))] at q
    refine ⟨_, rfl, r, _, rfl, dg (k := Sum.inr "sp") (sc2 _ _ hR) rG_sp, _, _, rfl, rfl, (by show 2 ≤ sizeLine; decide), fun t nt => ?_⟩
    have sc3 := sc2.trans (same_upd' (o := .tup [V.str "r", V.int (sp + 1)]) nt)
    have ht : upd H2 t (.tup [V.str "r", V.int (sp + 1)]) t = some (.tup [V.str "r", V.int (sp + 1)]) := upd_same
    generalize upd H2 t (.tup [V.str "r", V.int (sp + 1)]) = H3 at *
    refine ⟨_, rfl, r, _, rfl, dg (k := Sum.inr "sp") (sc3 _ _ hR) rG_sp, _, _, rfl, rfl, (by show 2 ≤ sizeLine; decide), fun t2 nt2 => ⟨(by show 2 ≤ sizeLine; decide), fun l nl => ?_⟩⟩
    exact q _ l [.ref t, .ref t2] ((sc3.trans (same_upd' nt2)).trans (same_upd' nl)) ((sc3.trans (same_upd' nt2)).free nl) upd_same (.cons ⟨t, rfl, same_upd' nl _ _ (same_upd' nt2 _ _ ht)⟩ (.cons ⟨t2, rfl, same_upd' nl _ _ upd_same⟩ .nil))
  rw [if_neg (fun z => of_decide_eq_false h (congrArg V.str z))] at q
  exact ⟨Nat.zero_le _, fun l nl => q _ l [] (sc2.trans (same_upd' nl)) (sc2.free nl) upd_same .nil⟩
abbrev sFgive : Stmt := topS 6
def scFgiveN : List Str := ["board", "word"]
theorem scFgive : FnScope scFgiveN ["board", "word"] (defScope sFgive) := ⟨rfl, rfl, rfl, by decide +kernel, rfl, by decide +kernel, by decide +kernel⟩
theorem ok_Fgive {f : Addr} {fd : FuncData} (F : Fun K "give" "give" sFgive f fd) (T : Tx K mg CB CM) : FnOk P w K mg base CX0 1 f fd ["board", "word"] (spGive CB CM) := by
  refine F.ok scFgive (fun vs H Q E h => by obtain ⟨_, _, _, _, rfl, _⟩ := h; rfl) (fun cdv A outer s H vs Q E hr h => ?_)
  have hu := hu_of hr
  obtain ⟨H0, p, x, v, rfl, R, k⟩ := h
  obtain ⟨A, ts, ls, B⟩ := R
  obtain ⟨sv, tv, dv, hp, hz⟩ := B.hp
  refine ⟨_, (pss_cons (ps_dput hu (pe_fld (pv 0) rfl) pe_str (pv 1) rfl)
    (pss_one (ps_fld (pv 0) (pe_cmpR op_eq (pv 1) pe_int (nomark _)) rfl))), ?_⟩
  refine ⟨_, rfl, _, rfl, p, CB, A.dx, _, _, rfl, hp, T.cB, T.n_registers, bF_reg, A.r, _, rfl, dp (k := Sum.inr "a") B.hr rP_a, ?_⟩
  have B1 := B.regs (a := v) (b := x.b) (pc := x.pc) (sp := x.sp)
  obtain ⟨sv1, tv1, dv1, hp1, hz1⟩ := B1.hp
  refine ⟨_, rfl, rfl, _, rfl, p, CB, A.dx, _, rfl, hp1, T.cB, T.n_zero, (by show 13 < 1000; decide), ?_⟩
  rw [bP_zero]
  have B2 := B1.fld (z := decide (V.int v = V.int 0)) (le := x.lets) (as := x.asleep) (bt := x.beat) (sv := sv1) (la := x.la) (tv := tv1) (dv := dv1) hz1
  have e : decide (V.int v = V.int 0) = decide (v = 0) := by
    by_cases h : v = 0
    · rw [decide_eq_true h, h]; rfl
    · rw [decide_eq_false h]; exact decide_eq_false fun z => h (V.int.inj z)
  rw [e] at B2 ⊢
  exact k _ ⟨A, ts, ls, B2⟩
abbrev sMpw : Stmt := inClass (topS 69) 11
def scMpwN : List Str := ["self", "address", "word"]
theorem scMpw : FnScope scMpwN ["self", "address", "word"] (defScope sMpw) := ⟨rfl, rfl, rfl, by decide +kernel, rfl, by decide +kernel, by decide +kernel⟩
theorem ok_Mpw {f : Addr} {fd : FuncData} {fM_put : Addr} {dM_put : FuncData} (F : Fun K "put_word" "Board.put_word" sMpw f fd) (T : Tx K mg CB CM)
    (M_put : CalM P w K mg base CM 1 "put" ["self", "address", "word"] (spMPut CM) fM_put dM_put) : FnOk P w K mg base CX0 2 f fd ["self", "address", "word"] (spPw CB CM) := by
  refine F.ok scMpw (fun vs H Q E h => by obtain ⟨_, _, _, _, _, rfl, _⟩ := h; rfl) (fun cdv A outer s H vs Q E hr h => ?_)
  have hu := hu_of hr
  obtain ⟨t_LINE_OUT, g_LINE_OUT⟩ := T.g_LINE_OUT
  obtain ⟨H0, p, x, a, v, rfl, R, hsl, a0, a1, k⟩ := h
  obtain ⟨A, ts, ls, B⟩ := R
  obtain ⟨sv, tv, dv, hp, hz⟩ := B.hp
  refine ⟨_, (pss_cons (ps_if (pt_cmpR op_eq (pv 1) (pgI g_LINE_OUT) (nomark _)) (pss_one (ps_expr (pe_bm PySem.F.plainAttrs_list PySem.F.slot_list_append PySem.F.type_list_append mt_append (pe_fld (pv 0) rfl) (pa_cons (pe_tup (pa_cons (pe_fld (pv 0) rfl) (pa_cons (pv 2) pa_nil))) pa_nil)))) pss_nil)
    (pss_one (ps_expr (pe_meth (pe_fld (pv 0) rfl) M_put.c M_put.m M_put.G (hr.mono (by decide)) M_put.b .nil pass0 (pa_cons (pv 1) (pa_cons (pv 2) pa_nil)))))), ?_⟩
  have fin : ∀ H1 y ts1, Bp CB CM H0 H1 p A ts1 ls y → y = sendM a v x → ∃ sv tv dv, H1 p = some (.ins CB A.dx (bdF A.r A.t A.m A.l y.zero y.lets y.asleep y.beat sv y.la tv dv)) ∧ MemAt CM H1 A.m A.dm A.w A.s y.mem ∧ Q .non (upd H1 A.w (.lst ((putMM a v y.mem).map V.int))) := fun H1 y ts1 B1 e => by
    obtain ⟨sv, tv, dv, hp, hz⟩ := B1.hp
    refine ⟨sv, tv, dv, hp, B1.mem, k _ ⟨A, ts1, ls, ?_⟩⟩
    have B2 := B1.wds (m := putMM a v y.mem) (by rw [putMM_len]; exact B1.lm)
    have e2 : putWM a v x = { y with mem := putMM a v y.mem } := by
      unfold putWM
      rw [e]
      have : (sendM a v x).mem = x.mem := by unfold sendM; split <;> rfl
      rw [this]
    rw [e2]
    exact B2
  refine ⟨_, rfl, rfl, _, rfl, ifB (fun h => ?_) (fun h => ?_)⟩
  · have ea := V.int.inj (of_decide_eq_true h)
    refine ⟨_, rfl, p, CB, A.dx, _, _, rfl, hp, T.cB, T.n_sent, bF_sent, .inl ⟨rfl, _, SqL.of B.ht⟩, _, rfl, p, CB, A.dx, _, _, rfl, hp, T.cB, T.n_beat, bF_beat, _, rfl, (by show 2 ≤ sizeLine; decide), fun q nq => ?_⟩
    have B1 := B.more (o := .tup [V.int x.beat, V.int v]) nq
    refine ⟨A.t, ts, _, rfl, rfl, B1.ht, (by rw [TupsAt.len B.us]; exact Nat.lt_of_lt_of_le hsl (by decide)), ?_⟩
    have B2 := B1.snd (q := q) (u := (x.beat, v)) upd_same
    obtain ⟨sv2, tv2, dv2, hp2, M2, fin2⟩ := fin _ _ _ B2 (by unfold sendM; rw [if_pos ea])
    exact ⟨_, rfl, p, CB, A.dx, _, _, rfl, hp2, T.cB, T.n_memory, bF_mem, A.m, A.dm, _, rfl, M2.hm, mN_put, _, rfl, _, rfl, A.m, A.dm, A.w, A.s, _, a, v, rfl, M2, a0, a1, fin2⟩
  · have ea : ¬ a = 773 := fun z => of_decide_eq_false h (congrArg V.int z)
    obtain ⟨sv2, tv2, dv2, hp2, M2, fin2⟩ := fin _ _ _ B (by unfold sendM; rw [if_neg ea])
    exact ⟨_, rfl, p, CB, A.dx, _, _, rfl, hp2, T.cB, T.n_memory, bF_mem, A.m, A.dm, _, rfl, M2.hm, mN_put, _, rfl, _, rfl, A.m, A.dm, A.w, A.s, _, a, v, rfl, M2, a0, a1, fin2⟩
abbrev sMpbt : Stmt := inClass (topS 69) 10
def scMpbtN : List Str := ["self", "address", "word"]
theorem scMpbt : FnScope scMpbtN ["self", "address", "word"] (defScope sMpbt) := ⟨rfl, rfl, rfl, by decide +kernel, rfl, by decide +kernel, by decide +kernel⟩
theorem ok_Mpbt {f : Addr} {fd : FuncData} {fM_pw : Addr} {dM_pw : FuncData} (F : Fun K "put_by_turn" "Board.put_by_turn" sMpbt f fd) (T : Tx K mg CB CM)
    (M_pw : CalM P w K mg base CB 2 "put_word" ["self", "address", "word"] (spPw CB CM) fM_pw dM_pw) : FnOk P w K mg base CX0 3 f fd ["self", "address", "word"] (spPw CB CM) := by
  refine F.ok scMpbt (fun vs H Q E h => by obtain ⟨_, _, _, _, _, rfl, _⟩ := h; rfl) (fun cdv A outer s H vs Q E hr h => ?_)
  have hu := hu_of hr
  obtain ⟨H0, p, x, a, v, rfl, R, hsl, a0, a1, k⟩ := h
  obtain ⟨A, ts, ls, B⟩ := R
  obtain ⟨sv, tv, dv, hp, hz⟩ := B.hp
  refine ⟨_, (pss_cons (ps_if (pt_cmp (pc_din hu (pv 1) (pe_fld (pe_fld (pv 0) rfl) rfl))) (pss_one (ps_ddel (pe_fld (pe_fld (pv 0) rfl) rfl) (pv 1))) pss_nil)
    (pss_one (ps_expr (pe_meth (pv 0) M_pw.c M_pw.m M_pw.G (hr.mono (by decide)) M_pw.b .nil pass0 (pa_cons (pv 1) (pa_cons (pv 2) pa_nil)))))), ?_⟩
  refine ⟨_, rfl, _, rfl, p, CB, A.dx, _, _, rfl, hp, T.cB, T.n_memory, bF_mem, A.m, CM, A.dm, _, _, rfl, B.hm, T.cM, T.n_swapped, mF_s, A.s, _, rfl, DGet.k (k := Sum.inl a) B.hs, _, rfl, ?_⟩
  exact ⟨_, rfl, p, A.dx, _, rfl, hp, bN_pw, _, rfl, _, rfl, H0, p, x, a, v, rfl, ⟨A, ts, ls, B⟩, hsl, a0, a1, k⟩
end
end Bh

/-! What each deed does. -/
namespace Bh
open PySem PySem.Spec PyProof.Rows L2
section
variable {P : Program} {w : World} {K : PySem.W.Frag} {mg : Str → Option Value} {base : Heap} {CB CM : Addr}
abbrev sD1 : Stmt := topS 7
def scD1N : List Str := ["board", "x", "words"]
theorem scD1 : FnScope scD1N ["board", "x", "words"] (defScope sD1) := ⟨rfl, rfl, rfl, by decide +kernel, rfl, by decide +kernel, by decide +kernel⟩
theorem ok_D1 {f : Addr} {fd : FuncData} {fF_give : Addr} {dF_give : FuncData} (F : Fun K "do_lit" "do_lit" sD1 f fd) (T : Tx K mg CB CM)
    (F_give : CalF P w K mg base 1 "give" ["board", "word"] (spGive CB CM) fF_give dF_give) : FnOk P w K mg base CX0 4 f fd ["board", "x", "words"] (spDo CB CM 1) := by
  refine F.ok scD1 (fun vs H Q E h => by obtain ⟨_, _, _, _, _, _, rfl, _⟩ := h; rfl) (fun cdv A outer s H vs Q E hr h => ?_)
  have hu := hu_of hr
  obtain ⟨H0, p, lw, x, n, ws, rfl, R, hlw, hws, hto, hsl, k⟩ := h
  refine ⟨_, (pss_one (ps_expr (pe_call F_give.G (hr.mono (by decide)) (by rfl) F_give.g F_give.kp F_give.b .nil pass0 (pa_cons (pv 0) (pa_cons (pv 1) pa_nil))))), ?_⟩
  exact ⟨_, rfl, _, rfl, H0, p, x, n, rfl, R, k⟩
abbrev sD2 : Stmt := topS 8
def scD2N : List Str := ["board", "x", "words"]
theorem scD2 : FnScope scD2N ["board", "x", "words"] (defScope sD2) := ⟨rfl, rfl, rfl, by decide +kernel, rfl, by decide +kernel, by decide +kernel⟩
theorem ok_D2 {f : Addr} {fd : FuncData} {fF_give : Addr} {dF_give : FuncData} (F : Fun K "do_get" "do_get" sD2 f fd) (T : Tx K mg CB CM)
    (F_give : CalF P w K mg base 1 "give" ["board", "word"] (spGive CB CM) fF_give dF_give) : FnOk P w K mg base CX0 4 f fd ["board", "x", "words"] (spDo CB CM 2) := by
  refine F.ok scD2 (fun vs H Q E h => by obtain ⟨_, _, _, _, _, _, rfl, _⟩ := h; rfl) (fun cdv A outer s H vs Q E hr h => ?_)
  have hu := hu_of hr
  obtain ⟨H0, p, lw, x, n, ws, rfl, R, hlw, hws, hto, hsl, k⟩ := h
  obtain ⟨v, rfl⟩ := len1 hws
  refine ⟨_, (pss_one (ps_expr (pe_call F_give.G (hr.mono (by decide)) (by rfl) F_give.g F_give.kp F_give.b .nil pass0 (pa_cons (pv 0) (pa_cons (pe_ix ix_list (pv 2) pe_int (fun _ _ => rfl)) pa_nil))))), ?_⟩
  exact ⟨_, rfl, _, rfl, lw, _, 0, _, rfl, rfl, SqL.of hlw, atI_nat (j := 0) rfl, H0, p, x, v, rfl, R, k⟩
abbrev sD8 : Stmt := topS 8
def scD8N : List Str := ["board", "x", "words"]
theorem scD8 : FnScope scD8N ["board", "x", "words"] (defScope sD8) := ⟨rfl, rfl, rfl, by decide +kernel, rfl, by decide +kernel, by decide +kernel⟩
theorem ok_D8 {f : Addr} {fd : FuncData} {fF_give : Addr} {dF_give : FuncData} (F : Fun K "do_get" "do_get" sD8 f fd) (T : Tx K mg CB CM)
    (F_give : CalF P w K mg base 1 "give" ["board", "word"] (spGive CB CM) fF_give dF_give) : FnOk P w K mg base CX0 4 f fd ["board", "x", "words"] (spDo CB CM 8) := by
  refine F.ok scD8 (fun vs H Q E h => by obtain ⟨_, _, _, _, _, _, rfl, _⟩ := h; rfl) (fun cdv A outer s H vs Q E hr h => ?_)
  have hu := hu_of hr
  obtain ⟨H0, p, lw, x, n, ws, rfl, R, hlw, hws, hto, hsl, k⟩ := h
  obtain ⟨v, rfl⟩ := len1 hws
  refine ⟨_, (pss_one (ps_expr (pe_call F_give.G (hr.mono (by decide)) (by rfl) F_give.g F_give.kp F_give.b .nil pass0 (pa_cons (pv 0) (pa_cons (pe_ix ix_list (pv 2) pe_int (fun _ _ => rfl)) pa_nil))))), ?_⟩
  exact ⟨_, rfl, _, rfl, lw, _, 0, _, rfl, rfl, SqL.of hlw, atI_nat (j := 0) rfl, H0, p, x, v, rfl, R, k⟩
abbrev sD3 : Stmt := topS 9
def scD3N : List Str := ["board", "x", "words"]
theorem scD3 : FnScope scD3N ["board", "x", "words"] (defScope sD3) := ⟨rfl, rfl, rfl, by decide +kernel, rfl, by decide +kernel, by decide +kernel⟩
theorem ok_D3 {f : Addr} {fd : FuncData} {fM_pbt : Addr} {dM_pbt : FuncData} (F : Fun K "do_put" "do_put" sD3 f fd) (T : Tx K mg CB CM)
    (M_pbt : CalM P w K mg base CB 3 "put_by_turn" ["self", "address", "word"] (spPw CB CM) fM_pbt dM_pbt) : FnOk P w K mg base CX0 4 f fd ["board", "x", "words"] (spDo CB CM 3) := by
  refine F.ok scD3 (fun vs H Q E h => by obtain ⟨_, _, _, _, _, _, rfl, _⟩ := h; rfl) (fun cdv A outer s H vs Q E hr h => ?_)
  have hu := hu_of hr
  obtain ⟨H0, p, lw, x, n, ws, rfl, R, hlw, hws, hto, hsl, k⟩ := h
  obtain ⟨A, ts, ls, B⟩ := R
  obtain ⟨sv, tv, dv, hp, hz⟩ := B.hp
  obtain ⟨t0, t1⟩ := hto (true, n) (List.mem_singleton.mpr rfl)
  refine ⟨_, (pss_one (ps_expr (pe_meth (pv 0) M_pbt.c M_pbt.m M_pbt.G (hr.mono (by decide)) M_pbt.b .nil pass0 (pa_cons (pv 1) (pa_cons (pe_dget hu (pe_fld (pv 0) rfl) pe_str (fun _ _ => rfl)) pa_nil))))), ?_⟩
  exact ⟨_, rfl, p, A.dx, _, rfl, hp, bN_pbt, _, rfl, _, rfl, p, CB, A.dx, _, _, rfl, hp, T.cB, T.n_registers, bF_reg, A.r, _, rfl, dg (k := Sum.inr "a") B.hr rG_a, H0, p, x, n, x.a, rfl, ⟨A, ts, ls, B⟩, hsl, t0, t1, k⟩
abbrev sD4 : Stmt := topS 10
def scD4N : List Str := ["board", "x", "words"]
theorem scD4 : FnScope scD4N ["board", "x", "words"] (defScope sD4) := ⟨rfl, rfl, rfl, by decide +kernel, rfl, by decide +kernel, by decide +kernel⟩
theorem ok_D4 {f : Addr} {fd : FuncData} {fF_give : Addr} {dF_give : FuncData} (F : Fun K "do_add" "do_add" sD4 f fd) (T : Tx K mg CB CM)
    (F_give : CalF P w K mg base 1 "give" ["board", "word"] (spGive CB CM) fF_give dF_give) : FnOk P w K mg base CX0 4 f fd ["board", "x", "words"] (spDo CB CM 4) := by
  refine F.ok scD4 (fun vs H Q E h => by obtain ⟨_, _, _, _, _, _, rfl, _⟩ := h; rfl) (fun cdv A outer s H vs Q E hr h => ?_)
  have hu := hu_of hr
  obtain ⟨t_WORDS, g_WORDS⟩ := T.g_WORDS
  obtain ⟨H0, p, lw, x, n, ws, rfl, R, hlw, hws, hto, hsl, k⟩ := h
  obtain ⟨v, rfl⟩ := len1 hws
  obtain ⟨A, ts, ls, B⟩ := R
  obtain ⟨sv, tv, dv, hp, hz⟩ := B.hp
  refine ⟨_, (pss_one (ps_expr (pe_call F_give.G (hr.mono (by decide)) (by rfl) F_give.g F_give.kp F_give.b .nil pass0 (pa_cons (pv 0) (pa_cons (pe_op op_mod (pe_op op_add (pe_dget hu (pe_fld (pv 0) rfl) pe_str (fun _ _ => rfl)) (pe_ix ix_list (pv 2) pe_int (fun _ _ => rfl))) (pgI g_WORDS)) pa_nil))))), ?_⟩
  exact ⟨_, rfl, _, rfl, p, CB, A.dx, _, _, rfl, hp, T.cB, T.n_registers, bF_reg, A.r, _, rfl, dg (k := Sum.inr "a") B.hr rG_a, _, rfl, lw, _, 0, _, rfl, rfl, SqL.of hlw, atI_nat (j := 0) rfl, _, _, rfl, rfl, _, _, rfl, rfl, (by show (0 : Int) < 65536; decide), H0, p, x, (x.a + v) % 65536, rfl, ⟨A, ts, ls, B⟩, k⟩
abbrev sD5 : Stmt := topS 11
def scD5N : List Str := ["board", "x", "words"]
theorem scD5 : FnScope scD5N ["board", "x", "words"] (defScope sD5) := ⟨rfl, rfl, rfl, by decide +kernel, rfl, by decide +kernel, by decide +kernel⟩
theorem ok_D5 {f : Addr} {fd : FuncData} {fF_give : Addr} {dF_give : FuncData} (F : Fun K "do_sub" "do_sub" sD5 f fd) (T : Tx K mg CB CM)
    (F_give : CalF P w K mg base 1 "give" ["board", "word"] (spGive CB CM) fF_give dF_give) : FnOk P w K mg base CX0 4 f fd ["board", "x", "words"] (spDo CB CM 5) := by
  refine F.ok scD5 (fun vs H Q E h => by obtain ⟨_, _, _, _, _, _, rfl, _⟩ := h; rfl) (fun cdv A outer s H vs Q E hr h => ?_)
  have hu := hu_of hr
  obtain ⟨t_WORDS, g_WORDS⟩ := T.g_WORDS
  obtain ⟨H0, p, lw, x, n, ws, rfl, R, hlw, hws, hto, hsl, k⟩ := h
  obtain ⟨v, rfl⟩ := len1 hws
  obtain ⟨A, ts, ls, B⟩ := R
  obtain ⟨sv, tv, dv, hp, hz⟩ := B.hp
  refine ⟨_, (pss_one (ps_expr (pe_call F_give.G (hr.mono (by decide)) (by rfl) F_give.g F_give.kp F_give.b .nil pass0 (pa_cons (pv 0) (pa_cons (pe_op op_mod (pe_op op_sub (pe_dget hu (pe_fld (pv 0) rfl) pe_str (fun _ _ => rfl)) (pe_ix ix_list (pv 2) pe_int (fun _ _ => rfl))) (pgI g_WORDS)) pa_nil))))), ?_⟩
  exact ⟨_, rfl, _, rfl, p, CB, A.dx, _, _, rfl, hp, T.cB, T.n_registers, bF_reg, A.r, _, rfl, dg (k := Sum.inr "a") B.hr rG_a, _, rfl, lw, _, 0, _, rfl, rfl, SqL.of hlw, atI_nat (j := 0) rfl, _, _, rfl, rfl, _, _, rfl, rfl, (by show (0 : Int) < 65536; decide), H0, p, x, (x.a - v) % 65536, rfl, ⟨A, ts, ls, B⟩, k⟩
abbrev sD6 : Stmt := topS 12
def scD6N : List Str := ["board", "x", "words"]
theorem scD6 : FnScope scD6N ["board", "x", "words"] (defScope sD6) := ⟨rfl, rfl, rfl, by decide +kernel, rfl, by decide +kernel, by decide +kernel⟩
theorem ok_D6 {f : Addr} {fd : FuncData} {fF_give : Addr} {dF_give : FuncData} (F : Fun K "do_and" "do_and" sD6 f fd) (T : Tx K mg CB CM)
    (F_give : CalF P w K mg base 1 "give" ["board", "word"] (spGive CB CM) fF_give dF_give) : FnOk P w K mg base CX0 4 f fd ["board", "x", "words"] (spDo CB CM 6) := by
  refine F.ok scD6 (fun vs H Q E h => by obtain ⟨_, _, _, _, _, _, rfl, _⟩ := h; rfl) (fun cdv A outer s H vs Q E hr h => ?_)
  have hu := hu_of hr
  obtain ⟨H0, p, lw, x, n, ws, rfl, R, hlw, hws, hto, hsl, k⟩ := h
  obtain ⟨v, rfl⟩ := len1 hws
  obtain ⟨A, ts, ls, B⟩ := R
  obtain ⟨sv, tv, dv, hp, hz⟩ := B.hp
  refine ⟨_, (pss_one (ps_expr (pe_call F_give.G (hr.mono (by decide)) (by rfl) F_give.g F_give.kp F_give.b .nil pass0 (pa_cons (pv 0) (pa_cons (pe_op op_and (pe_dget hu (pe_fld (pv 0) rfl) pe_str (fun _ _ => rfl)) (pe_ix ix_list (pv 2) pe_int (fun _ _ => rfl))) pa_nil))))), ?_⟩
  exact ⟨_, rfl, _, rfl, p, CB, A.dx, _, _, rfl, hp, T.cB, T.n_registers, bF_reg, A.r, _, rfl, dg (k := Sum.inr "a") B.hr rG_a, _, rfl, lw, _, 0, _, rfl, rfl, SqL.of hlw, atI_nat (j := 0) rfl, _, _, rfl, rfl, H0, p, x, Builtin.bitAnd x.a v, rfl, ⟨A, ts, ls, B⟩, k⟩
abbrev sD7 : Stmt := topS 13
def scD7N : List Str := ["board", "x", "words"]
theorem scD7 : FnScope scD7N ["board", "x", "words"] (defScope sD7) := ⟨rfl, rfl, rfl, by decide +kernel, rfl, by decide +kernel, by decide +kernel⟩
theorem ok_D7 {f : Addr} {fd : FuncData} {fF_give : Addr} {dF_give : FuncData} (F : Fun K "do_xor" "do_xor" sD7 f fd) (T : Tx K mg CB CM)
    (F_give : CalF P w K mg base 1 "give" ["board", "word"] (spGive CB CM) fF_give dF_give) : FnOk P w K mg base CX0 4 f fd ["board", "x", "words"] (spDo CB CM 7) := by
  refine F.ok scD7 (fun vs H Q E h => by obtain ⟨_, _, _, _, _, _, rfl, _⟩ := h; rfl) (fun cdv A outer s H vs Q E hr h => ?_)
  have hu := hu_of hr
  obtain ⟨H0, p, lw, x, n, ws, rfl, R, hlw, hws, hto, hsl, k⟩ := h
  obtain ⟨v, rfl⟩ := len1 hws
  obtain ⟨A, ts, ls, B⟩ := R
  obtain ⟨sv, tv, dv, hp, hz⟩ := B.hp
  refine ⟨_, (pss_one (ps_expr (pe_call F_give.G (hr.mono (by decide)) (by rfl) F_give.g F_give.kp F_give.b .nil pass0 (pa_cons (pv 0) (pa_cons (pe_op op_xor (pe_dget hu (pe_fld (pv 0) rfl) pe_str (fun _ _ => rfl)) (pe_ix ix_list (pv 2) pe_int (fun _ _ => rfl))) pa_nil))))), ?_⟩
  exact ⟨_, rfl, _, rfl, p, CB, A.dx, _, _, rfl, hp, T.cB, T.n_registers, bF_reg, A.r, _, rfl, dg (k := Sum.inr "a") B.hr rG_a, _, rfl, lw, _, 0, _, rfl, rfl, SqL.of hlw, atI_nat (j := 0) rfl, _, _, rfl, rfl, H0, p, x, Builtin.bitXor x.a v, rfl, ⟨A, ts, ls, B⟩, k⟩
abbrev sD9 : Stmt := topS 14
def scD9N : List Str := ["board", "x", "words"]
theorem scD9 : FnScope scD9N ["board", "x", "words"] (defScope sD9) := ⟨rfl, rfl, rfl, by decide +kernel, rfl, by decide +kernel, by decide +kernel⟩
theorem ok_D9 {f : Addr} {fd : FuncData} {fM_pbt : Addr} {dM_pbt : FuncData} (F : Fun K "do_putb" "do_putb" sD9 f fd) (T : Tx K mg CB CM)
    (M_pbt : CalM P w K mg base CB 3 "put_by_turn" ["self", "address", "word"] (spPw CB CM) fM_pbt dM_pbt) : FnOk P w K mg base CX0 4 f fd ["board", "x", "words"] (spDo CB CM 9) := by
  refine F.ok scD9 (fun vs H Q E h => by obtain ⟨_, _, _, _, _, _, rfl, _⟩ := h; rfl) (fun cdv A outer s H vs Q E hr h => ?_)
  have hu := hu_of hr
  obtain ⟨H0, p, lw, x, n, ws, rfl, R, hlw, hws, hto, hsl, k⟩ := h
  obtain ⟨A, ts, ls, B⟩ := R
  obtain ⟨sv, tv, dv, hp, hz⟩ := B.hp
  obtain ⟨t0, t1⟩ := hto (true, n + x.b) (List.mem_singleton.mpr rfl)
  refine ⟨_, (pss_one (ps_expr (pe_meth (pv 0) M_pbt.c M_pbt.m M_pbt.G (hr.mono (by decide)) M_pbt.b .nil pass0 (pa_cons (pe_op op_add (pv 1) (pe_dget hu (pe_fld (pv 0) rfl) pe_str (fun _ _ => rfl))) (pa_cons (pe_dget hu (pe_fld (pv 0) rfl) pe_str (fun _ _ => rfl)) pa_nil))))), ?_⟩
  exact ⟨_, rfl, p, A.dx, _, rfl, hp, bN_pbt, _, rfl, _, rfl, p, CB, A.dx, _, _, rfl, hp, T.cB, T.n_registers, bF_reg, A.r, _, rfl, dg (k := Sum.inr "b") B.hr rG_b, _, _, rfl, rfl, _, rfl, p, CB, A.dx, _, _, rfl, hp, T.cB, T.n_registers, bF_reg, A.r, _, rfl, dg (k := Sum.inr "a") B.hr rG_a, H0, p, x, (n + x.b), x.a, rfl, ⟨A, ts, ls, B⟩, hsl, t0, t1, k⟩
abbrev sD10 : Stmt := topS 15
def scD10N : List Str := ["board", "x", "words"]
theorem scD10 : FnScope scD10N ["board", "x", "words"] (defScope sD10) := ⟨rfl, rfl, rfl, by decide +kernel, rfl, by decide +kernel, by decide +kernel⟩
theorem ok_D10 {f : Addr} {fd : FuncData} (F : Fun K "do_tob" "do_tob" sD10 f fd) (T : Tx K mg CB CM) : FnOk P w K mg base CX0 4 f fd ["board", "x", "words"] (spDo CB CM 10) := by
  refine F.ok scD10 (fun vs H Q E h => by obtain ⟨_, _, _, _, _, _, rfl, _⟩ := h; rfl) (fun cdv A outer s H vs Q E hr h => ?_)
  have hu := hu_of hr
  obtain ⟨H0, p, lw, x, n, ws, rfl, R, hlw, hws, hto, hsl, k⟩ := h
  obtain ⟨A, ts, ls, B⟩ := R
  obtain ⟨sv, tv, dv, hp, hz⟩ := B.hp
  refine ⟨_, (pss_one (ps_dput hu (pe_fld (pv 0) rfl) pe_str (pe_dget hu (pe_fld (pv 0) rfl) pe_str (fun _ _ => rfl)) rfl)), ?_⟩
  exact ⟨_, rfl, p, CB, A.dx, _, _, rfl, hp, T.cB, T.n_registers, bF_reg, A.r, _, rfl, dg (k := Sum.inr "a") B.hr rG_a, _, rfl, p, CB, A.dx, _, _, rfl, hp, T.cB, T.n_registers, bF_reg, A.r, _, rfl, dp (k := Sum.inr "b") B.hr rP_b, k _ ⟨A, ts, ls, B.regs (a := x.a) (b := x.a) (pc := x.pc) (sp := x.sp)⟩⟩
abbrev sD11 : Stmt := topS 16
def scD11N : List Str := ["board", "x", "words", "a"]
theorem scD11 : FnScope scD11N ["board", "x", "words"] (defScope sD11) := ⟨rfl, rfl, rfl, by decide +kernel, rfl, by decide +kernel, by decide +kernel⟩
theorem ok_D11 {f : Addr} {fd : FuncData} {fF_give : Addr} {dF_give : FuncData} (F : Fun K "do_swap" "do_swap" sD11 f fd) (T : Tx K mg CB CM)
    (F_give : CalF P w K mg base 1 "give" ["board", "word"] (spGive CB CM) fF_give dF_give) : FnOk P w K mg base CX0 4 f fd ["board", "x", "words"] (spDo CB CM 11) := by
  refine F.ok scD11 (fun vs H Q E h => by obtain ⟨_, _, _, _, _, _, rfl, _⟩ := h; rfl) (fun cdv A outer s H vs Q E hr h => ?_)
  have hu := hu_of hr
  obtain ⟨H0, p, lw, x, n, ws, rfl, R, hlw, hws, hto, hsl, k⟩ := h
  obtain ⟨A, ts, ls, B⟩ := R
  obtain ⟨sv, tv, dv, hp, hz⟩ := B.hp
  refine ⟨_, (pss_cons (ps_set (i := 3) scD11.nd rfl (.inl rfl) (pe_dget hu (pe_fld (pv 0) rfl) pe_str (fun _ _ => rfl)))
    (pss_cons (ps_expr (pe_call F_give.G (hr.mono (by decide)) (by rfl) F_give.g F_give.kp F_give.b .nil pass0 (pa_cons (pv 0) (pa_cons (pe_dget hu (pe_fld (pv 0) rfl) pe_str (fun _ _ => rfl)) pa_nil))))
    (pss_one (ps_dput hu (pe_fld (pv 0) rfl) pe_str (pv 3) rfl)))), ?_⟩
  refine ⟨_, rfl, p, CB, A.dx, _, _, rfl, hp, T.cB, T.n_registers, bF_reg, A.r, _, rfl, dg (k := Sum.inr "a") B.hr rG_a, _, rfl, _, rfl, p, CB, A.dx, _, _, rfl, hp, T.cB, T.n_registers, bF_reg, A.r, _, rfl, dg (k := Sum.inr "b") B.hr rG_b, H0, p, x, x.b, rfl, ⟨A, ts, ls, B⟩, fun H1 R1 => ?_⟩
  obtain ⟨A1, ts1, ls1, B1⟩ := R1
  obtain ⟨sv1, tv1, dv1, hp1, hz1⟩ := B1.hp
  exact ⟨_, rfl, _, rfl, p, CB, A1.dx, _, _, rfl, hp1, T.cB, T.n_registers, bF_reg, A1.r, _, rfl, dp (k := Sum.inr "b") B1.hr rP_b, k _ ⟨A1, ts1, ls1, B1.regs (a := x.b) (b := x.a) (pc := x.pc) (sp := x.sp)⟩⟩
abbrev sD12 : Stmt := topS 17
def scD12N : List Str := ["board", "x", "words"]
theorem scD12 : FnScope scD12N ["board", "x", "words"] (defScope sD12) := ⟨rfl, rfl, rfl, by decide +kernel, rfl, by decide +kernel, by decide +kernel⟩
theorem ok_D12 {f : Addr} {fd : FuncData} (F : Fun K "do_go" "do_go" sD12 f fd) (T : Tx K mg CB CM) : FnOk P w K mg base CX0 4 f fd ["board", "x", "words"] (spDo CB CM 12) := by
  refine F.ok scD12 (fun vs H Q E h => by obtain ⟨_, _, _, _, _, _, rfl, _⟩ := h; rfl) (fun cdv A outer s H vs Q E hr h => ?_)
  have hu := hu_of hr
  obtain ⟨H0, p, lw, x, n, ws, rfl, R, hlw, hws, hto, hsl, k⟩ := h
  obtain ⟨A, ts, ls, B⟩ := R
  obtain ⟨sv, tv, dv, hp, hz⟩ := B.hp
  refine ⟨_, (pss_one (ps_dput hu (pe_fld (pv 0) rfl) pe_str (pv 1) rfl)), ?_⟩
  exact ⟨_, rfl, _, rfl, p, CB, A.dx, _, _, rfl, hp, T.cB, T.n_registers, bF_reg, A.r, _, rfl, dp (k := Sum.inr "pc") B.hr rP_pc, k _ ⟨A, ts, ls, B.regs (a := x.a) (b := x.b) (pc := n) (sp := x.sp)⟩⟩
abbrev sD13 : Stmt := topS 18
def scD13N : List Str := ["board", "x", "words"]
theorem scD13 : FnScope scD13N ["board", "x", "words"] (defScope sD13) := ⟨rfl, rfl, rfl, by decide +kernel, rfl, by decide +kernel, by decide +kernel⟩
theorem ok_D13 {f : Addr} {fd : FuncData} (F : Fun K "do_ifz" "do_ifz" sD13 f fd) (T : Tx K mg CB CM) : FnOk P w K mg base CX0 4 f fd ["board", "x", "words"] (spDo CB CM 13) := by
  refine F.ok scD13 (fun vs H Q E h => by obtain ⟨_, _, _, _, _, _, rfl, _⟩ := h; rfl) (fun cdv A outer s H vs Q E hr h => ?_)
  have hu := hu_of hr
  obtain ⟨H0, p, lw, x, n, ws, rfl, R, hlw, hws, hto, hsl, k⟩ := h
  obtain ⟨A, ts, ls, B⟩ := R
  obtain ⟨sv, tv, dv, hp, hz⟩ := B.hp
  refine ⟨_, (pss_one (ps_if (pt_val (pe_fld (pv 0) rfl)) (pss_one (ps_dput hu (pe_fld (pv 0) rfl) pe_str (pv 1) rfl)) pss_nil)), ?_⟩
  refine ⟨_, rfl, p, CB, A.dx, _, _, rfl, hp, T.cB, T.n_zero, bF_zero, _, rfl, ifB (fun h => ?_) (fun h => ?_)⟩
  · have e : doM 13 n ws x = { x with pc := n } := if_pos h
    rw [e] at k
    exact ⟨_, rfl, _, rfl, p, CB, A.dx, _, _, rfl, hp, T.cB, T.n_registers, bF_reg, A.r, _, rfl, dp (k := Sum.inr "pc") B.hr rP_pc, k _ ⟨A, ts, ls, B.regs (a := x.a) (b := x.b) (pc := n) (sp := x.sp)⟩⟩
  · have e : doM 13 n ws x = x := if_neg (by rw [h]; decide)
    rw [e] at k
    exact k _ ⟨A, ts, ls, B⟩
abbrev sD14 : Stmt := topS 19
def scD14N : List Str := ["board", "x", "words"]
theorem scD14 : FnScope scD14N ["board", "x", "words"] (defScope sD14) := ⟨rfl, rfl, rfl, by decide +kernel, rfl, by decide +kernel, by decide +kernel⟩
theorem ok_D14 {f : Addr} {fd : FuncData} (F : Fun K "do_ifn" "do_ifn" sD14 f fd) (T : Tx K mg CB CM) : FnOk P w K mg base CX0 4 f fd ["board", "x", "words"] (spDo CB CM 14) := by
  refine F.ok scD14 (fun vs H Q E h => by obtain ⟨_, _, _, _, _, _, rfl, _⟩ := h; rfl) (fun cdv A outer s H vs Q E hr h => ?_)
  have hu := hu_of hr
  obtain ⟨t_HIGH, g_HIGH⟩ := T.g_HIGH
  obtain ⟨H0, p, lw, x, n, ws, rfl, R, hlw, hws, hto, hsl, k⟩ := h
  obtain ⟨A, ts, ls, B⟩ := R
  obtain ⟨sv, tv, dv, hp, hz⟩ := B.hp
  refine ⟨_, (pss_one (ps_if (pt_cmpR op_ge (pe_dget hu (pe_fld (pv 0) rfl) pe_str (fun _ _ => rfl)) (pgI g_HIGH) (nomark _)) (pss_one (ps_dput hu (pe_fld (pv 0) rfl) pe_str (pv 1) rfl)) pss_nil)), ?_⟩
  refine ⟨_, rfl, p, CB, A.dx, _, _, rfl, hp, T.cB, T.n_registers, bF_reg, A.r, _, rfl, dg (k := Sum.inr "a") B.hr rG_a, _, _, rfl, rfl, _, rfl, ifB (fun h => ?_) (fun h => ?_)⟩
  · have e : doM 14 n ws x = { x with pc := n } := if_pos (of_decide_eq_true h)
    rw [e] at k
    exact ⟨_, rfl, _, rfl, p, CB, A.dx, _, _, rfl, hp, T.cB, T.n_registers, bF_reg, A.r, _, rfl, dp (k := Sum.inr "pc") B.hr rP_pc, k _ ⟨A, ts, ls, B.regs (a := x.a) (b := x.b) (pc := n) (sp := x.sp)⟩⟩
  · have e : doM 14 n ws x = x := if_neg (of_decide_eq_false h)
    rw [e] at k
    exact k _ ⟨A, ts, ls, B⟩
abbrev sD15 : Stmt := topS 20
def scD15N : List Str := ["board", "x", "words"]
theorem scD15 : FnScope scD15N ["board", "x", "words"] (defScope sD15) := ⟨rfl, rfl, rfl, by decide +kernel, rfl, by decide +kernel, by decide +kernel⟩
theorem ok_D15 {f : Addr} {fd : FuncData} {fM_pbt : Addr} {dM_pbt : FuncData} (F : Fun K "do_call" "do_call" sD15 f fd) (T : Tx K mg CB CM)
    (M_pbt : CalM P w K mg base CB 3 "put_by_turn" ["self", "address", "word"] (spPw CB CM) fM_pbt dM_pbt) : FnOk P w K mg base CX0 4 f fd ["board", "x", "words"] (spDo CB CM 15) := by
  refine F.ok scD15 (fun vs H Q E h => by obtain ⟨_, _, _, _, _, _, rfl, _⟩ := h; rfl) (fun cdv A outer s H vs Q E hr h => ?_)
  have hu := hu_of hr
  obtain ⟨H0, p, lw, x, n, ws, rfl, R, hlw, hws, hto, hsl, k⟩ := h
  obtain ⟨A, ts, ls, B⟩ := R
  obtain ⟨sv, tv, dv, hp, hz⟩ := B.hp
  obtain ⟨t0, t1⟩ := hto (true, x.sp) (List.mem_singleton.mpr rfl)
  refine ⟨_, (pss_cons (ps_expr (pe_meth (pv 0) M_pbt.c M_pbt.m M_pbt.G (hr.mono (by decide)) M_pbt.b .nil pass0 (pa_cons (pe_dget hu (pe_fld (pv 0) rfl) pe_str (fun _ _ => rfl)) (pa_cons (pe_dget hu (pe_fld (pv 0) rfl) pe_str (fun _ _ => rfl)) pa_nil))))
    (pss_cons (ps_daug hu (pe_fld (pv 0) rfl) pe_str pe_int in_sub (fun _ _ _ => rfl))
    (pss_one (ps_dput hu (pe_fld (pv 0) rfl) pe_str (pv 1) rfl)))), ?_⟩
  refine ⟨_, rfl, p, A.dx, _, rfl, hp, bN_pbt, _, rfl, p, CB, A.dx, _, _, rfl, hp, T.cB, T.n_registers, bF_reg, A.r, _, rfl, dg (k := Sum.inr "sp") B.hr rG_sp, _, rfl, p, CB, A.dx, _, _, rfl, hp, T.cB, T.n_registers, bF_reg, A.r, _, rfl, dg (k := Sum.inr "pc") B.hr rG_pc, H0, p, x, x.sp, x.pc, rfl, ⟨A, ts, ls, B⟩, hsl, t0, t1, fun H1 R1 => ?_⟩
  obtain ⟨A1, ts1, ls1, B1⟩ := R1
  obtain ⟨sv1, tv1, dv1, hp1, hz1⟩ := B1.hp
  have e0 : ∀ a v, ((putWM a v x).a = x.a ∧ (putWM a v x).b = x.b ∧ (putWM a v x).pc = x.pc ∧ (putWM a v x).sp = x.sp) := fun a v => by
    unfold putWM sendM
    split <;> exact ⟨rfl, rfl, rfl, rfl⟩
  obtain ⟨ea, eb, ec, ed⟩ := e0 x.sp x.pc
  refine ⟨_, rfl, p, CB, A1.dx, _, _, rfl, hp1, T.cB, T.n_registers, bF_reg, A1.r, _, rfl, dg (k := Sum.inr "sp") B1.hr rG_sp, _, _, rfl, rfl, _, dp (k := Sum.inr "sp") B1.hr rP_sp, ?_⟩
  have B2 := B1.regs (a := (putWM x.sp x.pc x).a) (b := (putWM x.sp x.pc x).b) (pc := (putWM x.sp x.pc x).pc) (sp := (putWM x.sp x.pc x).sp - 1)
  obtain ⟨sv2, tv2, dv2, hp2, hz2⟩ := B2.hp
  refine ⟨_, rfl, _, rfl, p, CB, A1.dx, _, _, rfl, hp2, T.cB, T.n_registers, bF_reg, A1.r, _, rfl, dp (k := Sum.inr "pc") B2.hr rP_pc, k _ ⟨A1, ts1, ls1, ?_⟩⟩
  have B3 := B2.regs (a := (putWM x.sp x.pc x).a) (b := (putWM x.sp x.pc x).b) (pc := n) (sp := (putWM x.sp x.pc x).sp - 1)
  rw [ed] at B3 ⊢
  exact B3
abbrev sD16 : Stmt := topS 21
def scD16N : List Str := ["board", "x", "words"]
theorem scD16 : FnScope scD16N ["board", "x", "words"] (defScope sD16) := ⟨rfl, rfl, rfl, by decide +kernel, rfl, by decide +kernel, by decide +kernel⟩
theorem ok_D16 {f : Addr} {fd : FuncData} (F : Fun K "do_ret" "do_ret" sD16 f fd) (T : Tx K mg CB CM) : FnOk P w K mg base CX0 4 f fd ["board", "x", "words"] (spDo CB CM 16) := by
  refine F.ok scD16 (fun vs H Q E h => by obtain ⟨_, _, _, _, _, _, rfl, _⟩ := h; rfl) (fun cdv A outer s H vs Q E hr h => ?_)
  have hu := hu_of hr
  obtain ⟨H0, p, lw, x, n, ws, rfl, R, hlw, hws, hto, hsl, k⟩ := h
  obtain ⟨v, rfl⟩ := len1 hws
  obtain ⟨A, ts, ls, B⟩ := R
  obtain ⟨sv, tv, dv, hp, hz⟩ := B.hp
  refine ⟨_, (pss_cons (ps_daug hu (pe_fld (pv 0) rfl) pe_str pe_int in_add (fun _ _ _ => rfl))
    (pss_one (ps_dput hu (pe_fld (pv 0) rfl) pe_str (pe_ix ix_list (pv 2) pe_int (fun _ _ => rfl)) rfl))), ?_⟩
  refine ⟨_, rfl, p, CB, A.dx, _, _, rfl, hp, T.cB, T.n_registers, bF_reg, A.r, _, rfl, dg (k := Sum.inr "sp") B.hr rG_sp, _, _, rfl, rfl, _, dp (k := Sum.inr "sp") B.hr rP_sp, ?_⟩
  have B1 := B.regs (a := x.a) (b := x.b) (pc := x.pc) (sp := x.sp + 1)
  obtain ⟨sv1, tv1, dv1, hp1, hz1⟩ := B1.hp
  have hlw1 : upd H A.r (.dK (regD x.a x.b x.pc (x.sp + 1))) lw = some (.lst [.int v]) := by rw [upd_ne (ne_of hlw B.hr (by intro q; cases q))]; exact hlw
  exact ⟨_, rfl, lw, _, 0, _, rfl, rfl, SqL.of hlw1, atI_nat (j := 0) rfl, _, rfl, p, CB, A.dx, _, _, rfl, hp1, T.cB, T.n_registers, bF_reg, A.r, _, rfl, dp (k := Sum.inr "pc") B1.hr rP_pc, k _ ⟨A, ts, ls, B1.regs (a := x.a) (b := x.b) (pc := v) (sp := x.sp + 1)⟩⟩
abbrev sD17 : Stmt := topS 22
def scD17N : List Str := ["board", "x", "words"]
theorem scD17 : FnScope scD17N ["board", "x", "words"] (defScope sD17) := ⟨rfl, rfl, rfl, by decide +kernel, rfl, by decide +kernel, by decide +kernel⟩
theorem ok_D17 {f : Addr} {fd : FuncData} {fM_pbt : Addr} {dM_pbt : FuncData} (F : Fun K "do_push" "do_push" sD17 f fd) (T : Tx K mg CB CM)
    (M_pbt : CalM P w K mg base CB 3 "put_by_turn" ["self", "address", "word"] (spPw CB CM) fM_pbt dM_pbt) : FnOk P w K mg base CX0 4 f fd ["board", "x", "words"] (spDo CB CM 17) := by
  refine F.ok scD17 (fun vs H Q E h => by obtain ⟨_, _, _, _, _, _, rfl, _⟩ := h; rfl) (fun cdv A outer s H vs Q E hr h => ?_)
  have hu := hu_of hr
  obtain ⟨H0, p, lw, x, n, ws, rfl, R, hlw, hws, hto, hsl, k⟩ := h
  obtain ⟨A, ts, ls, B⟩ := R
  obtain ⟨sv, tv, dv, hp, hz⟩ := B.hp
  obtain ⟨t0, t1⟩ := hto (true, x.sp) (List.mem_singleton.mpr rfl)
  refine ⟨_, (pss_cons (ps_expr (pe_meth (pv 0) M_pbt.c M_pbt.m M_pbt.G (hr.mono (by decide)) M_pbt.b .nil pass0 (pa_cons (pe_dget hu (pe_fld (pv 0) rfl) pe_str (fun _ _ => rfl)) (pa_cons (pe_dget hu (pe_fld (pv 0) rfl) pe_str (fun _ _ => rfl)) pa_nil))))
    (pss_one (ps_daug hu (pe_fld (pv 0) rfl) pe_str pe_int in_sub (fun _ _ _ => rfl)))), ?_⟩
  refine ⟨_, rfl, p, A.dx, _, rfl, hp, bN_pbt, _, rfl, p, CB, A.dx, _, _, rfl, hp, T.cB, T.n_registers, bF_reg, A.r, _, rfl, dg (k := Sum.inr "sp") B.hr rG_sp, _, rfl, p, CB, A.dx, _, _, rfl, hp, T.cB, T.n_registers, bF_reg, A.r, _, rfl, dg (k := Sum.inr "a") B.hr rG_a, H0, p, x, x.sp, x.a, rfl, ⟨A, ts, ls, B⟩, hsl, t0, t1, fun H1 R1 => ?_⟩
  obtain ⟨A1, ts1, ls1, B1⟩ := R1
  obtain ⟨sv1, tv1, dv1, hp1, hz1⟩ := B1.hp
  have e0 : ∀ a v, ((putWM a v x).a = x.a ∧ (putWM a v x).b = x.b ∧ (putWM a v x).pc = x.pc ∧ (putWM a v x).sp = x.sp) := fun a v => by
    unfold putWM sendM
    split <;> exact ⟨rfl, rfl, rfl, rfl⟩
  obtain ⟨ea, eb, ec, ed⟩ := e0 x.sp x.a
  refine ⟨_, rfl, p, CB, A1.dx, _, _, rfl, hp1, T.cB, T.n_registers, bF_reg, A1.r, _, rfl, dg (k := Sum.inr "sp") B1.hr rG_sp, _, _, rfl, rfl, _, dp (k := Sum.inr "sp") B1.hr rP_sp, k _ ⟨A1, ts1, ls1, ?_⟩⟩
  have B2 := B1.regs (a := (putWM x.sp x.a x).a) (b := (putWM x.sp x.a x).b) (pc := (putWM x.sp x.a x).pc) (sp := (putWM x.sp x.a x).sp - 1)
  rw [ed] at B2 ⊢
  exact B2
abbrev sD18 : Stmt := topS 23
def scD18N : List Str := ["board", "x", "words"]
theorem scD18 : FnScope scD18N ["board", "x", "words"] (defScope sD18) := ⟨rfl, rfl, rfl, by decide +kernel, rfl, by decide +kernel, by decide +kernel⟩
theorem ok_D18 {f : Addr} {fd : FuncData} {fF_give : Addr} {dF_give : FuncData} (F : Fun K "do_pop" "do_pop" sD18 f fd) (T : Tx K mg CB CM)
    (F_give : CalF P w K mg base 1 "give" ["board", "word"] (spGive CB CM) fF_give dF_give) : FnOk P w K mg base CX0 4 f fd ["board", "x", "words"] (spDo CB CM 18) := by
  refine F.ok scD18 (fun vs H Q E h => by obtain ⟨_, _, _, _, _, _, rfl, _⟩ := h; rfl) (fun cdv A outer s H vs Q E hr h => ?_)
  have hu := hu_of hr
  obtain ⟨H0, p, lw, x, n, ws, rfl, R, hlw, hws, hto, hsl, k⟩ := h
  obtain ⟨v, rfl⟩ := len1 hws
  obtain ⟨A, ts, ls, B⟩ := R
  obtain ⟨sv, tv, dv, hp, hz⟩ := B.hp
  refine ⟨_, (pss_cons (ps_daug hu (pe_fld (pv 0) rfl) pe_str pe_int in_add (fun _ _ _ => rfl))
    (pss_one (ps_expr (pe_call F_give.G (hr.mono (by decide)) (by rfl) F_give.g F_give.kp F_give.b .nil pass0 (pa_cons (pv 0) (pa_cons (pe_ix ix_list (pv 2) pe_int (fun _ _ => rfl)) pa_nil)))))), ?_⟩
  refine ⟨_, rfl, p, CB, A.dx, _, _, rfl, hp, T.cB, T.n_registers, bF_reg, A.r, _, rfl, dg (k := Sum.inr "sp") B.hr rG_sp, _, _, rfl, rfl, _, dp (k := Sum.inr "sp") B.hr rP_sp, ?_⟩
  have B1 := B.regs (a := x.a) (b := x.b) (pc := x.pc) (sp := x.sp + 1)
  have hlw1 : upd H A.r (.dK (regD x.a x.b x.pc (x.sp + 1))) lw = some (.lst [.int v]) := by rw [upd_ne (ne_of hlw B.hr (by intro q; cases q))]; exact hlw
  exact ⟨_, rfl, _, rfl, lw, _, 0, _, rfl, rfl, SqL.of hlw1, atI_nat (j := 0) rfl, H0, p, _, v, rfl, ⟨A, ts, ls, B1⟩, k⟩
abbrev sD19 : Stmt := topS 24
def scD19N : List Str := ["board", "x", "words"]
theorem scD19 : FnScope scD19N ["board", "x", "words"] (defScope sD19) := ⟨rfl, rfl, rfl, by decide +kernel, rfl, by decide +kernel, by decide +kernel⟩
theorem ok_D19 {f : Addr} {fd : FuncData} (F : Fun K "do_sleep" "do_sleep" sD19 f fd) (T : Tx K mg CB CM) : FnOk P w K mg base CX0 4 f fd ["board", "x", "words"] (spDo CB CM 19) := by
  refine F.ok scD19 (fun vs H Q E h => by obtain ⟨_, _, _, _, _, _, rfl, _⟩ := h; rfl) (fun cdv A outer s H vs Q E hr h => ?_)
  have hu := hu_of hr
  obtain ⟨H0, p, lw, x, n, ws, rfl, R, hlw, hws, hto, hsl, k⟩ := h
  obtain ⟨A, ts, ls, B⟩ := R
  obtain ⟨sv, tv, dv, hp, hz⟩ := B.hp
  refine ⟨_, (pss_one (ps_fld (pv 0) pe_bl rfl)), ?_⟩
  refine ⟨_, rfl, p, CB, A.dx, _, rfl, hp, T.cB, T.n_asleep, (by show 13 < 1000; decide), ?_⟩
  rw [bP_asleep]
  exact k _ ⟨A, ts, ls, B.fld (z := x.zero) (le := x.lets) (as := true) (bt := x.beat) (sv := sv) (la := x.la) (tv := tv) (dv := dv) hz⟩
abbrev sD20 : Stmt := topS 25
def scD20N : List Str := ["board", "x", "words"]
theorem scD20 : FnScope scD20N ["board", "x", "words"] (defScope sD20) := ⟨rfl, rfl, rfl, by decide +kernel, rfl, by decide +kernel, by decide +kernel⟩
theorem ok_D20 {f : Addr} {fd : FuncData} (F : Fun K "do_let" "do_let" sD20 f fd) (T : Tx K mg CB CM) : FnOk P w K mg base CX0 4 f fd ["board", "x", "words"] (spDo CB CM 20) := by
  refine F.ok scD20 (fun vs H Q E h => by obtain ⟨_, _, _, _, _, _, rfl, _⟩ := h; rfl) (fun cdv A outer s H vs Q E hr h => ?_)
  have hu := hu_of hr
  obtain ⟨H0, p, lw, x, n, ws, rfl, R, hlw, hws, hto, hsl, k⟩ := h
  obtain ⟨A, ts, ls, B⟩ := R
  obtain ⟨sv, tv, dv, hp, hz⟩ := B.hp
  refine ⟨_, (pss_one (ps_fld (pv 0) (pe_cmpR op_eq (pe_op op_mod (pv 1) pe_int) pe_int (nomark _)) rfl)), ?_⟩
  have eb : ∀ u : Int, decide (V.int (u % 2) = V.int 1) = decide (u % 2 = 1) := fun u => by
    by_cases h : u % 2 = 1
    · rw [decide_eq_true h, h]; rfl
    · rw [decide_eq_false h]; exact decide_eq_false fun z => h (V.int.inj z)
  refine ⟨_, rfl, _, _, rfl, rfl, (by show (0 : Int) < 2; decide), rfl, _, rfl, p, CB, A.dx, _, rfl, hp, T.cB, T.n_lets, (by show 13 < 1000; decide), ?_⟩
  rw [bP_lets, eb]
  exact k _ ⟨A, ts, ls, B.fld (z := x.zero) (le := decide (n % 2 = 1)) (as := x.asleep) (bt := x.beat) (sv := sv) (la := x.la) (tv := tv) (dv := dv) hz⟩
abbrev sD21 : Stmt := topS 26
def scD21N : List Str := ["board", "x", "words"]
theorem scD21 : FnScope scD21N ["board", "x", "words"] (defScope sD21) := ⟨rfl, rfl, rfl, by decide +kernel, rfl, by decide +kernel, by decide +kernel⟩
theorem ok_D21 {f : Addr} {fd : FuncData} (F : Fun K "do_back" "do_back" sD21 f fd) (T : Tx K mg CB CM) : FnOk P w K mg base CX0 4 f fd ["board", "x", "words"] (spDo CB CM 21) := by
  refine F.ok scD21 (fun vs H Q E h => by obtain ⟨_, _, _, _, _, _, rfl, _⟩ := h; rfl) (fun cdv A outer s H vs Q E hr h => ?_)
  have hu := hu_of hr
  obtain ⟨H0, p, lw, x, n, ws, rfl, R, hlw, hws, hto, hsl, k⟩ := h
  obtain ⟨v, v2, rfl⟩ := len2 hws
  obtain ⟨A, ts, ls, B⟩ := R
  obtain ⟨sv, tv, dv, hp, hz⟩ := B.hp
  refine ⟨_, (pss_cons (ps_daug hu (pe_fld (pv 0) rfl) pe_str pe_int in_add (fun _ _ _ => rfl))
    (pss_cons (ps_fld (pv 0) (pe_cmpR op_eq (pe_op op_mod (pe_ix ix_list (pv 2) pe_int (fun _ _ => rfl)) pe_int) pe_int (nomark _)) rfl)
    (pss_cons (ps_dput hu (pe_fld (pv 0) rfl) pe_str (pe_ix ix_list (pv 2) pe_int (fun _ _ => rfl)) rfl)
    (pss_one (ps_fld (pv 0) pe_bl rfl))))), ?_⟩
  have eb : ∀ u : Int, decide (V.int (u % 2) = V.int 1) = decide (u % 2 = 1) := fun u => by
    by_cases h : u % 2 = 1
    · rw [decide_eq_true h, h]; rfl
    · rw [decide_eq_false h]; exact decide_eq_false fun z => h (V.int.inj z)
  refine ⟨_, rfl, p, CB, A.dx, _, _, rfl, hp, T.cB, T.n_registers, bF_reg, A.r, _, rfl, dg (k := Sum.inr "sp") B.hr rG_sp, _, _, rfl, rfl, _, dp (k := Sum.inr "sp") B.hr rP_sp, ?_⟩
  have B1 := B.regs (a := x.a) (b := x.b) (pc := x.pc) (sp := x.sp + 2)
  obtain ⟨sv1, tv1, dv1, hp1, hz1⟩ := B1.hp
  have hlw1 : upd H A.r (.dK (regD x.a x.b x.pc (x.sp + 2))) lw = some (.lst [.int v, .int v2]) := by rw [upd_ne (ne_of hlw B.hr (by intro q; cases q))]; exact hlw
  refine ⟨_, rfl, lw, _, 0, _, rfl, rfl, SqL.of hlw1, atI_nat (j := 0) rfl, _, _, rfl, rfl, (by show (0 : Int) < 2; decide), rfl, _, rfl, p, CB, A.dx, _, rfl, hp1, T.cB, T.n_zero, (by show 13 < 1000; decide), ?_⟩
  rw [bP_zero, eb]
  have B2 := B1.fld (z := decide (v % 2 = 1)) (le := x.lets) (as := x.asleep) (bt := x.beat) (sv := sv1) (la := x.la) (tv := tv1) (dv := dv1) hz1
  have hlw2 := hlw1
  rw [← upd_ne (H := upd H A.r (.dK (regD x.a x.b x.pc (x.sp + 2)))) (o := .ins CB A.dx (bdF A.r A.t A.m A.l (decide (v % 2 = 1)) x.lets x.asleep x.beat sv1 x.la tv1 dv1)) (ne_of hlw1 hp1 (by intro q; cases q))] at hlw2
  obtain ⟨sv2, tv2, dv2, hp2, hz2⟩ := B2.hp
  refine ⟨_, rfl, lw, _, 1, _, rfl, rfl, SqL.of hlw2, atI_nat (j := 1) rfl, _, rfl, p, CB, A.dx, _, _, rfl, hp2, T.cB, T.n_registers, bF_reg, A.r, _, rfl, dp (k := Sum.inr "pc") B2.hr rP_pc, ?_⟩
  have B3 := B2.regs (a := x.a) (b := x.b) (pc := v2) (sp := x.sp + 2)
  obtain ⟨sv3, tv3, dv3, hp3, hz3⟩ := B3.hp
  refine ⟨_, rfl, p, CB, A.dx, _, rfl, hp3, T.cB, T.n_lets, (by show 13 < 1000; decide), ?_⟩
  rw [bP_lets]
  exact k _ ⟨A, ts, ls, B3.fld (z := decide (v % 2 = 1)) (le := true) (as := x.asleep) (bt := x.beat) (sv := sv3) (la := x.la) (tv := tv3) (dv := dv3) hz3⟩
abbrev sD22 : Stmt := topS 27
def scD22N : List Str := ["board", "x", "words"]
theorem scD22 : FnScope scD22N ["board", "x", "words"] (defScope sD22) := ⟨rfl, rfl, rfl, by decide +kernel, rfl, by decide +kernel, by decide +kernel⟩
theorem ok_D22 {f : Addr} {fd : FuncData} {fF_give : Addr} {dF_give : FuncData} (F : Fun K "do_half" "do_half" sD22 f fd) (T : Tx K mg CB CM)
    (F_give : CalF P w K mg base 1 "give" ["board", "word"] (spGive CB CM) fF_give dF_give) : FnOk P w K mg base CX0 4 f fd ["board", "x", "words"] (spDo CB CM 22) := by
  refine F.ok scD22 (fun vs H Q E h => by obtain ⟨_, _, _, _, _, _, rfl, _⟩ := h; rfl) (fun cdv A outer s H vs Q E hr h => ?_)
  have hu := hu_of hr
  obtain ⟨H0, p, lw, x, n, ws, rfl, R, hlw, hws, hto, hsl, k⟩ := h
  obtain ⟨A, ts, ls, B⟩ := R
  obtain ⟨sv, tv, dv, hp, hz⟩ := B.hp
  refine ⟨_, (pss_one (ps_expr (pe_call F_give.G (hr.mono (by decide)) (by rfl) F_give.g F_give.kp F_give.b .nil pass0 (pa_cons (pv 0) (pa_cons (pe_op op_fdiv (pe_dget hu (pe_fld (pv 0) rfl) pe_str (fun _ _ => rfl)) pe_int) pa_nil))))), ?_⟩
  exact ⟨_, rfl, _, rfl, p, CB, A.dx, _, _, rfl, hp, T.cB, T.n_registers, bF_reg, A.r, _, rfl, dg (k := Sum.inr "a") B.hr rG_a, _, _, rfl, rfl, ⟨by decide, by decide⟩, H0, p, x, x.a / 2, rfl, ⟨A, ts, ls, B⟩, k⟩
end
end Bh

/-! Beats, stops, what may be touched. -/
namespace Bh
open PySem PySem.Spec PyProof.Rows L2
def spCome (CB CM : Addr) : Sp := fun vs H Q _ => ∃ (H0 : Hp) (p : Addr) (x : Bd), vs = [.ref p] ∧ BoardAt CB CM H0 H p x ∧ ∀ H', BoardAt CB CM H0 H' p (comeM x) → Q .non H'
def spPass (CB CM : Addr) : Sp := fun vs H Q _ => ∃ (H0 : Hp) (p : Addr) (x : Bd) (n : Nat), vs = [.ref p, .int (n : Int)] ∧ BoardAt CB CM H0 H p x ∧ n ≤ 1000 ∧ ∀ H', BoardAt CB CM H0 H' p (passM n x) → Q .non H'
def spStop (CB CM : Addr) : Sp := fun vs H Q _ => ∃ (H0 : Hp) (p q : Addr) (x : Bd) (s : Str) (ns : List Int), vs = [.ref p, .ref q] ∧ BoardAt CB CM H0 H p x ∧ H q = some (.tup (.str s :: ns.map V.int)) ∧ ∀ H', BoardAt CB CM H0 H' p { x with stop := some (s, ns) } → Q (.str "stopped") H'
def mayM (x : Bd) (ts : List (Bool × Int)) : Bool × Bd := match firstBad ts with
  | some r => (false, { x with stop := some (r.1, [x.pc, r.2]) })
  | none => (true, x)
def spMay (CB CM : Addr) : Sp := fun vs H Q _ => ∃ (H0 : Hp) (p l : Addr) (x : Bd) (us : List V) (ts : List (Bool × Int)), vs = [.ref p, .ref l] ∧ BoardAt CB CM H0 H p x ∧ H l = some (.lst us) ∧ TouAt H us ts ∧ ∀ H', BoardAt CB CM H0 H' p (mayM x ts).2 → Q (.bl (mayM x ts).1) H'
def comingM (x : Bd) : Str := if x.stop ≠ none then "stopped" else if x.asleep = true ∧ calledM x = 0 then "asleep" else if x.lets = true ∧ calledM x ≠ 0 then "interrupt" else "deed"
def spComing (CB CM : Addr) : Sp := fun vs H Q _ => ∃ (H0 : Hp) (p : Addr) (x : Bd), vs = [.ref p] ∧ BoardAt CB CM H0 H p x ∧ Q (.str (comingM x)) H
section
variable {P : Program} {w : World} {K : PySem.W.Frag} {mg : Str → Option Value} {base : Heap} {CB CM : Addr}
abbrev sMcome : Stmt := inClass (topS 69) 13
def scMcomeN : List Str := ["self"]
theorem scMcome : FnScope scMcomeN ["self"] (defScope sMcome) := ⟨rfl, rfl, rfl, by decide +kernel, rfl, by decide +kernel, by decide +kernel⟩
theorem ok_Mcome {f : Addr} {fd : FuncData} {fM_take : Addr} {dM_take : FuncData} (F : Fun K "come_line" "Board.come_line" sMcome f fd) (T : Tx K mg CB CM)
    (M_take : CalM P w K mg base CM 1 "take_line" ["self", "value"] (spMTake CM) fM_take dM_take) : FnOk P w K mg base CX0 2 f fd ["self"] (spCome CB CM) := by
  refine F.ok scMcome (fun vs H Q E h => by obtain ⟨_, _, _, rfl, _⟩ := h; rfl) (fun cdv A outer s H vs Q E hr h => ?_)
  have hu := hu_of hr
  have z_len := T.z_len
  obtain ⟨H0, p, x, rfl, R, k⟩ := h
  obtain ⟨A, ts, ls, B⟩ := R
  obtain ⟨sv, tv, dv, hp, hz⟩ := B.hp
  refine ⟨_, (pss_one (ps_if (PW.pt (pw_and (pt_cmpR op_lt (pe_fld (pv 0) rfl) (pe_callB call_len_seq (by rfl) z_len PySem.boot_len (pa_cons (pe_fld (pv 0) rfl) pa_nil)) (nomark _)) (pw_and1 (pt_cmpR op_eq (pe_ix ix_tup (pe_ix ix_list (pe_fld (pv 0) rfl) (pe_fld (pv 0) rfl) (fun _ _ => rfl)) pe_int (fun _ _ => rfl)) (pe_fld (pv 0) rfl) (nomark _))))) (pss_cons (ps_expr (pe_meth (pe_fld (pv 0) rfl) M_take.c M_take.m M_take.G (hr.mono (by decide)) M_take.b .nil pass0 (pa_cons (pe_ix ix_tup (pe_ix ix_list (pe_fld (pv 0) rfl) (pe_fld (pv 0) rfl) (fun _ _ => rfl)) pe_int (fun _ _ => rfl)) pa_nil)))
    (pss_one (ps_fldaug (pv 0) pe_int in_add))) pss_nil)), ?_⟩
  unfold comeM at k
  refine ⟨_, rfl, p, CB, A.dx, _, _, rfl, hp, T.cB, T.n_line_at, bF_la, _, rfl, p, CB, A.dx, _, _, rfl, hp, T.cB, T.n_line, bF_line, A.l, _, rfl, .inl (SqL.of B.hl), _, _, rfl, rfl, _, rfl, ifB (fun h => ?_) (fun h => ?_)⟩
  · have hl : x.la < x.line.length := by
      have := of_decide_eq_true h
      rw [TupsAt.len B.ll] at this
      omega
    obtain ⟨t, e1, e2⟩ := TupsAt.get B.ll hl
    refine ⟨_, rfl, p, CB, A.dx, _, _, rfl, hp, T.cB, T.n_line, bF_line, _, rfl, p, CB, A.dx, _, _, rfl, hp, T.cB, T.n_line_at, bF_la, A.l, _, _, _, rfl, rfl, SqL.of B.hl, atI_nat e1, t, _, 0, _, rfl, rfl, SqT.of e2, atI_nat (j := 0) rfl, _, rfl, p, CB, A.dx, _, _, rfl, hp, T.cB, T.n_beat, bF_beat, rfl, _, rfl, ifB (fun h2 => ?_) (fun h2 => ?_)⟩
    · have hb : (x.line.getD x.la (0, 0)).1 = x.beat := V.int.inj (of_decide_eq_true h2)
      rw [if_pos ⟨hl, hb⟩] at k
      refine ⟨_, rfl, p, CB, A.dx, _, _, rfl, hp, T.cB, T.n_memory, bF_mem, A.m, A.dm, _, rfl, B.hm, mN_take, _, rfl, p, CB, A.dx, _, _, rfl, hp, T.cB, T.n_line, bF_line, _, rfl, p, CB, A.dx, _, _, rfl, hp, T.cB, T.n_line_at, bF_la, A.l, _, _, _, rfl, rfl, SqL.of B.hl, atI_nat e1, t, _, 1, _, rfl, rfl, SqT.of e2, atI_nat (j := 1) rfl, A.m, A.dm, A.w, A.s, x.mem, _, rfl, B.mem, ?_⟩
      have B1 := B.wds (m := takeLineM (x.line.getD x.la (0, 0)).2 x.mem) (by rw [takeLineM_len]; exact B.lm)
      obtain ⟨sv1, tv1, dv1, hp1, hz1⟩ := B1.hp
      refine ⟨_, rfl, p, CB, A.dx, _, _, rfl, hp1, T.cB, T.n_line_at, bF_la, _, _, rfl, rfl, A.dx, _, hp1, (by show 13 < 1000; decide), ?_⟩
      rw [bP_la (n := 0)]
      exact k _ ⟨A, ts, ls, B1.fld (z := x.zero) (le := x.lets) (as := x.asleep) (bt := x.beat) (sv := sv1) (la := x.la + 1) (tv := tv1) (dv := dv1) hz1⟩
    · rw [if_neg (fun z => of_decide_eq_false h2 (congrArg V.int z.2))] at k
      exact k _ ⟨A, ts, ls, B⟩
  · have hl : ¬ x.la < x.line.length := by
      have := of_decide_eq_false h
      rw [TupsAt.len B.ll] at this
      omega
    rw [if_neg (fun z => hl z.1)] at k
    exact k _ ⟨A, ts, ls, B⟩
abbrev sMpass : Stmt := inClass (topS 69) 12
def scMpassN : List Str := ["self", "many", "_"]
theorem scMpass : FnScope scMpassN ["self", "many"] (defScope sMpass) := ⟨rfl, rfl, rfl, by decide +kernel, rfl, by decide +kernel, by decide +kernel⟩
theorem ok_Mpass {f : Addr} {fd : FuncData} {fM_come : Addr} {dM_come : FuncData} {fM_timer : Addr} {dM_timer : FuncData} (F : Fun K "pass_beats" "Board.pass_beats" sMpass f fd) (T : Tx K mg CB CM)
    (M_come : CalM P w K mg base CB 2 "come_line" ["self"] (spCome CB CM) fM_come dM_come)
    (M_timer : CalM P w K mg base CM 1 "go_timer" ["self"] (spMTim CM) fM_timer dM_timer) : FnOk P w K mg base CX0 3 f fd ["self", "many"] (spPass CB CM) := by
  refine F.ok scMpass (fun vs H Q E h => by obtain ⟨_, _, _, _, rfl, _⟩ := h; rfl) (fun cdv A outer s H vs Q E hr h => ?_)
  have hu := hu_of hr
  have z_range := T.z_range
  obtain ⟨H0, p, x, n, rfl, R, hn, k⟩ := h
  refine ⟨_, (pss_one (ps_for PassesOwn.never rfl (pi_range1 (by rfl) z_range (pa_cons (pv 1) pa_nil)) (pg_name (i := 2) scMpass.nd rfl (.inl rfl))
      (pss_cons (ps_fldaug (pv 0) pe_int in_add)
    (pss_cons (ps_expr (pe_meth0 (pv 0) M_come.c M_come.m M_come.G (hr.mono (by decide)) M_come.b .nil pass0))
    (pss_one (ps_expr (pe_meth0 (pe_fld (pv 0) rfl) M_timer.c M_timer.m M_timer.G (hr.mono (by decide)) M_timer.b .nil pass0))))))), ?_⟩
  refine ⟨_, rfl, (n : Int), rfl, by omega, by omega, ?_⟩
  refine for_range (lo := 0) (n := ((n : Int)).toNat) (fun i σ H' => ∃ (y : Option V) (z : Bd), σ = [some (.ref p), some (.int (n : Int)), y] ∧ BoardAt CB CM H0 H' p z ∧ passM (n - i) z = passM n x) ⟨none, x, rfl, R, rfl⟩ ?_ ?_
  · rintro i σ H1 hi ⟨y, z, rfl, R, e⟩
    have hin : i < n := by omega
    obtain ⟨A, ts, ls, B⟩ := R
    obtain ⟨sv, tv, dv, hp, hz⟩ := B.hp
    refine ⟨_, rfl, p, CB, A.dx, _, _, rfl, hp, T.cB, T.n_beat, bF_beat, _, _, rfl, rfl, A.dx, _, hp, (by show 13 < 1000; decide), ?_⟩
    rw [bP_beat]
    have B1 := B.fld (z := z.zero) (le := z.lets) (as := z.asleep) (bt := z.beat + 1) (sv := sv) (la := z.la) (tv := tv) (dv := dv) hz
    obtain ⟨sv1, tv1, dv1, hp1, hz1⟩ := B1.hp
    refine ⟨_, rfl, p, A.dx, _, rfl, hp1, bN_come, H0, p, _, rfl, ⟨A, ts, ls, B1⟩, fun H2 R2 => ?_⟩
    obtain ⟨A2, ts2, ls2, B2⟩ := R2
    obtain ⟨sv2, tv2, dv2, hp2, hz2⟩ := B2.hp
    refine ⟨_, rfl, p, CB, A2.dx, _, _, rfl, hp2, T.cB, T.n_memory, bF_mem, A2.m, A2.dm, _, rfl, B2.hm, mN_timer, A2.m, A2.dm, A2.w, A2.s, _, rfl, B2.mem, ?_⟩
    have B3 := B2.wds (m := goTimerM (comeM { z with beat := z.beat + 1 }).mem) (by rw [goTimerM_len]; exact B2.lm)
    refine ⟨some (.int (0 + (i : Int))), passOneM z, rfl, ⟨A2, ts2, ls2, B3⟩, ?_⟩
    have e3 : n - i = (n - (i + 1)) + 1 := by omega
    rw [e3] at e
    exact e
  · rintro σ H1 ⟨y, z, rfl, R, e⟩
    have e0 : n - ((n : Int)).toNat = 0 := by omega
    rw [e0] at e
    rw [← e] at k
    exact k _ R
abbrev sMstop : Stmt := inClass (topS 69) 9
def scMstopN : List Str := ["self", "stop"]
theorem scMstop : FnScope scMstopN ["self", "stop"] (defScope sMstop) := ⟨rfl, rfl, rfl, by decide +kernel, rfl, by decide +kernel, by decide +kernel⟩
theorem ok_Mstop {f : Addr} {fd : FuncData} (F : Fun K "stop" "Board.stop" sMstop f fd) (T : Tx K mg CB CM) : FnOk P w K mg base CX0 1 f fd ["self", "stop"] (spStop CB CM) := by
  refine F.ok scMstop (fun vs H Q E h => by obtain ⟨_, _, _, _, _, _, rfl, _⟩ := h; rfl) (fun cdv A outer s H vs Q E hr h => ?_)
  have hu := hu_of hr
  obtain ⟨H0, p, q, x, s_, ns, rfl, R, hq, k⟩ := h
  obtain ⟨A, ts, ls, B⟩ := R
  obtain ⟨sv, tv, dv, hp, hz⟩ := B.hp
  refine ⟨_, (pss_cons (ps_fld (pv 0) (pv 1) rfl)
    (pss_one (ps_ret pe_str))), ?_⟩
  refine ⟨_, rfl, _, rfl, p, CB, A.dx, _, rfl, hp, T.cB, T.n_stopped, (by show 13 < 1000; decide), ?_⟩
  rw [bP_stop]
  exact k _ ⟨A, ts, ls, B.fld (z := x.zero) (le := x.lets) (as := x.asleep) (bt := x.beat) (sv := .ref q) (la := x.la) (tv := tv) (dv := dv) (so := some (s_, ns)) ⟨q, rfl, hq⟩⟩
abbrev sMmay : Stmt := inClass (topS 69) 8
def scMmayN : List Str := ["self", "touches", "kind", "address", "why"]
theorem scMmay : FnScope scMmayN ["self", "touches"] (defScope sMmay) := ⟨rfl, rfl, rfl, by decide +kernel, rfl, by decide +kernel, by decide +kernel⟩
theorem ok_Mmay {f : Addr} {fd : FuncData} {fF_bar : Addr} {dF_bar : FuncData} {fM_stop : Addr} {dM_stop : FuncData} (F : Fun K "may_touch" "Board.may_touch" sMmay f fd) (T : Tx K mg CB CM)
    (F_bar : CalF P w K mg base 1 "bar_of" ["kind", "address"] (spBar) fF_bar dF_bar)
    (M_stop : CalM P w K mg base CB 1 "stop" ["self", "stop"] (spStop CB CM) fM_stop dM_stop) : FnOk P w K mg base CX0 2 f fd ["self", "touches"] (spMay CB CM) := by
  refine F.ok scMmay (fun vs H Q E h => by obtain ⟨_, _, _, _, _, _, rfl, _⟩ := h; rfl) (fun cdv A outer s H vs Q E hr h => ?_)
  have hu := hu_of hr
  obtain ⟨H0, p, l, x, us, tl, rfl, R, hl, ht, k⟩ := h
  obtain ⟨A, ts, ls, B⟩ := R
  obtain ⟨sv, tv, dv, hp, hz⟩ := B.hp
  refine ⟨_, (pss_cons (ps_for PassesOwn.never rfl (pi_list (pv 1)) (pg_tup rfl (pgs_cons (pg_name (i := 2) scMmay.nd rfl (.inl rfl)) (pgs_cons (pg_name (i := 3) scMmay.nd rfl (.inl rfl)) pgs_nil)))
      (pss_cons (ps_set (i := 4) scMmay.nd rfl (.inl rfl) (pe_call F_bar.G (hr.mono (by decide)) (by rfl) F_bar.g F_bar.kp F_bar.b .nil pass0 (pa_cons (pv 2) (pa_cons (pv 3) pa_nil))))
    (pss_one (ps_if (pt_cmp (pc_notN (pv 4))) (pss_cons (ps_expr (pe_meth (pv 0) M_stop.c M_stop.m M_stop.G (hr.mono (by decide)) M_stop.b .nil pass0 (pa_cons (pe_tup (pa_cons (pv 4) (pa_cons (pe_dget hu (pe_fld (pv 0) rfl) pe_str (fun _ _ => rfl)) (pa_cons (pv 3) pa_nil)))) pa_nil)))
    (pss_one (ps_ret pe_bl))) pss_nil))))
    (pss_cons (ps_fld (pv 0) (pv 1) rfl)
    (pss_one (ps_ret pe_bl)))), ?_⟩
  refine ⟨_, rfl, l, rfl, ⟨_, SqL.of hl⟩, ?_⟩
  refine for_list (K := K) (a := l) (xs := us) (fun i σ H' => H' = H ∧ firstBad (tl.drop i) = firstBad tl ∧ ∃ y2 y3 y4, σ = [some (.ref p), some (.ref l), y2, y3, y4]) ⟨rfl, rfl, none, none, none, rfl⟩ (fun i σ H' _ h => by obtain ⟨rfl, _⟩ := h; exact SqL.of hl) ?_ ?_
  · rintro i v σ H' hv ⟨rfl, hf, y2, y3, y4, rfl⟩
    obtain ⟨q, t, rfl, e1, e2⟩ := TouAt.get ht hv
    have hil : i < tl.length := (List.getElem?_eq_some_iff.mp e1).1
    have hd : tl.drop i = t :: tl.drop (i + 1) := by
      rw [List.drop_eq_getElem_cons hil]
      have : tl[i] = t := Option.some.inj ((List.getElem?_eq_getElem hil).symm.trans e1)
      rw [this]
    rw [hd, firstBad_cons] at hf
    refine ⟨q, _, rfl, SqT.of e2, rfl, _, _, rfl, _, _, rfl, rfl, ?_⟩
    refine ⟨_, rfl, _, rfl, t, rfl, ?_⟩
    cases e : barM t with
    | none =>
      rw [e] at hf
      refine ⟨_, rfl, _, rfl, ifN (fun h => absurd rfl (of_decide_eq_false h)) (fun _ => ?_)⟩
      exact ⟨rfl, hf, _, _, _, rfl⟩
    | some wy =>
      rw [e] at hf
      refine ⟨_, rfl, _, rfl, ifN (fun _ => ?_) (fun h => by cases (of_decide_eq_true h))⟩
      have em : mayM x tl = (false, { x with stop := some (wy, [x.pc, t.2]) }) := by
        unfold mayM
        rw [← hf]
      rw [em] at k
      exact ⟨_, rfl, p, A.dx, _, rfl, hp, bN_stop, _, rfl, _, rfl, p, CB, A.dx, _, _, rfl, hp, T.cB, T.n_registers, bF_reg, A.r, _, rfl, dg (k := Sum.inr "pc") B.hr rG_pc, _, rfl, (by show 3 ≤ sizeLine; decide), fun q2 nq => ⟨H0, p, q2, x, wy, [x.pc, t.2], rfl, ⟨A, ts, ls, B.more nq⟩, upd_same, fun H2 R2 => k _ R2⟩⟩
  · rintro σ H' ⟨rfl, hf, y2, y3, y4, rfl⟩
    rw [TouAt.len ht, List.drop_length] at hf
    have em : mayM x tl = (true, x) := by
      unfold mayM
      rw [← hf]
      rfl
    rw [em] at k
    refine ⟨_, rfl, _, rfl, p, CB, A.dx, _, rfl, hp, T.cB, T.n_touched, (by show 13 < 1000; decide), ?_⟩
    rw [bP_tou]
    exact k _ ⟨A, ts, ls, B.fld (z := x.zero) (le := x.lets) (as := x.asleep) (bt := x.beat) (sv := sv) (la := x.la) (tv := .ref l) (dv := dv) hz⟩
abbrev sMcoming : Stmt := inClass (topS 69) 4
def scMcomingN : List Str := ["self", "called"]
theorem scMcoming : FnScope scMcomingN ["self"] (defScope sMcoming) := ⟨rfl, rfl, rfl, by decide +kernel, rfl, by decide +kernel, by decide +kernel⟩
theorem ok_Mcoming {f : Addr} {fd : FuncData} {fM_called : Addr} {dM_called : FuncData} (F : Fun K "coming" "Board.coming" sMcoming f fd) (T : Tx K mg CB CM)
    (M_called : CalM P w K mg base CM 1 "called_flags" ["self"] (spMCall CM) fM_called dM_called) : FnOk P w K mg base CX0 2 f fd ["self"] (spComing CB CM) := by
  refine F.ok scMcoming (fun vs H Q E h => by obtain ⟨_, _, _, rfl, _⟩ := h; rfl) (fun cdv A outer s H vs Q E hr h => ?_)
  have hu := hu_of hr
  obtain ⟨H0, p, x, rfl, R, q⟩ := h
  obtain ⟨A, ts, ls, B⟩ := R
  obtain ⟨sv, tv, dv, hp, hz⟩ := B.hp
  refine ⟨_, (pss_cons (ps_if (pt_cmp (pc_notN (pe_fld (pv 0) rfl))) (pss_one (ps_ret pe_str)) pss_nil)
    (pss_cons (ps_set (i := 1) scMcoming.nd rfl (.inl rfl) (pe_cmpR op_ne (pe_meth0 (pe_fld (pv 0) rfl) M_called.c M_called.m M_called.G (hr.mono (by decide)) M_called.b .nil pass0) pe_int (nomark _)))
    (pss_cons (ps_if (PW.pt (pw_and (pt_val (pe_fld (pv 0) rfl)) (pw_and1 (pt_not (pt_val (pv 1)))))) (pss_one (ps_ret pe_str)) pss_nil)
    (pss_cons (ps_if (PW.pt (pw_and (pt_val (pe_fld (pv 0) rfl)) (pw_and1 (pt_val (pv 1))))) (pss_one (ps_ret pe_str)) pss_nil)
    (pss_one (ps_ret pe_str)))))), ?_⟩
  unfold comingM at q
  refine ⟨_, rfl, p, CB, A.dx, _, _, rfl, hp, T.cB, T.n_stopped, bF_stop, _, rfl, ?_⟩
  cases es : x.stop with
  | some r =>
    rw [es] at hz q
    obtain ⟨q1, rfl, hq1⟩ := hz
    refine ifN (fun _ => ?_) (fun h => by cases (of_decide_eq_true h))
    rw [if_pos (by intro z; cases z)] at q
    exact q
  | none =>
    rw [es] at hz q
    obtain rfl : sv = V.non := hz
    refine ifN (fun h => absurd rfl (of_decide_eq_false h)) (fun _ => ?_)
    rw [if_neg (fun z => z rfl)] at q
    refine ⟨_, rfl, p, CB, A.dx, _, _, rfl, hp, T.cB, T.n_memory, bF_mem, A.m, A.dm, _, rfl, B.hm, mN_called, A.m, A.dm, A.w, A.s, _, rfl, B.mem, rfl, ?_⟩
    have ec : decide (V.int (Builtin.bitAnd (rd x.mem 770) (rd x.mem 771)) = V.int 0) = decide (calledM x = 0) := by
      by_cases h : calledM x = 0
      · rw [decide_eq_true h]; exact decide_eq_true (congrArg V.int h)
      · rw [decide_eq_false h]; exact decide_eq_false fun z => h (V.int.inj z)
    rw [ec]
    refine ⟨_, rfl, p, CB, A.dx, _, _, rfl, hp, T.cB, T.n_asleep, bF_asleep, _, rfl, ifB (fun ha => ?_) (fun ha => ?_)⟩
    · refine ⟨_, rfl, _, rfl, ?_⟩
      by_cases hc : calledM x = 0
      · rw [if_pos ⟨ha, hc⟩] at q
        rw [decide_eq_true hc]
        exact q
      · rw [if_neg (fun z => hc z.2)] at q
        rw [decide_eq_false hc]
        refine ⟨_, rfl, p, CB, A.dx, _, _, rfl, hp, T.cB, T.n_lets, bF_lets, _, rfl, ifB (fun hl => ?_) (fun hl => ?_)⟩
        · rw [if_pos ⟨hl, hc⟩] at q
          exact ⟨_, rfl, _, rfl, q⟩
        · rw [if_neg (fun z => by rw [hl] at z; cases z.1)] at q
          exact q
    · rw [if_neg (fun z => by rw [ha] at z; cases z.1)] at q
      refine ⟨_, rfl, p, CB, A.dx, _, _, rfl, hp, T.cB, T.n_lets, bF_lets, _, rfl, ifB (fun hl => ?_) (fun hl => ?_)⟩
      · refine ⟨_, rfl, _, rfl, ?_⟩
        by_cases hc : calledM x = 0
        · rw [if_neg (fun z => z.2 hc)] at q
          rw [decide_eq_true hc]
          exact q
        · rw [if_pos ⟨hl, hc⟩] at q
          rw [decide_eq_false hc]
          exact q
      · rw [if_neg (fun z => by rw [hl] at z; cases z.1)] at q
        exact q
end
end Bh

/-! Interrupts, deeds, turns. -/
namespace Bh
open PySem PySem.Spec PyProof.Rows L2
def PcOk (x : Bd) : Prop := 0 ≤ x.pc → x.pc < 768 → 0 ≤ rd x.mem x.pc
def spBegin (CB CM : Addr) : Sp := fun vs H Q _ => ∃ (H0 : Hp) (p : Addr) (x : Bd), vs = [.ref p] ∧ BoardAt CB CM H0 H p x ∧ x.sent.length < 900000 ∧ ∀ H', BoardAt CB CM H0 H' p (intM x).2 → Q (.str (intM x).1) H'
def spDeed (CB CM : Addr) : Sp := fun vs H Q _ => ∃ (H0 : Hp) (p : Addr) (x : Bd), vs = [.ref p] ∧ BoardAt CB CM H0 H p x ∧ x.sent.length < 900000 ∧ PcOk x ∧ ∀ H', BoardAt CB CM H0 H' p (deedM x).2 → Q (.str (deedM x).1) H'
def spTurn (CB CM : Addr) : Sp := fun vs H Q _ => ∃ (H0 : Hp) (p : Addr) (x : Bd), vs = [.ref p] ∧ BoardAt CB CM H0 H p x ∧ x.sent.length < 900000 ∧ PcOk x ∧ ∀ H', BoardAt CB CM H0 H' p (turnM x).2 → Q (.str (turnM x).1) H'
structure DoF (P : Program) (w : World) (K : PySem.W.Frag) (mg : Str → Option Value) (base : Heap) (CB CM : Addr) (adr : Nat → Addr) (fdr : Nat → FuncData) : Prop where
  G : ∀ op, 1 ≤ op → op < 23 → FnOk P w K mg base CX0 4 (adr op) (fdr op) ["board", "x", "words"] (spDo CB CM op)
  kp : ∀ op, 1 ≤ op → op < 23 → PySem.W.keepIn K (.ref (adr op)) = true
  b : ∀ op, 1 ≤ op → op < 23 → Binds K (fdr op) ["board", "x", "words"] []
  D : ∃ a, mg "DOINGS" = some (.ref a) ∧ ∀ op, 1 ≤ op → op < 23 → KDct K w a (nmOf op) (.ref (adr op))
theorem iteb {c : Bool} {Q : V → Hp → Prop} {H : Hp} {σ : L2.St} (h : tC (.int (b2n c)) σ H Q) : if c = true then tC (.int 1) σ H Q else tC (.int 0) σ H Q := by
  cases c with
  | true => exact h
  | false => exact h
theorem putWM_zero (a v : Int) (x : Bd) : (putWM a v x).zero = x.zero := by
  unfold putWM sendM
  split <;> rfl
theorem putWM_sent (a v : Int) (x : Bd) : (putWM a v x).sent.length ≤ x.sent.length + 1 := by
  unfold putWM sendM
  split
  · show (x.sent ++ [(x.beat, v)]).length ≤ _
    rw [List.length_append]
    exact Nat.le_refl _
  · exact Nat.le_succ _
theorem kS_r (b : Bool) : decide (V.str (kS b) = V.str "r") = !b := by
  cases b with
  | true => exact ne_wr
  | false => exact decide_eq_true rfl
theorem nm_at {op : Nat} (h : op < 23) : atI (opN.map V.str) (op : Int) = some (.str (nmOf op)) := by
  have hj : op < opN.length := h
  refine atI_nat ?_
  rw [List.getElem?_map, List.getElem?_eq_getElem hj]
  unfold nmOf
  rw [List.getD_eq_getElem?_getD, List.getElem?_eq_getElem hj]
  rfl
theorem nm_mark : ∀ op : Nat, op < 23 → decide (V.str (nmOf op) = V.str "mark") = decide (op = 0) := by decide +kernel
theorem reads_len (ts : List (Bool × Int)) (m : List Int) : (readsM m ts).length = (ts.filter fun t => !t.1).length := List.length_map ..
theorem nR_ok (op : Nat) (n b sp : Int) (m : List Int) (h : op < 23) : (readsM m (touM op n b sp)).length = nR op := by
  match op, h with

  | 0, _ => rfl
  | 1, _ => rfl
  | 2, _ => rfl
  | 3, _ => rfl
  | 4, _ => rfl
  | 5, _ => rfl
  | 6, _ => rfl
  | 7, _ => rfl
  | 8, _ => rfl
  | 9, _ => rfl
  | 10, _ => rfl
  | 11, _ => rfl
  | 12, _ => rfl
  | 13, _ => rfl
  | 14, _ => rfl
  | 15, _ => rfl
  | 16, _ => rfl
  | 17, _ => rfl
  | 18, _ => rfl
  | 19, _ => rfl
  | 20, _ => rfl
  | 21, _ => rfl
  | 22, _ => rfl
  | n + 23, h => omega
section
variable {P : Program} {w : World} {K : PySem.W.Frag} {mg : Str → Option Value} {base : Heap} {CB CM : Addr}
abbrev sMbegin : Stmt := inClass (topS 69) 6
def scMbeginN : List Str := ["self", "pc", "sp", "flags"]
theorem scMbegin : FnScope scMbeginN ["self"] (defScope sMbegin) := ⟨rfl, rfl, rfl, by decide +kernel, rfl, by decide +kernel, by decide +kernel⟩
theorem ok_Mbegin {f : Addr} {fd : FuncData} {fM_called : Addr} {dM_called : FuncData} {fM_may : Addr} {dM_may : FuncData} {fM_pass : Addr} {dM_pass : FuncData} {fM_pbt : Addr} {dM_pbt : FuncData} (F : Fun K "begin_interrupt" "Board.begin_interrupt" sMbegin f fd) (T : Tx K mg CB CM)
    (M_called : CalM P w K mg base CM 1 "called_flags" ["self"] (spMCall CM) fM_called dM_called)
    (M_may : CalM P w K mg base CB 2 "may_touch" ["self", "touches"] (spMay CB CM) fM_may dM_may)
    (M_pass : CalM P w K mg base CB 3 "pass_beats" ["self", "many"] (spPass CB CM) fM_pass dM_pass)
    (M_pbt : CalM P w K mg base CB 3 "put_by_turn" ["self", "address", "word"] (spPw CB CM) fM_pbt dM_pbt) : FnOk P w K mg base CX0 4 f fd ["self"] (spBegin CB CM) := by
  refine F.ok scMbegin (fun vs H Q E h => by obtain ⟨_, _, _, rfl, _⟩ := h; rfl) (fun cdv A outer s H vs Q E hr h => ?_)
  have hu := hu_of hr
  obtain ⟨t_INTERRUPT_BEATS, g_INTERRUPT_BEATS⟩ := T.g_INTERRUPT_BEATS
  obtain ⟨t_LINE_PC, g_LINE_PC⟩ := T.g_LINE_PC
  obtain ⟨t_TIMER_FLAG, g_TIMER_FLAG⟩ := T.g_TIMER_FLAG
  obtain ⟨t_TIMER_PC, g_TIMER_PC⟩ := T.g_TIMER_PC
  obtain ⟨H0, p, x, rfl, R, hsl, k⟩ := h
  obtain ⟨A, ts, ls, B⟩ := R
  obtain ⟨sv, tv, dv, hp, hz⟩ := B.hp
  refine ⟨_, (pss_cons (ps_set (i := 1) scMbegin.nd rfl (.inl rfl) (pe_dget hu (pe_fld (pv 0) rfl) pe_str (fun _ _ => rfl)))
    (pss_cons (ps_set (i := 2) scMbegin.nd rfl (.inl rfl) (pe_dget hu (pe_fld (pv 0) rfl) pe_str (fun _ _ => rfl)))
    (pss_cons (ps_set (i := 3) scMbegin.nd rfl (.inl rfl) (pe_meth0 (pe_fld (pv 0) rfl) M_called.c M_called.m M_called.G (hr.mono (by decide)) M_called.b .nil pass0))
    (pss_cons (ps_if (pt_not (pt_val (pe_meth (pv 0) M_may.c M_may.m M_may.G (hr.mono (by decide)) M_may.b .nil pass0 (pa_cons (pe_lst (pa_cons (pe_tup (pa_cons pe_str (pa_cons (pv 2) pa_nil))) (pa_cons (pe_tup (pa_cons pe_str (pa_cons (pe_op op_sub (pv 2) pe_int) pa_nil))) pa_nil))) pa_nil)))) (pss_one (ps_ret pe_str)) pss_nil)
    (pss_cons (ps_expr (pe_meth (pv 0) M_pbt.c M_pbt.m M_pbt.G (hr.mono (by decide)) M_pbt.b .nil pass0 (pa_cons (pv 2) (pa_cons (pv 1) pa_nil))))
    (pss_cons (ps_expr (pe_meth (pv 0) M_pbt.c M_pbt.m M_pbt.G (hr.mono (by decide)) M_pbt.b .nil pass0 (pa_cons (pe_op op_sub (pv 2) pe_int) (pa_cons (pe_ifExp (pt_val (pe_fld (pv 0) rfl)) pe_int pe_int) pa_nil))))
    (pss_cons (ps_dput hu (pe_fld (pv 0) rfl) pe_str (pe_op op_sub (pv 2) pe_int) rfl)
    (pss_cons (ps_fld (pv 0) pe_bl rfl)
    (pss_cons (ps_dput hu (pe_fld (pv 0) rfl) pe_str (pe_ifExp (pt_truth (pe_op op_and (pv 3) (pgI g_TIMER_FLAG)) (fun _ => rfl)) (pgI g_TIMER_PC) (pgI g_LINE_PC)) rfl)
    (pss_cons (ps_expr (pe_meth (pv 0) M_pass.c M_pass.m M_pass.G (hr.mono (by decide)) M_pass.b .nil pass0 (pa_cons (pgI g_INTERRUPT_BEATS) pa_nil)))
    (pss_one (ps_ret pe_str)))))))))))), ?_⟩
  refine ⟨_, rfl, p, CB, A.dx, _, _, rfl, hp, T.cB, T.n_registers, bF_reg, A.r, _, rfl, dg (k := Sum.inr "pc") B.hr rG_pc, _, rfl, p, CB, A.dx, _, _, rfl, hp, T.cB, T.n_registers, bF_reg, A.r, _, rfl, dg (k := Sum.inr "sp") B.hr rG_sp, _, rfl, p, CB, A.dx, _, _, rfl, hp, T.cB, T.n_memory, bF_mem, A.m, A.dm, _, rfl, B.hm, mN_called, A.m, A.dm, A.w, A.s, _, rfl, B.mem, ?_⟩
  refine ⟨_, rfl, p, A.dx, _, rfl, hp, bN_may, _, rfl, (by show 2 ≤ sizeLine; decide), fun t1 n1 => ⟨_, rfl, _, _, rfl, rfl, (by show 2 ≤ sizeLine; decide), fun t2 n2 => ⟨(by show 2 ≤ sizeLine; decide), fun l nl => ⟨H0, p, l, x, [.ref t1, .ref t2], [(true, x.sp), (true, x.sp - 1)], rfl, ⟨A, ts, ls, ((B.more n1).more n2).more nl⟩, upd_same, .cons ⟨t1, rfl, same_upd' nl _ _ (same_upd' n2 _ _ upd_same)⟩ (.cons ⟨t2, rfl, same_upd' nl _ _ upd_same⟩ .nil), fun H2 R2 => ?_⟩⟩⟩⟩
  cases e : firstBad [(true, x.sp), (true, x.sp - 1)] with
  | some r =>
    have em : mayM x [(true, x.sp), (true, x.sp - 1)] = (false, { x with stop := some (r.1, [x.pc, r.2]) }) := by
      unfold mayM
      rw [e]
    have ei : intM x = (("stopped" : Str), { x with stop := some (r.1, [x.pc, r.2]) }) := by
      unfold intM
      rw [e]
      rfl
    rw [em] at R2 ⊢
    rw [ei] at k
    exact ⟨_, rfl, ifN (fun _ => k _ R2) (fun h => by cases h)⟩
  | none =>
    have em : mayM x [(true, x.sp), (true, x.sp - 1)] = (true, x) := by
      unfold mayM
      rw [e]
    have ei : intM x = (("interrupt" : Str), begunM x) := by
      unfold intM
      rw [e]
    rw [em] at R2 ⊢
    rw [ei] at k
    refine ⟨_, rfl, ifN (fun h => by cases h) (fun _ => ?_)⟩
    have tok := firstBad_ok e
    obtain ⟨t0, t1'⟩ := barM_ok (tok (true, x.sp) List.mem_cons_self)
    obtain ⟨u0, u1⟩ := barM_ok (tok (true, x.sp - 1) (List.mem_cons_of_mem _ List.mem_cons_self))
    obtain ⟨A2, ts2, ls2, B2⟩ := R2
    obtain ⟨sv2, tv2, dv2, hp2, hz2⟩ := B2.hp
    refine ⟨_, rfl, p, A2.dx, _, rfl, hp2, bN_pbt, _, rfl, _, rfl, H0, p, x, x.sp, x.pc, rfl, ⟨A2, ts2, ls2, B2⟩, by omega, t0, t1', fun H3 R3 => ?_⟩
    obtain ⟨A3, ts3, ls3, B3⟩ := R3
    obtain ⟨sv3, tv3, dv3, hp3, hz3⟩ := B3.hp
    have hs3 := putWM_sent x.sp x.pc x
    refine ⟨_, rfl, p, A3.dx, _, rfl, hp3, bN_pbt, _, rfl, _, _, rfl, rfl, _, rfl, p, CB, A3.dx, _, _, rfl, hp3, T.cB, T.n_zero, bF_zero, _, rfl, ?_⟩
    refine iteb ?_
    rw [putWM_zero]
    refine ⟨H0, p, _, x.sp - 1, b2n x.zero, rfl, ⟨A3, ts3, ls3, B3⟩, by omega, u0, u1, fun H4 R4 => ?_⟩
    generalize hy : putWM (x.sp - 1) (b2n x.zero) (putWM x.sp x.pc x) = y at *
    obtain ⟨A4, ts4, ls4, B4⟩ := R4
    obtain ⟨sv4, tv4, dv4, hp4, hz4⟩ := B4.hp
    refine ⟨_, rfl, _, _, rfl, rfl, _, rfl, p, CB, A4.dx, _, _, rfl, hp4, T.cB, T.n_registers, bF_reg, A4.r, _, rfl, dp (k := Sum.inr "sp") B4.hr rP_sp, ?_⟩
    have B5 := B4.regs (a := y.a) (b := y.b) (pc := y.pc) (sp := x.sp - 2)
    obtain ⟨sv5, tv5, dv5, hp5, hz5⟩ := B5.hp
    refine ⟨_, rfl, p, CB, A4.dx, _, rfl, hp5, T.cB, T.n_lets, (by show 13 < 1000; decide), ?_⟩
    rw [bP_lets]
    have B6 := B5.fld (z := y.zero) (le := false) (as := y.asleep) (bt := y.beat) (sv := sv5) (la := y.la) (tv := tv5) (dv := dv5) hz5
    obtain ⟨sv6, tv6, dv6, hp6, hz6⟩ := B6.hp
    have fin : ∀ pc' : Int, pc' = (if Builtin.bitAnd (calledM x) 1 ≠ 0 then 1 else 2) → ∀ H7, BoardAt CB CM H0 H7 p { y with sp := x.sp - 2, lets := false, pc := pc' } → ∀ H8, BoardAt CB CM H0 H8 p (passM 3 { y with sp := x.sp - 2, lets := false, pc := pc' }) → Q (.str "interrupt") H8 := fun pc' epc H7 _ H8 R8 => by
      refine k _ ?_
      unfold begunM
      rw [hy]
      subst epc
      exact R8
    have step : ∀ pc' : Int, pc' = (if Builtin.bitAnd (calledM x) 1 ≠ 0 then 1 else 2) → Bp CB CM H0 (upd _ A4.r (.dK (regD y.a y.b pc' (x.sp - 2)))) p A4 ts4 ls4 { y with sp := x.sp - 2, lets := false, pc := pc' } := fun pc' _ => B6.regs (a := y.a) (b := y.b) (pc := pc') (sp := x.sp - 2)
    refine ⟨_, rfl, _, _, rfl, rfl, _, rfl, ifB (fun hb => ?_) (fun hb => ?_)⟩
    · have e1 : (1 : Int) = (if Builtin.bitAnd (calledM x) 1 ≠ 0 then 1 else 2) := (if_pos (fun z => by
        have hb' : (Builtin.bitAnd (calledM x) 1 != 0) = true := hb
        rw [z] at hb'
        cases hb')).symm
      refine ⟨_, rfl, p, CB, A4.dx, _, _, rfl, hp6, T.cB, T.n_registers, bF_reg, A4.r, _, rfl, dp (k := Sum.inr "pc") B6.hr rP_pc, ?_⟩
      have B7 := step 1 e1
      obtain ⟨sv7, tv7, dv7, hp7, hz7⟩ := B7.hp
      exact ⟨_, rfl, p, A4.dx, _, rfl, hp7, bN_pass, H0, p, _, 3, rfl, ⟨A4, ts4, ls4, B7⟩, by decide, fun H8 R8 => fin 1 e1 _ ⟨A4, ts4, ls4, B7⟩ H8 R8⟩
    · have e1 : (2 : Int) = (if Builtin.bitAnd (calledM x) 1 ≠ 0 then 1 else 2) := (if_neg (fun z => z (by
        have hb' : (Builtin.bitAnd (calledM x) 1 != 0) = false := hb
        simpa using hb'))).symm
      refine ⟨_, rfl, p, CB, A4.dx, _, _, rfl, hp6, T.cB, T.n_registers, bF_reg, A4.r, _, rfl, dp (k := Sum.inr "pc") B6.hr rP_pc, ?_⟩
      have B7 := step 2 e1
      obtain ⟨sv7, tv7, dv7, hp7, hz7⟩ := B7.hp
      exact ⟨_, rfl, p, A4.dx, _, rfl, hp7, bN_pass, H0, p, _, 3, rfl, ⟨A4, ts4, ls4, B7⟩, by decide, fun H8 R8 => fin 2 e1 _ ⟨A4, ts4, ls4, B7⟩ H8 R8⟩
abbrev sMdo : Stmt := inClass (topS 69) 7
def scMdoN : List Str := ["self", "pc", "op", "x", "name", "touches", "words", "doing", "kind", "address"]
theorem scMdo : FnScope scMdoN ["self"] (defScope sMdo) := ⟨rfl, rfl, rfl, by decide +kernel, rfl, by decide +kernel, by decide +kernel⟩
theorem ok_Mdo {f : Addr} {fd : FuncData} {fF_tou : Addr} {dF_tou : FuncData} {fM_may : Addr} {dM_may : FuncData} {fM_pass : Addr} {dM_pass : FuncData} {fM_read : Addr} {dM_read : FuncData} {fM_stop : Addr} {dM_stop : FuncData} (F : Fun K "do_deed" "Board.do_deed" sMdo f fd) (T : Tx K mg CB CM)
    (F_tou : CalF P w K mg base 1 "touches_of" ["name", "x", "registers"] (spTou) fF_tou dF_tou)
    (M_may : CalM P w K mg base CB 2 "may_touch" ["self", "touches"] (spMay CB CM) fM_may dM_may)
    (M_pass : CalM P w K mg base CB 3 "pass_beats" ["self", "many"] (spPass CB CM) fM_pass dM_pass)
    (M_read : CalM P w K mg base CM 1 "read" ["self", "address", "pc"] (spMRead CM) fM_read dM_read)
    (M_stop : CalM P w K mg base CB 1 "stop" ["self", "stop"] (spStop CB CM) fM_stop dM_stop)
    {adr : Nat → Addr} {fdr : Nat → FuncData} (FD : DoF P w K mg base CB CM adr fdr) : FnOk P w K mg base CX0 5 f fd ["self"] (spDeed CB CM) := by
  refine F.ok scMdo (fun vs H Q E h => by obtain ⟨_, _, _, rfl, _⟩ := h; rfl) (fun cdv A outer s H vs Q E hr h => ?_)
  have hu := hu_of hr
  obtain ⟨t_RAM_END, g_RAM_END⟩ := T.g_RAM_END
  obtain ⟨t_X_SPAN, g_X_SPAN⟩ := T.g_X_SPAN
  have z_divmod := T.z_divmod
  have z_len := T.z_len
  obtain ⟨H0, p, x, rfl, R, hsl, hpc, k⟩ := h
  obtain ⟨A, ts, ls, B⟩ := R
  obtain ⟨sv, tv, dv, hp, hz⟩ := B.hp
  obtain ⟨aO, g_OP_NAMES, vO⟩ := T.g_OP_NAMES
  obtain ⟨aD, g_DOINGS, vD⟩ := FD.D
  obtain ⟨op1, eop, o1, o2⟩ : ∃ op1 : Nat, (1 ≤ opM x → opM x < 23 → op1 = opM x) ∧ 1 ≤ op1 ∧ op1 < 23 := by
    by_cases h : 1 ≤ opM x ∧ opM x < 23
    · exact ⟨opM x, fun _ _ => rfl, h.1, h.2⟩
    · exact ⟨1, fun a b => absurd ⟨a, b⟩ h, by decide, by decide⟩
  refine ⟨_, (pss_cons (ps_set (i := 1) scMdo.nd rfl (.inr rfl) (pe_dget hu (pe_fld (pv 0) rfl) pe_str (fun _ _ => rfl)))
    (pss_cons (ps_if (pt_not (pt_chain op_le op_lt pe_int (pv 1) (pgI g_RAM_END))) (pss_one (ps_ret (pe_meth (pv 0) M_stop.c M_stop.m M_stop.G (hr.mono (by decide)) M_stop.b .nil pass0 (pa_cons (pe_tup (pa_cons pe_str (pa_cons (pv 1) (pa_cons (pv 1) pa_nil)))) pa_nil)))) pss_nil)
    (pss_cons (ps_asg (pe_callB call_divmod (by rfl) z_divmod (by decide +kernel) (pa_cons (pe_meth (pe_fld (pv 0) rfl) M_read.c M_read.m M_read.G (hr.mono (by decide)) M_read.b .nil pass0 (pa_cons (pv 1) (pa_cons (pv 1) pa_nil))) (pa_cons (pgI g_X_SPAN) pa_nil))) (pg_tup rfl (pgs_cons (pg_name (i := 2) scMdo.nd rfl (.inl rfl)) (pgs_cons (pg_name (i := 3) scMdo.nd rfl (.inl rfl)) pgs_nil))))
    (pss_cons (ps_if (pt_cmpR op_ge (pv 2) (pe_callB call_len_seq (by rfl) z_len PySem.boot_len (pa_cons (pgR g_OP_NAMES) pa_nil)) (nomark _)) (pss_one (ps_ret (pe_meth (pv 0) M_stop.c M_stop.m M_stop.G (hr.mono (by decide)) M_stop.b .nil pass0 (pa_cons (pe_tup (pa_cons pe_str (pa_cons (pv 1) pa_nil))) pa_nil)))) pss_nil)
    (pss_cons (ps_set (i := 4) scMdo.nd rfl (.inl rfl) (pe_ix ix_tup (pgR g_OP_NAMES) (pv 2) (fun _ _ => rfl)))
    (pss_cons (ps_if (pt_cmpR op_eq (pv 4) pe_str (nomark _)) (pss_one (ps_ret (pe_meth (pv 0) M_stop.c M_stop.m M_stop.G (hr.mono (by decide)) M_stop.b .nil pass0 (pa_cons (pe_tup (pa_cons pe_str (pa_cons (pv 1) pa_nil))) pa_nil)))) pss_nil)
    (pss_cons (ps_set (i := 5) scMdo.nd rfl (.inl rfl) (pe_call F_tou.G (hr.mono (by decide)) (by rfl) F_tou.g F_tou.kp F_tou.b .nil pass0 (pa_cons (pv 4) (pa_cons (pv 3) (pa_cons (pe_fld (pv 0) rfl) pa_nil)))))
    (pss_cons (ps_if (pt_not (pt_val (pe_meth (pv 0) M_may.c M_may.m M_may.G (hr.mono (by decide)) M_may.b .nil pass0 (pa_cons (pv 5) pa_nil)))) (pss_one (ps_ret pe_str)) pss_nil)
    (pss_cons (ps_setLc (i := 6) (own := [("kind", 8), ("address", 9)]) (g := gTup K 2 (gCons (gName 8) (gCons (gName 9) gNil))) (by rfl) scMdo.nd rfl rfl rfl (pi_list (pv 5)) (blkOk_by (own := [("kind", 8), ("address", 9)]) (N := scMdoN) (sc := defScope sMdo) (by decide +kernel)) (fun _ _ _ _ _ => (gtK (K := K) (n := 2) (by rfl) (by rfl) (pgs_cons (pg_name (i := 8) scMdo.nd rfl (.inl rfl)) (pgs_cons (pg_name (i := 9) scMdo.nd rfl (.inl rfl)) pgs_nil)) (by rfl) (by rfl))) (fun _ _ _ _ _ => (pts_one (pt_cmpR op_eq (pv 8) pe_str (nomark _)))) (fun _ _ _ _ _ => (pe_meth (pe_fldK (K := K) (by rfl) (pv 0) (by rfl)) M_read.c M_read.m M_read.G (hr.mono (by decide)) M_read.b .nil pass0 (pa_cons (pv 9) (pa_cons (pv 1) pa_nil)))))
    (pss_cons (ps_if (pt_truth (pv 6) (fun _ => rfl)) (pss_cons (ps_asg (pe_op op_xor (pe_ix ix_list (pv 6) pe_int (fun _ _ => rfl)) (pe_fld (pv 0) rfl)) (pg_sub (pv 6) pe_int set_list))
    (pss_one (ps_fld (pv 0) pe_int rfl))) pss_nil)
    (pss_cons (ps_fld (pv 0) (pv 4) rfl)
    (pss_cons (ps_dput hu (pe_fld (pv 0) rfl) pe_str (pe_op op_add (pv 1) pe_int) rfl)
    (pss_cons (ps_set (i := 7) scMdo.nd rfl (.inl rfl) (pe_ix ix_kdict (pgR g_DOINGS) (pv 4) (fun _ _ => rfl)))
    (pss_cons (ps_expr (pe_callL (i := 7) (FD.G op1 o1 o2) (hr.mono (by decide)) rfl (.inl rfl) (FD.kp op1 o1 o2) (FD.b op1 o1 o2) .nil pass0 (pa_cons (pv 0) (pa_cons (pv 3) (pa_cons (pv 6) pa_nil)))))
    (pss_cons (ps_expr (pe_meth (pv 0) M_pass.c M_pass.m M_pass.G (hr.mono (by decide)) M_pass.b .nil pass0 (pa_cons (pe_op op_add pe_int (pe_callB call_len_seq (by rfl) z_len PySem.boot_len (pa_cons (pv 5) pa_nil))) pa_nil)))
    (pss_one (ps_ret pe_str))))))))))))))))), ?_⟩
  have far : ¬ (0 ≤ x.pc ∧ x.pc < 768) → deedM x = (("stopped" : Str), { x with stop := some ("far", [x.pc, x.pc]) }) := fun h => by
    unfold deedM stopAt
    rw [if_pos h]
  refine ⟨_, rfl, p, CB, A.dx, _, _, rfl, hp, T.cB, T.n_registers, bF_reg, A.r, _, rfl, dg (k := Sum.inr "pc") B.hr rG_pc, ?_⟩
  refine ⟨_, rfl, _, _, rfl, rfl, _, rfl, ifB (fun h0 => ?_) (fun h0 => ⟨_, rfl, ?_⟩)⟩
  rotate_left
  · rw [far (fun z => of_decide_eq_false h0 z.1)] at k
    refine ⟨_, rfl, p, A.dx, _, rfl, hp, bN_stop, _, rfl, _, rfl, (by show 3 ≤ sizeLine; decide), fun q nq => ⟨H0, p, q, x, "far", [x.pc, x.pc], rfl, ⟨A, ts, ls, B.more nq⟩, upd_same, fun H2 R2 => ?_⟩⟩
    exact k _ R2
  refine ⟨_, _, rfl, rfl, _, rfl, ifN (fun h1 => ?_) (fun h1 => ?_)⟩
  · rw [far (fun z => of_decide_eq_false h1 z.2)] at k
    refine ⟨_, rfl, p, A.dx, _, rfl, hp, bN_stop, _, rfl, _, rfl, (by show 3 ≤ sizeLine; decide), fun q nq => ⟨H0, p, q, x, "far", [x.pc, x.pc], rfl, ⟨A, ts, ls, B.more nq⟩, upd_same, fun H2 R2 => ?_⟩⟩
    exact k _ R2
  have h0 := of_decide_eq_true h0
  have h1 := of_decide_eq_true h1
  have hw := hpc h0 h1
  refine ⟨_, rfl, p, CB, A.dx, _, _, rfl, hp, T.cB, T.n_memory, bF_mem, A.m, A.dm, _, rfl, B.hm, mN_read, _, rfl, _, rfl, A.m, A.dm, A.w, A.s, x.mem, x.pc, x.pc, rfl, B.mem, h0, by omega, ?_⟩
  refine ⟨_, _, rfl, ⟨by decide, by decide⟩, fun t nt => ?_⟩
  refine ⟨t, _, rfl, SqT.of upd_same, rfl, _, _, rfl, _, _, rfl, rfl, ?_⟩
  have B1 := B.more (o := .tup [.int (rd x.mem x.pc / 1024), .int (rd x.mem x.pc % 1024)]) nt
  clear B hp hz sv tv dv
  generalize upd H t (.tup [.int (rd x.mem x.pc / 1024), .int (rd x.mem x.pc % 1024)]) = H1 at *
  have B := B1
  obtain ⟨sv, tv, dv, hp, hz⟩ := B.hp
  have eop0 : rd x.mem x.pc / 1024 = ((opM x : Nat) : Int) := by
    unfold opM
    have := Int.ediv_nonneg hw (show (0 : Int) ≤ 1024 by decide)
    omega
  rw [eop0]
  refine ⟨_, rfl, aO, _, rfl, .inr (vO _), _, _, rfl, rfl, _, rfl, ifB (fun h => ?_) (fun h => ?_)⟩
  · have h23 : 23 ≤ opM x := by
      have := of_decide_eq_true h
      have e : (opN.map V.str).length = 23 := rfl
      rw [e] at this
      omega
    have ed : deedM x = (("stopped" : Str), { x with stop := some ("none", [x.pc]) }) := by
      unfold deedM stopAt
      rw [if_neg (fun z => z ⟨h0, h1⟩), if_pos h23]
    rw [ed] at k
    refine ⟨_, rfl, p, A.dx, _, rfl, hp, bN_stop, _, rfl, (by show 2 ≤ sizeLine; decide), fun q nq => ⟨H0, p, q, x, "none", [x.pc], rfl, ⟨A, ts, ls, B.more nq⟩, upd_same, fun H2 R2 => ?_⟩⟩
    exact k _ R2
  have h23 : opM x < 23 := by
    have := of_decide_eq_false h
    have e : (opN.map V.str).length = 23 := rfl
    rw [e] at this
    omega
  refine ⟨_, rfl, aO, _, _, _, rfl, rfl, vO _, nm_at h23, ?_⟩
  refine ⟨_, rfl, rfl, _, rfl, ?_⟩
  rw [nm_mark _ h23]
  refine ifB (fun h => ?_) (fun h => ?_)
  · have hm0 := of_decide_eq_true h
    have ed : deedM x = (("stopped" : Str), { x with stop := some ("mark", [x.pc]) }) := by
      unfold deedM stopAt
      rw [if_neg (fun z => z ⟨h0, h1⟩), if_neg (by omega), if_pos hm0]
    rw [ed] at k
    refine ⟨_, rfl, p, A.dx, _, rfl, hp, bN_stop, _, rfl, (by show 2 ≤ sizeLine; decide), fun q nq => ⟨H0, p, q, x, "mark", [x.pc], rfl, ⟨A, ts, ls, B.more nq⟩, upd_same, fun H2 R2 => ?_⟩⟩
    exact k _ R2
  have hm0 := of_decide_eq_false h
  have eop1 := eop (by omega) h23
  subst eop1
  refine ⟨_, rfl, _, rfl, _, rfl, p, CB, A.dx, _, _, rfl, hp, T.cB, T.n_registers, bF_reg, nmOf (opM x), xM x, A.r, x.a, x.b, x.pc, x.sp, rfl, B.hr, fun H2 l us s2 nl hl tu => ?_⟩
  rw [touN_op _ h23] at tu
  have tu : TouAt H2 us (toM x) := tu
  have B2 := B.same s2
  obtain ⟨sv2, tv2, dv2, hp2, hz2⟩ := B2.hp
  have lp : l ≠ p := ne_of hl hp2 (by intro q; cases q)
  have lr : l ≠ A.r := ne_of hl B2.hr (by intro q; cases q)
  have lw : l ≠ A.w := fun z => by rw [z, B.hw] at nl; cases nl
  have lt : l ≠ A.t := fun z => by rw [z, B.ht] at nl; cases nl
  have lm_ : l ≠ A.m := fun z => by rw [z, B.hm] at nl; cases nl
  have ls_ : l ≠ A.s := fun z => by rw [z, B.hs] at nl; cases nl
  have ll_ : l ≠ A.l := fun z => by rw [z, B.hl] at nl; cases nl
  have B2' := B2.rebase
  have bs := B2.base_same
  have bl : baseOf H2 p A l = some (.lst us) := (B2.base_at lp lr lw lt lm_ ls_ ll_).trans hl
  have bt : TouAt (baseOf H2 p A) us (toM x) := tu.mono B2.base_tup
  generalize baseOf H2 p A = Hb at *
  refine ⟨_, rfl, p, A.dx, _, rfl, hp2, bN_may, _, rfl, Hb, p, l, x, us, toM x, rfl, ⟨A, ts, ls, B2'⟩, hl, tu, fun H3 R3 => ?_⟩
  cases e : firstBad (toM x) with
  | some r =>
    have em : mayM x (toM x) = (false, { x with stop := some (r.1, [x.pc, r.2]) }) := by
      unfold mayM
      rw [e]
    have ed : deedM x = (("stopped" : Str), { x with stop := some (r.1, [x.pc, r.2]) }) := by
      unfold deedM
      rw [if_neg (fun z => z ⟨h0, h1⟩), if_neg (by omega), if_neg hm0, e]
      rfl
    rw [em] at R3 ⊢
    rw [ed] at k
    exact ⟨_, rfl, ifN (fun _ => k _ (R3.unbase bs)) (fun h => by cases h)⟩
  | none =>
    have em : mayM x (toM x) = (true, x) := by
      unfold mayM
      rw [e]
    have ed : deedM x = (("deed" : Str), doneM x) := by
      unfold deedM
      rw [if_neg (fun z => z ⟨h0, h1⟩), if_neg (by omega), if_neg hm0, e]
    rw [em] at R3 ⊢
    rw [ed] at k
    refine ⟨_, rfl, ifN (fun h => by cases h) (fun _ => ?_)⟩
    have tok := firstBad_ok e
    obtain ⟨A3, ts3, ls3, B3⟩ := R3
    obtain ⟨sv3, tv3, dv3, hp3, hz3⟩ := B3.hp
    have l3 := B3.sm _ _ bl
    have t3 := bt.mono fun t xs e => B3.sm _ _ e
    refine ⟨_, rfl, l, rfl, ⟨_, SqL.of l3⟩, fun D nD => ?_⟩
    refine lc_list (K := K) (a := l) (xs := us) (fun i H' => Same H3 H' ∧ H' D = some (.lst ((readsM x.mem ((toM x).take i)).map V.int))) ⟨same_upd' nD, upd_same⟩ (fun i H' _ h => SqL.of (h.1 _ _ l3)) ?_ ?_
    · rintro j v H' hv ⟨sm, hD⟩
      obtain ⟨q, t, rfl, e1, e2⟩ := TouAt.get t3 hv
      have hq := sm _ _ e2
      have htk : (toM x).take (j + 1) = (toM x).take j ++ [t] := by rw [List.take_succ, e1]; rfl
      obtain ⟨i0, i1⟩ := barM_ok (tok t (List.mem_of_getElem? e1))
      refine ⟨q, _, rfl, SqT.of hq, rfl, _, _, rfl, _, _, rfl, rfl, rfl, ?_⟩
      refine ⟨_, rfl, rfl, _, rfl, ?_⟩
      rw [kS_r]
      obtain ⟨tb, ta⟩ := t
      cases tb with
      | true =>
        refine ifB (fun h => by cases h) (fun _ => ?_)
        refine ⟨sm, ?_⟩
        rw [htk]
        unfold readsM at hD ⊢
        rw [List.filter_append, List.map_append, List.map_append]
        rw [show (List.filter (fun t : Bool × Int => !t.1) [(true, ta)]) = [] from rfl, List.map_nil, List.map_nil, List.append_nil]
        exact hD
      | false =>
        refine ifB (fun _ => ?_) (fun h => by cases h)
        have Bj := B3.same sm
        obtain ⟨svj, tvj, dvj, hpj, hzj⟩ := Bj.hp
        refine ⟨_, rfl, p, CB, A3.dx, _, _, rfl, hpj, T.cB, T.n_memory, bF_mem, A3.m, A3.dm, _, rfl, Bj.hm, mN_read, _, rfl, _, rfl, A3.m, A3.dm, A3.w, A3.s, x.mem, _, _, rfl, Bj.mem, i0, i1, ?_⟩
        refine ⟨_, hD, ?_, same_of sm nD, ?_⟩
        · rw [List.length_map]
          refine small1000 ?_
          unfold readsM
          rw [List.length_map]
          refine Nat.le_trans (List.length_filter_le _ _) ?_
          rw [List.length_take]
          have := (List.getElem?_eq_some_iff.mp e1).1
          have hlen : (toM x).length ≤ 2 := touM_len _ _ _ _
          omega
        · rw [upd_same, htk]
          unfold readsM
          rw [List.filter_append, List.map_append, List.map_append]
          rfl
    · rintro H4 ⟨sm4, hD⟩
      rw [TouAt.len t3, List.take_length] at hD
      have B4 := B3.same sm4
      obtain ⟨sv4, tv4, dv4, hp4, hz4⟩ := B4.hp
      refine ⟨_, rfl, _, .inl ⟨_, SqL.of hD, rfl⟩, ifJ ?_ fun hb hB => ?_⟩
      rotate_left
      · obtain ⟨w0, wr, ew⟩ : ∃ w0 wr, readsM x.mem (toM x) = w0 :: wr := by
          cases ew : readsM x.mem (toM x) with
          | nil => rw [ew] at hb; cases hb
          | cons w0 wr => exact ⟨w0, wr, rfl⟩
        rw [ew] at hD
        have e0 : upd H4 D (.lst (((w0 :: wr).map V.int).set ((0 : Int).toNat) (.int (Builtin.bitXor w0 0)))) = H4 := by
          rw [bitXor_zero]
          exact upd_id hD
        refine ⟨_, rfl, D, _, 0, _, rfl, rfl, SqL.of hD, atI_nat (j := 0) rfl, _, rfl, p, CB, A3.dx, _, _, rfl, hp4, T.cB, T.n_bend, bF_bend, _, _, rfl, rfl, _, rfl, D, _, _, _, rfl, rfl, hD, ixN_in (by decide) (by show (0 : Int) < (((w0 :: wr).map V.int).length : Int); rw [List.length_map, List.length_cons]; omega), ?_⟩
        rw [e0]
        refine ⟨_, rfl, p, CB, A3.dx, _, rfl, hp4, T.cB, T.n_bend, (by show 13 < 1000; decide), ?_⟩
        rw [bP_bend, upd_id hp4]
        exact hB
      refine ⟨_, rfl, _, rfl, p, CB, A3.dx, _, rfl, hp4, T.cB, T.n_did, (by show 13 < 1000; decide), ?_⟩
      rw [bP_did]
      have B5 := B4.fld (z := x.zero) (le := x.lets) (as := x.asleep) (bt := x.beat) (sv := sv4) (la := x.la) (tv := tv4) (dv := .str (nmOf (opM x))) hz4
      have hD5 := hD
      rw [← upd_ne (H := H4) (o := .ins CB A3.dx (bdF A3.r A3.t A3.m A3.l x.zero x.lets x.asleep x.beat sv4 x.la tv4 (.str (nmOf (opM x))))) (ne_of hD hp4 (by intro q; cases q))] at hD5
      generalize upd H4 p (.ins CB A3.dx (bdF A3.r A3.t A3.m A3.l x.zero x.lets x.asleep x.beat sv4 x.la tv4 (.str (nmOf (opM x))))) = H5 at *
      obtain ⟨sv5, tv5, dv5, hp5, hz5⟩ := B5.hp
      refine ⟨_, rfl, _, _, rfl, rfl, _, rfl, p, CB, A3.dx, _, _, rfl, hp5, T.cB, T.n_registers, bF_reg, A3.r, _, rfl, dp (k := Sum.inr "pc") B5.hr rP_pc, ?_⟩
      have B6 := B5.regs (a := x.a) (b := x.b) (pc := x.pc + 1) (sp := x.sp)
      have hD6 := hD5
      rw [← upd_ne (H := H5) (o := .dK (regD x.a x.b (x.pc + 1) x.sp)) (ne_of hD5 B5.hr (by intro q; cases q))] at hD6
      generalize upd H5 A3.r (.dK (regD x.a x.b (x.pc + 1) x.sp)) = H6 at *
      obtain ⟨sv6, tv6, dv6, hp6, hz6⟩ := B6.hp
      refine ⟨_, rfl, aD, nmOf (opM x), _, rfl, rfl, vD (opM x) o1 o2, ?_⟩
      refine ⟨rfl, _, rfl, _, rfl, _, rfl, Hb, p, D, { x with pc := x.pc + 1 }, xM x, readsM x.mem (toM x), rfl, ⟨A3, ts3, ls3, B6⟩, hD6, nR_ok _ _ _ _ _ h23, (fun t ht => barM_ok (tok t ht)), (by show x.sent.length < 1000000; omega), fun H7 R7 => ?_⟩
      obtain ⟨A7, ts7, ls7, B7⟩ := R7
      obtain ⟨sv7, tv7, dv7, hp7, hz7⟩ := B7.hp
      have l7 := B7.sm _ _ bl
      refine ⟨_, rfl, p, A7.dx, _, rfl, hp7, bN_pass, _, rfl, l, _, rfl, .inl (SqL.of l7), _, _, rfl, rfl, Hb, p, _, 1 + (toM x).length, ?_, ⟨A7, ts7, ls7, B7⟩, ?_, fun H8 R8 => ?_⟩
      · rw [TouAt.len bt]
        simp
      · have hlen : (toM x).length ≤ 2 := touM_len _ _ _ _
        omega
      · exact k _ (R8.unbase bs)
abbrev sMturn : Stmt := inClass (topS 69) 5
def scMturnN : List Str := ["self", "coming"]
theorem scMturn : FnScope scMturnN ["self"] (defScope sMturn) := ⟨rfl, rfl, rfl, by decide +kernel, rfl, by decide +kernel, by decide +kernel⟩
theorem ok_Mturn {f : Addr} {fd : FuncData} {fM_begin : Addr} {dM_begin : FuncData} {fM_coming : Addr} {dM_coming : FuncData} {fM_do : Addr} {dM_do : FuncData} {fM_pass : Addr} {dM_pass : FuncData} (F : Fun K "turn" "Board.turn" sMturn f fd) (T : Tx K mg CB CM)
    (M_begin : CalM P w K mg base CB 4 "begin_interrupt" ["self"] (spBegin CB CM) fM_begin dM_begin)
    (M_coming : CalM P w K mg base CB 2 "coming" ["self"] (spComing CB CM) fM_coming dM_coming)
    (M_do : CalM P w K mg base CB 5 "do_deed" ["self"] (spDeed CB CM) fM_do dM_do)
    (M_pass : CalM P w K mg base CB 3 "pass_beats" ["self", "many"] (spPass CB CM) fM_pass dM_pass) : FnOk P w K mg base CX0 6 f fd ["self"] (spTurn CB CM) := by
  refine F.ok scMturn (fun vs H Q E h => by obtain ⟨_, _, _, rfl, _⟩ := h; rfl) (fun cdv A outer s H vs Q E hr h => ?_)
  have hu := hu_of hr
  obtain ⟨H0, p, x, rfl, R, hsl, hpc, k⟩ := h
  obtain ⟨A, ts, ls, B⟩ := R
  obtain ⟨sv, tv, dv, hp, hz⟩ := B.hp
  refine ⟨_, (pss_cons (ps_fld (pv 0) (pe_lst pa_nil) rfl)
    (pss_cons (ps_fld (pv 0) pe_non rfl)
    (pss_cons (ps_set (i := 1) scMturn.nd rfl (.inl rfl) (pe_meth0 (pv 0) M_coming.c M_coming.m M_coming.G (hr.mono (by decide)) M_coming.b .nil pass0))
    (pss_cons (ps_if (pt_cmpR op_eq (pv 1) pe_str (nomark _)) (pss_one (ps_ret (pv 1))) pss_nil)
    (pss_cons (ps_if (pt_cmpR op_eq (pv 1) pe_str (nomark _)) (pss_cons (ps_expr (pe_meth (pv 0) M_pass.c M_pass.m M_pass.G (hr.mono (by decide)) M_pass.b .nil pass0 (pa_cons pe_int pa_nil)))
    (pss_one (ps_ret (pv 1)))) pss_nil)
    (pss_cons (ps_fld (pv 0) pe_bl rfl)
    (pss_cons (ps_if (pt_cmpR op_eq (pv 1) pe_str (nomark _)) (pss_one (ps_ret (pe_meth0 (pv 0) M_begin.c M_begin.m M_begin.G (hr.mono (by decide)) M_begin.b .nil pass0))) pss_nil)
    (pss_one (ps_ret (pe_meth0 (pv 0) M_do.c M_do.m M_do.G (hr.mono (by decide)) M_do.b .nil pass0)))))))))), ?_⟩
  refine ⟨Nat.zero_le _, fun l nl => ?_⟩
  have B1 := B.more (o := .lst []) nl
  obtain ⟨sv1, tv1, dv1, hp1, hz1⟩ := B1.hp
  refine ⟨_, rfl, p, CB, A.dx, _, rfl, hp1, T.cB, T.n_touched, (by show 13 < 1000; decide), ?_⟩
  rw [bP_tou]
  have B2 := B1.fld (z := x.zero) (le := x.lets) (as := x.asleep) (bt := x.beat) (sv := sv1) (la := x.la) (tv := .ref l) (dv := dv1) hz1
  obtain ⟨sv2, tv2, dv2, hp2, hz2⟩ := B2.hp
  refine ⟨_, rfl, p, CB, A.dx, _, rfl, hp2, T.cB, T.n_did, (by show 13 < 1000; decide), ?_⟩
  rw [bP_did]
  have B3 := B2.fld (z := x.zero) (le := x.lets) (as := x.asleep) (bt := x.beat) (sv := sv2) (la := x.la) (tv := tv2) (dv := .non) hz2
  obtain ⟨sv3, tv3, dv3, hp3, hz3⟩ := B3.hp
  generalize upd (upd (upd H l (.lst [])) p _) p _ = H3 at *
  refine ⟨_, rfl, p, A.dx, _, rfl, hp3, bN_coming, H0, p, x, rfl, ⟨A, ts, ls, B3⟩, ?_⟩
  unfold comingM turnM at *
  by_cases c1 : x.stop ≠ none
  · rw [if_pos c1] at k ⊢
    exact ⟨_, rfl, rfl, _, rfl, ifB (fun _ => ⟨_, rfl, k _ ⟨A, ts, ls, B3⟩⟩) (fun h => absurd rfl (of_decide_eq_false h))⟩
  · rw [if_neg c1] at k ⊢
    by_cases c2 : x.asleep = true ∧ calledM x = 0
    · rw [if_pos c2] at k ⊢
      refine ⟨_, rfl, rfl, _, rfl, ifB (fun h => absurd (V.str.inj (of_decide_eq_true h)) (by decide +kernel)) (fun _ => ?_)⟩
      refine ⟨_, rfl, rfl, _, rfl, ifB (fun _ => ?_) (fun h => absurd rfl (of_decide_eq_false h))⟩
      exact ⟨_, rfl, p, A.dx, _, rfl, hp3, bN_pass, H0, p, x, 1, rfl, ⟨A, ts, ls, B3⟩, by decide, fun H4 R4 => ⟨_, rfl, k _ R4⟩⟩
    · rw [if_neg c2] at k ⊢
      have B4 := B3.fld (z := x.zero) (le := x.lets) (as := false) (bt := x.beat) (sv := sv3) (la := x.la) (tv := tv3) (dv := dv3) hz3
      obtain ⟨sv4, tv4, dv4, hp4, hz4⟩ := B4.hp
      by_cases c3 : x.lets = true ∧ calledM x ≠ 0
      · rw [if_pos c3] at k ⊢
        refine ⟨_, rfl, rfl, _, rfl, ifB (fun h => absurd (V.str.inj (of_decide_eq_true h)) (by decide +kernel)) (fun _ => ?_)⟩
        refine ⟨_, rfl, rfl, _, rfl, ifB (fun h => absurd (V.str.inj (of_decide_eq_true h)) (by decide +kernel)) (fun _ => ?_)⟩
        refine ⟨_, rfl, p, CB, A.dx, _, rfl, hp3, T.cB, T.n_asleep, (by show 13 < 1000; decide), ?_⟩
        rw [bP_asleep]
        refine ⟨_, rfl, rfl, _, rfl, ifB (fun _ => ?_) (fun h => absurd rfl (of_decide_eq_false h))⟩
        exact ⟨_, rfl, p, A.dx, _, rfl, hp4, bN_begin, H0, p, _, rfl, ⟨A, ts, ls, B4⟩, hsl, k⟩
      · rw [if_neg c3] at k ⊢
        refine ⟨_, rfl, rfl, _, rfl, ifB (fun h => absurd (V.str.inj (of_decide_eq_true h)) (by decide +kernel)) (fun _ => ?_)⟩
        refine ⟨_, rfl, rfl, _, rfl, ifB (fun h => absurd (V.str.inj (of_decide_eq_true h)) (by decide +kernel)) (fun _ => ?_)⟩
        refine ⟨_, rfl, p, CB, A.dx, _, rfl, hp3, T.cB, T.n_asleep, (by show 13 < 1000; decide), ?_⟩
        rw [bP_asleep]
        refine ⟨_, rfl, rfl, _, rfl, ifB (fun h => absurd (V.str.inj (of_decide_eq_true h)) (by decide +kernel)) (fun _ => ?_)⟩
        exact ⟨_, rfl, p, A.dx, _, rfl, hp4, bN_do, H0, p, _, rfl, ⟨A, ts, ls, B4⟩, hsl, hpc, k⟩
end
end Bh

/-! A board is made. -/
namespace Bh
open PySem PySem.Spec PyProof.Rows L2
def newBd (ns : List Int) (ls : List (Int × Int)) : Bd := { a := 0, b := 0, pc := 0, sp := 767, zero := false, lets := false, asleep := false, beat := 0, sent := [], mem := memOf ns, line := ls, la := 0, stop := none }
def spBI (CB CM : Addr) : Sp := fun vs H Q _ => ∃ (H0 : Hp) (p dx im ln : Addr) (us : List V) (ns : List Int) (ls : List (Int × Int)), vs = [.ref p, .ref im, .ref ln] ∧ Same H0 H ∧ H0 p = none ∧ H p = some (.ins CB dx []) ∧ H im = some (.lst (ns.map V.int)) ∧ ns.length ≤ 512 ∧ WordsOk ns ∧
  H ln = some (.lst us) ∧ TupsAt H us ls ∧ riseM 0 ls ∧ ∀ H', BoardAt CB CM H0 H' p (newBd ns ls) → Q .non H'
def spFirst : Sp := fun vs H Q _ => vs = [] ∧ ∀ (H' : Hp) (r : Addr), Same H H' → H r = none → H' r = some (.dK (regD 0 0 0 767)) → Q (.ref r) H'
theorem pull {Hb H1 : Hp} {p : Addr} {o : HO} (s : Same (upd Hb p o) H1) (f : Hb p = none) : ∃ Hb1, H1 = upd Hb1 p o ∧ Same Hb Hb1 ∧ Hb1 p = none := by
  refine ⟨fun b => if b = p then none else H1 b, ?_, ?_, if_pos rfl⟩
  · funext b
    by_cases h : b = p
    · subst h
      rw [upd_same]
      exact s _ _ upd_same
    · rw [upd_ne h]
      exact (if_neg h).symm
  · intro b x e
    have h : b ≠ p := ne_of_none e f
    show (if b = p then none else H1 b) = some x
    rw [if_neg h]
    exact s _ _ (by rw [upd_ne h]; exact e)
theorem newp {Hb : Hp} {p r : Addr} {o o' : HO} (f : Hb p = none) (n : upd Hb p o r = none) : ∃ Hb1, upd (upd Hb p o) r o' = upd Hb1 p o ∧ Same Hb Hb1 ∧ Hb1 p = none ∧ Hb1 r = some o' ∧ Hb r = none ∧ r ≠ p := by
  obtain ⟨Hb1, e, s, f1⟩ := pull (same_upd' (o := o') n) f
  have rp : r ≠ p := fun z => by rw [z, upd_same] at n; cases n
  refine ⟨Hb1, e, s, f1, ?_, ?_, rp⟩
  · have := congrFun e r
    rw [upd_same, upd_ne rp] at this
    exact this.symm
  · rw [upd_ne rp] at n
    exact n
section
variable {P : Program} {w : World} {K : PySem.W.Frag} {mg : Str → Option Value} {base : Heap} {CB CM : Addr}
abbrev sFfirst : Stmt := topS 68
def scFfirstN : List Str := []
theorem scFfirst : FnScope scFfirstN [] (defScope sFfirst) := ⟨rfl, rfl, rfl, by decide +kernel, rfl, by decide +kernel, by decide +kernel⟩
theorem ok_Ffirst {f : Addr} {fd : FuncData} (F : Fun K "first_registers" "first_registers" sFfirst f fd) (T : Tx K mg CB CM) : FnOk P w K mg base CX0 1 f fd [] (spFirst) := by
  refine F.ok scFfirst (fun vs H Q E h => by obtain ⟨rfl, _⟩ := h; rfl) (fun cdv A outer s H vs Q E hr h => ?_)
  have hu := hu_of hr
  obtain ⟨t_STACK_TOP, g_STACK_TOP⟩ := T.g_STACK_TOP
  obtain ⟨rfl, q⟩ := h
  refine ⟨_, (pss_one (ps_ret (pe_disp (pps_cons pe_str pe_int (pps_cons pe_str pe_int (pps_cons pe_str pe_int (pps_cons pe_str (pgI g_STACK_TOP) pps_nil)))) rfl rfl (by intro h; cases h) (by decide)))), ?_⟩
  intro r nr
  refine ⟨upd_same, [(Sum.inr "a", .int 0), (Sum.inr "b", .int 0), (Sum.inr "pc", .int 0), (Sum.inr "sp", .int 767)], rfl, (by decide), ?_⟩
  have em : mergeK [] [((Sum.inr "a" : Key), V.int 0), (Sum.inr "b", .int 0), (Sum.inr "pc", .int 0), (Sum.inr "sp", .int 767)] = regD 0 0 0 767 := by kernel_rfl
  rw [em, upd_upd]
  exact q _ r (same_upd' nr) nr upd_same
abbrev sCboard : Stmt := inClass (topS 69) 0
def scCboardN : List Str := ["self", "image", "line"]
theorem scCboard : FnScope scCboardN ["self", "image", "line"] (defScope sCboard) := ⟨rfl, rfl, rfl, by decide +kernel, rfl, by decide +kernel, by decide +kernel⟩
theorem ok_Cboard {f : Addr} {fd : FuncData} {fC_mem : Addr} {dC_mem : FuncData} {fF_first : Addr} {dF_first : FuncData} {fF_image : Addr} {dF_image : FuncData} {fF_line : Addr} {dF_line : FuncData} (F : Fun K "__init__" "Board.__init__" sCboard f fd) (T : Tx K mg CB CM)
    (C_mem : CalC P w K mg base CM 1 "Memory" ["self", "image"] (spMI CM) fC_mem dC_mem)
    (F_first : CalF P w K mg base 1 "first_registers" [] (spFirst) fF_first dF_first)
    (F_image : CalF P w K mg base 4 "is_image" ["thing"] (spImg) fF_image dF_image)
    (F_line : CalF P w K mg base 4 "is_line" ["thing"] (spLine) fF_line dF_line) : FnOk P w K mg base CX0 6 f fd ["self", "image", "line"] (spBI CB CM) := by
  refine F.ok scCboard (fun vs H Q E h => by obtain ⟨_, _, _, _, _, _, _, _, rfl, _⟩ := h; rfl) (fun cdv A outer s H vs Q E hr h => ?_)
  have hu := hu_of hr
  have z_list := T.z_list
  obtain ⟨H0, p, dx, im, ln, us, ns, ls, rfl, s0, f0, hp, him, hl, hw, hln, htu, hri, k⟩ := h
  refine ⟨_, (pss_cons (ps_if (PW.pt (pw_or (pt_not (pt_val (pe_call F_image.G (hr.mono (by decide)) (by rfl) F_image.g F_image.kp F_image.b .nil pass0 (pa_cons (pv 1) pa_nil)))) (pw_or1 (pt_not (pt_val (pe_call F_line.G (hr.mono (by decide)) (by rfl) F_line.g F_line.kp F_line.b .nil pass0 (pa_cons (pv 2) pa_nil))))))) (pss_one ps_never) pss_nil)
    (pss_cons (ps_fld (pv 0) (pe_call0 F_first.G (hr.mono (by decide)) (by rfl) F_first.g F_first.kp F_first.b .nil pass0) rfl)
    (pss_cons (ps_fld (pv 0) pe_bl rfl)
    (pss_cons (ps_fld (pv 0) pe_bl rfl)
    (pss_cons (ps_fld (pv 0) pe_bl rfl)
    (pss_cons (ps_fld (pv 0) pe_int rfl)
    (pss_cons (ps_fld (pv 0) pe_non rfl)
    (pss_cons (ps_fld (pv 0) (pe_lst pa_nil) rfl)
    (pss_cons (ps_fld (pv 0) (pe_make C_mem.M C_mem.I (hr.mono (by decide)) rfl C_mem.g C_mem.b .nil pass0 (pa_cons (pv 1) pa_nil)) rfl)
    (pss_cons (ps_fld (pv 0) (pe_callTy call_list_of (by rfl) z_list (by decide +kernel) (pa_cons (pv 2) pa_nil)) rfl)
    (pss_cons (ps_fld (pv 0) pe_int rfl)
    (pss_cons (ps_fld (pv 0) (pe_lst pa_nil) rfl)
    (pss_cons (ps_fld (pv 0) pe_non rfl)
    (pss_one (ps_fld (pv 0) pe_int rfl))))))))))))))), ?_⟩
  have ne1 : im ≠ p := ne_of him hp (by intro q; cases q)
  have ne2 : ln ≠ p := ne_of hln hp (by intro q; cases q)
  obtain ⟨Hb, eH, sb, fb⟩ : ∃ Hb, H = upd Hb p (.ins CB dx []) ∧ Same H0 Hb ∧ Hb p = none := by
    refine ⟨fun b => if b = p then none else H b, ?_, ?_, if_pos rfl⟩
    · funext b
      by_cases h : b = p
      · subst h
        rw [upd_same]
        exact hp
      · rw [upd_ne h]
        exact (if_neg h).symm
    · intro b x e
      have h : b ≠ p := ne_of_none e f0
      show (if b = p then none else H b) = some x
      rw [if_neg h]
      exact s0 _ _ e
  subst eH
  rw [upd_ne ne1] at him
  rw [upd_ne ne2] at hln
  have htu : TupsAt Hb us ls := htu.mono fun t xs e => by
    rw [upd_ne (ne_of e hp (by intro q; cases q))] at e
    exact e
  refine ⟨_, rfl, im, ns, rfl, (by rw [upd_ne ne1]; exact him), hl, hw, fun H1 s1 => ?_⟩
  obtain ⟨Hb1, rfl, sb1, fb1⟩ := pull s1 fb
  refine ⟨_, rfl, ifN (fun h => by cases h) (fun _ => ?_)⟩
  refine ⟨_, rfl, ln, us, ls, rfl, (by rw [upd_ne ne2]; exact sb1 _ _ hln), htu.mono (fun t xs e => ?_), hri, ?_⟩
  · have tp : t ≠ p := fun z => by rw [z, fb] at e; cases e
    rw [upd_ne tp]
    exact sb1 _ _ e
  refine ⟨_, rfl, ifN (fun h => by cases h) (fun _ => ?_)⟩
  have sB1 := sb.trans sb1
  have him1 := sb1 _ _ him
  have hln1 := sb1 _ _ hln
  have htu1 : TupsAt Hb1 us ls := htu.mono fun t xs e => sb1 _ _ e
  clear hln htu him s1 sb1 sb s0 hp
  refine ⟨rfl, fun H2 r s2' fr hr => ?_⟩
  obtain ⟨Hb3, rfl, s3, fb3⟩ := pull s2' fb1
  have rp : r ≠ p := fun z => by rw [z, upd_same] at fr; cases fr
  rw [upd_ne rp] at fr hr
  have fr0 := fr
  have hr3 := hr
  refine ⟨_, rfl, p, CB, dx, _, rfl, upd_same, T.cB, T.n_registers, (by show 0 < 1000; decide), ?_⟩
  rw [upd_upd]
  refine ⟨_, rfl, p, CB, dx, _, rfl, upd_same, T.cB, T.n_zero, (by show 1 < 1000; decide), ?_⟩
  rw [upd_upd]
  refine ⟨_, rfl, p, CB, dx, _, rfl, upd_same, T.cB, T.n_lets, (by show 2 < 1000; decide), ?_⟩
  rw [upd_upd]
  refine ⟨_, rfl, p, CB, dx, _, rfl, upd_same, T.cB, T.n_asleep, (by show 3 < 1000; decide), ?_⟩
  rw [upd_upd]
  refine ⟨_, rfl, p, CB, dx, _, rfl, upd_same, T.cB, T.n_beat, (by show 4 < 1000; decide), ?_⟩
  rw [upd_upd]
  refine ⟨_, rfl, p, CB, dx, _, rfl, upd_same, T.cB, T.n_stopped, (by show 5 < 1000; decide), ?_⟩
  rw [upd_upd]
  refine ⟨Nat.zero_le _, fun t nt => ?_⟩
  obtain ⟨Hb4, e4, s4, fb4, ht4, ft0, tp⟩ := newp (o' := .lst []) fb3 nt
  rw [e4]
  refine ⟨_, rfl, p, CB, dx, _, rfl, upd_same, T.cB, T.n_sent, (by show 6 < 1000; decide), ?_⟩
  rw [upd_upd]
  refine ⟨_, rfl, ?_⟩
  intro m dm nm ndm ndmm
  have mp : m ≠ p := fun z => by rw [z, upd_same] at nm; cases nm
  rw [upd_ne mp] at nm
  have dmp : dm ≠ p := fun z => by rw [z, upd_same] at ndm; cases ndm
  rw [upd_ne dmp] at ndm
  have him4 := s4 _ _ (s3 _ _ him1)
  have imm : im ≠ m := ne_of_none him4 nm
  have imd : im ≠ dm := ne_of_none him4 ndm
  refine ⟨m, dm, im, ns, rfl, upd_same, (by rw [upd_ne imm, upd_ne imd, upd_ne ne1]; exact him4), hl, fun H5 w_ s_ M5 fr5 fw5 fs5 => ⟨rfl, ?_⟩⟩
  have kp : ∀ b o, Hb4 b = some o → H5 b = some o := fun b o e => fr5 b o (ne_of_none e nm) (by
    rw [upd_ne (ne_of_none e nm), upd_ne (ne_of_none e ndm), upd_ne (ne_of_none e fb4)]
    exact e)
  have hp5 : ∃ fs, H5 p = some (.ins CB dx fs) ∧ fs = ([("registers", .ref r), ("zero", .bl false), ("lets", .bl false), ("asleep", .bl false), ("beat", .int 0), ("stopped", .non), ("sent", .ref t)] : List (Str × V)) := by
    refine ⟨_, fr5 p _ mp.symm (by rw [upd_ne mp.symm, upd_ne dmp.symm]; exact upd_same), ?_⟩
    kernel_rfl
  obtain ⟨fs, hp5, efs⟩ := hp5
  have wp : w_ ≠ p := fun z => by
    rw [z, upd_ne mp.symm, upd_ne dmp.symm, upd_same] at fw5
    cases fw5
  have wm : w_ ≠ m := ne_of M5.hw M5.hm (by intro q; cases q)
  have wd : w_ ≠ dm := fun z => by
    rw [z, upd_ne ndmm, upd_same] at fw5
    cases fw5
  have fw4 : Hb4 w_ = none := by rw [upd_ne wm, upd_ne wd, upd_ne wp] at fw5; exact fw5
  have sp_ : s_ ≠ p := fun z => by
    rw [z, upd_ne mp.symm, upd_ne dmp.symm, upd_same] at fs5
    cases fs5
  have sm_ : s_ ≠ m := ne_of M5.hs M5.hm (by intro q; cases q)
  have sd_ : s_ ≠ dm := fun z => by
    rw [z, upd_ne ndmm, upd_same] at fs5
    cases fs5
  have fs4 : Hb4 s_ = none := by rw [upd_ne sm_, upd_ne sd_, upd_ne sp_] at fs5; exact fs5
  obtain ⟨Hb5, rfl, kp5, fb5⟩ : ∃ Hb5 : Hp, H5 = upd Hb5 p (.ins CB dx fs) ∧ Same Hb4 Hb5 ∧ Hb5 p = none := by
    refine ⟨fun b => if b = p then none else H5 b, ?_, ?_, if_pos rfl⟩
    · funext b
      by_cases h : b = p
      · subst h
        rw [upd_same]
        exact hp5
      · rw [upd_ne h]
        exact (if_neg h).symm
    · intro b x e
      show (if b = p then none else H5 b) = some x
      rw [if_neg (ne_of_none e fb4)]
      exact kp _ _ e
  have hm5 : Hb5 m = some (.ins CM dm (mmF w_ s_)) := by have := M5.hm; rw [upd_ne mp] at this; exact this
  have hw5 : Hb5 w_ = some (.lst ((memOf ns).map V.int)) := by have := M5.hw; rw [upd_ne wp] at this; exact this
  have hs5 : Hb5 s_ = some (.dK []) := by have := M5.hs; rw [upd_ne sp_] at this; exact this
  have lm5 := M5.lm
  clear M5 fr5 kp hp5
  subst efs
  refine ⟨_, rfl, p, CB, dx, _, rfl, upd_same, T.cB, T.n_memory, (by show 7 < 1000; decide), ?_⟩
  rw [upd_upd]
  refine ⟨_, rfl, ln, us, rfl, .inl (SqL.of (by rw [upd_ne ne2]; exact kp5 _ _ (s4 _ _ (s3 _ _ hln1)))), fun l nl => ?_⟩
  obtain ⟨Hb6, e6, s6, fb6, hl6, fl0, lp⟩ := newp (o' := .lst us) fb5 nl
  rw [e6]
  refine ⟨_, rfl, p, CB, dx, _, rfl, upd_same, T.cB, T.n_line, (by show 8 < 1000; decide), ?_⟩
  rw [upd_upd]
  refine ⟨_, rfl, p, CB, dx, _, rfl, upd_same, T.cB, T.n_line_at, (by show 9 < 1000; decide), ?_⟩
  rw [upd_upd]
  refine ⟨Nat.zero_le _, fun q nq => ?_⟩
  obtain ⟨Hb7, e7, s7, fb7, hq7, -, qp⟩ := newp (o' := .lst []) fb6 nq
  rw [e7]
  refine ⟨_, rfl, p, CB, dx, _, rfl, upd_same, T.cB, T.n_touched, (by show 10 < 1000; decide), ?_⟩
  rw [upd_upd]
  refine ⟨_, rfl, p, CB, dx, _, rfl, upd_same, T.cB, T.n_did, (by show 11 < 1000; decide), ?_⟩
  rw [upd_upd]
  refine ⟨_, rfl, p, CB, dx, _, rfl, upd_same, T.cB, T.n_bend, (by show 12 < 1000; decide), ?_⟩
  rw [upd_upd]
  have s57 := s6.trans s7
  have s47 := kp5.trans s57
  have s17 : Same Hb1 Hb7 := (s3.trans s4).trans s47
  have hmh : Hb7 m = some (.ins CM dm (mmF w_ s_)) := s57 _ _ hm5
  refine k _ ⟨⟨dx, r, m, dm, w_, s_, t, l⟩, [], us, ?_⟩
  exact {
    sm := fun b x e => by
      rw [upd_ne (ne_of_none e f0)]
      exact s17 _ _ (sB1 _ _ e)
    fp := f0
    fr := sB1.free fr0
    fw := sB1.free ((s3.trans s4).free fw4)
    ft := sB1.free (s3.free ft0)
    fm := sB1.free ((s3.trans s4).free nm)
    fs := sB1.free ((s3.trans s4).free fs4)
    fl := sB1.free (s3.free (s4.free (kp5.free fl0)))
    hp := ⟨.non, .ref q, .non, (by rw [upd_same]; exact congrArg (fun z => some (HO.ins CB dx z)) (by kernel_rfl)), rfl⟩
    hr := by rw [upd_ne rp]; exact s47 _ _ (s4 _ _ hr3)
    hm := by rw [upd_ne mp]; exact hmh
    hw := by rw [upd_ne wp]; exact s57 _ _ hw5
    hs := by rw [upd_ne sp_]; exact s57 _ _ hs5
    ht := by rw [upd_ne tp]; exact s47 _ _ ht4
    hl := by rw [upd_ne lp]; exact s7 _ _ hl6
    pm := mp.symm
    rs := fun (z : r = s_) => by
      have h1 := s4 _ _ hr3
      rw [z, fs4] at h1
      cases h1
    wt := fun (z : w_ = t) => by rw [z, ht4] at fw4; cases fw4
    wl := fun (z : w_ = l) => by rw [← z, hw5] at fl0; cases fl0
    tl := fun (z : t = l) => by
      have h1 := kp5 _ _ ht4
      rw [z, fl0] at h1
      cases h1
    us := .nil
    ll := htu1.mono fun u xs e => by
      have up : u ≠ p := ne_of_none e fb1
      rw [upd_ne up]
      exact s17 _ _ e
    lm := lm5 }
end
end Bh

/-! A probe is made. -/
namespace Bh
open PySem PySem.Spec PyProof.Rows L2
def FtB (p : Addr) (A : Ad) (b : Addr) : Prop := b = p ∨ b = A.r ∨ b = A.w ∨ b = A.t ∨ b = A.m ∨ b = A.s ∨ b = A.l
/-- what a board is, by itself -/
structure Bc (CB CM : Addr) (H : Hp) (p : Addr) (A : Ad) (ts ls : List V) (x : Bd) : Prop where
  hp : ∃ sv tv dv, H p = some (.ins CB A.dx (bdF A.r A.t A.m A.l x.zero x.lets x.asleep x.beat sv x.la tv dv)) ∧ StopAt H sv x.stop
  hr : H A.r = some (.dK (regD x.a x.b x.pc x.sp))
  hm : H A.m = some (.ins CM A.dm (mmF A.w A.s))
  hw : H A.w = some (.lst (x.mem.map V.int))
  hs : H A.s = some (.dK [])
  ht : H A.t = some (.lst ts)
  hl : H A.l = some (.lst ls)
  us : TupsAt H ts x.sent
  ll : TupsAt H ls x.line
  lm : x.mem.length = 774
theorem Bp.bc {CB CM p : Addr} {Hb H : Hp} {A : Ad} {ts ls : List V} {x : Bd} (B : Bp CB CM Hb H p A ts ls x) : Bc CB CM H p A ts ls x := ⟨B.hp, B.hr, B.hm, B.hw, B.hs, B.ht, B.hl, B.us, B.ll, B.lm⟩
theorem Bc.same {CB CM p : Addr} {H H' : Hp} {A : Ad} {ts ls : List V} {x : Bd} (C : Bc CB CM H p A ts ls x) (s : Same H H') : Bc CB CM H' p A ts ls x where
  hp := let ⟨sv, tv, dv, e, z⟩ := C.hp; ⟨sv, tv, dv, s _ _ e, z.mono fun t xs e => s _ _ e⟩
  hr := s _ _ C.hr
  hm := s _ _ C.hm
  hw := s _ _ C.hw
  hs := s _ _ C.hs
  ht := s _ _ C.ht
  hl := s _ _ C.hl
  us := C.us.mono fun t xs e => s _ _ e
  ll := C.ll.mono fun t xs e => s _ _ e
  lm := C.lm
theorem Bc.mem {CB CM p : Addr} {H : Hp} {A : Ad} {ts ls : List V} {x : Bd} (C : Bc CB CM H p A ts ls x) : MemAt CM H A.m A.dm A.w A.s x.mem := ⟨C.hm, C.hw, C.hs, C.lm⟩
structure Ty (K : PySem.W.Frag) (mg : Str → Option Value) (CB CM CP CK CW CF CH CC CI CS : Addr) : Prop extends Tx K mg CB CM where
  g_WATCHES : ∃ t, mg "WATCHES" = some (.int 2 t)
  g_PAGES : ∃ t, mg "PAGES" = some (.int 16 t)
  cP : Cls K CP
  nP_board : NoAttr K CP "board"
  nP_standing : NoAttr K CP "standing"
  nP_watching : NoAttr K CP "watching"
  nP_frames : NoAttr K CP "frames"
  nP_history : NoAttr K CP "history"
  nP_counts : NoAttr K CP "counts"
  nP_mishaps : NoAttr K CP "mishaps"
  nP_stands : NoAttr K CP "stands"
  nP_turns_gone : NoAttr K CP "turns_gone"
  nP_course : NoAttr K CP "course"
  cK : Cls K CK
  nK_memory : NoAttr K CK "memory"
  nK_hard : NoAttr K CK "hard"
  nK_erased : NoAttr K CK "erased"
  cW : Cls K CW
  nW_rows : NoAttr K CW "rows"
  cF : Cls K CF
  nF_rows : NoAttr K CF "rows"
  nF_strays : NoAttr K CF "strays"
  cH : Cls K CH
  nH_rows : NoAttr K CH "rows"
  nH_faded : NoAttr K CH "faded"
  cC : Cls K CC
  nC_deeds : NoAttr K CC "deeds"
  nC_frames : NoAttr K CC "frames"
  nC_idle : NoAttr K CC "idle"
  nC_peeked : NoAttr K CC "peeked"
  cI : Cls K CI
  nI_rows : NoAttr K CI "rows"
  nI_met_rows : NoAttr K CI "met_rows"
  cS : Cls K CS
  nS_rows : NoAttr K CS "rows"
def prF (bd st wa fr hi co mi sd : Addr) (tg : Int) (cv : V) : List (Str × V) := [("board", .ref bd), ("standing", .ref st), ("watching", .ref wa), ("frames", .ref fr), ("history", .ref hi), ("counts", .ref co), ("mishaps", .ref mi), ("stands", .ref sd), ("turns_gone", .int tg), ("course", cv)]
section
variable {bd st wa fr hi co mi sd : Addr} {tg : Int} {cv : V}
theorem pF_board : (prF bd st wa fr hi co mi sd tg cv).lookup ("board" : Str) = some (.ref bd) := by kernel_rfl
theorem pF_standing : (prF bd st wa fr hi co mi sd tg cv).lookup ("standing" : Str) = some (.ref st) := by kernel_rfl
theorem pF_watching : (prF bd st wa fr hi co mi sd tg cv).lookup ("watching" : Str) = some (.ref wa) := by kernel_rfl
theorem pF_frames : (prF bd st wa fr hi co mi sd tg cv).lookup ("frames" : Str) = some (.ref fr) := by kernel_rfl
theorem pF_turns_gone : (prF bd st wa fr hi co mi sd tg cv).lookup ("turns_gone" : Str) = some (.int tg) := by kernel_rfl
theorem pN_look : (prF bd st wa fr hi co mi sd tg cv).lookup ("look" : Str) = none := by kernel_rfl
theorem pN_register_of : (prF bd st wa fr hi co mi sd tg cv).lookup ("register_of" : Str) = none := by kernel_rfl
theorem pN_stop_told : (prF bd st wa fr hi co mi sd tg cv).lookup ("stop_told" : Str) = none := by kernel_rfl
theorem pN_out : (prF bd st wa fr hi co mi sd tg cv).lookup ("out" : Str) = none := by kernel_rfl
theorem pN_turns : (prF bd st wa fr hi co mi sd tg cv).lookup ("turns" : Str) = none := by kernel_rfl
theorem pN_marks : (prF bd st wa fr hi co mi sd tg cv).lookup ("marks" : Str) = none := by kernel_rfl
theorem pN_wear : (prF bd st wa fr hi co mi sd tg cv).lookup ("wear" : Str) = none := by kernel_rfl
theorem pN_watches : (prF bd st wa fr hi co mi sd tg cv).lookup ("watches" : Str) = none := by kernel_rfl
theorem pN_watch : (prF bd st wa fr hi co mi sd tg cv).lookup ("watch" : Str) = none := by kernel_rfl
theorem pN_unwatch : (prF bd st wa fr hi co mi sd tg cv).lookup ("unwatch" : Str) = none := by kernel_rfl
theorem pN_mark : (prF bd st wa fr hi co mi sd tg cv).lookup ("mark" : Str) = none := by kernel_rfl
theorem pN_unmark : (prF bd st wa fr hi co mi sd tg cv).lookup ("unmark" : Str) = none := by kernel_rfl
theorem pN_clear_marks : (prF bd st wa fr hi co mi sd tg cv).lookup ("clear_marks" : Str) = none := by kernel_rfl
theorem pN_go : (prF bd st wa fr hi co mi sd tg cv).lookup ("go" : Str) = none := by kernel_rfl
end
def mkF (m hd er : Addr) : List (Str × V) := [("memory", .ref m), ("hard", .ref hd), ("erased", .ref er)]
def wtF (wr : Addr) : List (Str × V) := [("rows", .ref wr)]
section
variable {m hd er wr : Addr}
theorem kF_memory : (mkF m hd er).lookup ("memory" : Str) = some (.ref m) := by kernel_rfl
theorem kF_hard : (mkF m hd er).lookup ("hard" : Str) = some (.ref hd) := by kernel_rfl
theorem kF_erased : (mkF m hd er).lookup ("erased" : Str) = some (.ref er) := by kernel_rfl
theorem wF_rows : (wtF wr).lookup ("rows" : Str) = some (.ref wr) := by kernel_rfl
theorem kN_told : (mkF m hd er).lookup ("told" : Str) = none := by kernel_rfl
theorem wN_lay : (wtF wr).lookup ("lay" : Str) = none := by kernel_rfl
theorem wN_lift : (wtF wr).lookup ("lift" : Str) = none := by kernel_rfl
theorem wN_check : (wtF wr).lookup ("check_number" : Str) = none := by kernel_rfl
end
/-- an object is made, of which nothing more is told -/
def spMade (C : Addr) : Sp := fun vs H Q _ => ∃ (p dx : Addr), vs = [.ref p] ∧ H p = some (.ins C dx []) ∧ ∀ H', (∀ b o, b ≠ p → H b = some o → H' b = some o) → Q .non H'
def spMkW (CW : Addr) : Sp := fun vs H Q _ => ∃ (p dx : Addr), vs = [.ref p] ∧ H p = some (.ins CW dx []) ∧ ∀ (H' : Hp) (wr : Addr), (∀ b o, b ≠ p → H b = some o → H' b = some o) → H wr = none → H' wr = some (.lst [.non, .non]) → H' p = some (.ins CW dx (wtF wr)) → Q .non H'
def spMkK (CK : Addr) : Sp := fun vs H Q _ => ∃ (p dx m : Addr), vs = [.ref p, .ref m] ∧ H p = some (.ins CK dx []) ∧ ∀ (H' : Hp) (hd er : Addr), (∀ b o, b ≠ p → H b = some o → H' b = some o) → H hd = none → H er = none → H' hd = some (.dK []) → H' er = some (.lst ((List.replicate 16 (0 : Int)).map V.int)) → H' p = some (.ins CK dx (mkF m hd er)) → Q .non H'
theorem flat_r16 : (List.replicate (16 : Int).toNat [V.int 0]).flatten = (List.replicate 16 (0 : Int)).map V.int := by decide +kernel
section
variable {P : Program} {w : World} {K : PySem.W.Frag} {mg : Str → Option Value} {base : Heap} {CB CM CP CK CW CF CH CC CI CS : Addr}
abbrev sCfra : Stmt := inClass (topS 76) 0
def scCfraN : List Str := ["self"]
theorem scCfra : FnScope scCfraN ["self"] (defScope sCfra) := ⟨rfl, rfl, rfl, by decide +kernel, rfl, by decide +kernel, by decide +kernel⟩
theorem ok_Cfra {f : Addr} {fd : FuncData} (F : Fun K "__init__" "Frames.__init__" sCfra f fd) (T : Ty K mg CB CM CP CK CW CF CH CC CI CS) : FnOk P w K mg base CX0 1 f fd ["self"] (spMade CF) := by
  refine F.ok scCfra (fun vs H Q E h => by obtain ⟨_, _, rfl, _⟩ := h; rfl) (fun cdv A outer s H vs Q E hr h => ?_)
  have hu := hu_of hr
  obtain ⟨p, dx, rfl, hp, k⟩ := h
  refine ⟨_, (pss_cons (ps_fld (pv 0) (pe_lst pa_nil) rfl)
    (pss_one (ps_fld (pv 0) pe_int rfl))), ?_⟩
  have kp0 : ∀ b o, b ≠ p → H b = some o → H b = some o := fun _ _ _ e => e
  refine ⟨Nat.zero_le _, fun l0 n0 => ?_⟩
  have e0 : p ≠ l0 := ne_of_none hp n0
  refine ⟨_, rfl, p, CF, dx, _, rfl, (by rw [upd_ne e0]; exact hp), T.cF, T.nF_rows, (by show 0 < 1000; decide), ?_⟩
  have kp1 : ∀ b o, b ≠ p → H b = some o → (upd (upd H l0 (.lst [])) p (.ins CF dx (putF "rows" (.ref l0) ([])))) b = some o := fun b o n e => by
    rw [upd_ne n]
    exact same_upd' n0 _ _ (kp0 b o n e)
  have hp0 : (upd (upd H l0 (.lst [])) p (.ins CF dx (putF "rows" (.ref l0) ([])))) p = some (.ins CF dx (putF "rows" (.ref l0) ([]))) := upd_same
  generalize upd (upd H l0 (.lst [])) p (.ins CF dx (putF "rows" (.ref l0) ([]))) = G0 at *
  refine ⟨_, rfl, p, CF, dx, _, rfl, hp0, T.cF, T.nF_strays, (by show 1 < 1000; decide), ?_⟩
  have kp2 : ∀ b o, b ≠ p → H b = some o → (upd G0 p (.ins CF dx (putF "strays" (.int 0) (putF "rows" (.ref l0) ([]))))) b = some o := fun b o n e => by rw [upd_ne n]; exact kp1 b o n e
  have hp1 : (upd G0 p (.ins CF dx (putF "strays" (.int 0) (putF "rows" (.ref l0) ([]))))) p = some (.ins CF dx (putF "strays" (.int 0) (putF "rows" (.ref l0) ([])))) := upd_same
  generalize upd G0 p (.ins CF dx (putF "strays" (.int 0) (putF "rows" (.ref l0) ([])))) = G1 at *
  exact k _ kp2
abbrev sChis : Stmt := inClass (topS 72) 0
def scChisN : List Str := ["self"]
theorem scChis : FnScope scChisN ["self"] (defScope sChis) := ⟨rfl, rfl, rfl, by decide +kernel, rfl, by decide +kernel, by decide +kernel⟩
theorem ok_Chis {f : Addr} {fd : FuncData} (F : Fun K "__init__" "History.__init__" sChis f fd) (T : Ty K mg CB CM CP CK CW CF CH CC CI CS) : FnOk P w K mg base CX0 1 f fd ["self"] (spMade CH) := by
  refine F.ok scChis (fun vs H Q E h => by obtain ⟨_, _, rfl, _⟩ := h; rfl) (fun cdv A outer s H vs Q E hr h => ?_)
  have hu := hu_of hr
  obtain ⟨p, dx, rfl, hp, k⟩ := h
  refine ⟨_, (pss_cons (ps_fld (pv 0) (pe_lst pa_nil) rfl)
    (pss_one (ps_fld (pv 0) pe_int rfl))), ?_⟩
  have kp0 : ∀ b o, b ≠ p → H b = some o → H b = some o := fun _ _ _ e => e
  refine ⟨Nat.zero_le _, fun l0 n0 => ?_⟩
  have e0 : p ≠ l0 := ne_of_none hp n0
  refine ⟨_, rfl, p, CH, dx, _, rfl, (by rw [upd_ne e0]; exact hp), T.cH, T.nH_rows, (by show 0 < 1000; decide), ?_⟩
  have kp1 : ∀ b o, b ≠ p → H b = some o → (upd (upd H l0 (.lst [])) p (.ins CH dx (putF "rows" (.ref l0) ([])))) b = some o := fun b o n e => by
    rw [upd_ne n]
    exact same_upd' n0 _ _ (kp0 b o n e)
  have hp0 : (upd (upd H l0 (.lst [])) p (.ins CH dx (putF "rows" (.ref l0) ([])))) p = some (.ins CH dx (putF "rows" (.ref l0) ([]))) := upd_same
  generalize upd (upd H l0 (.lst [])) p (.ins CH dx (putF "rows" (.ref l0) ([]))) = G0 at *
  refine ⟨_, rfl, p, CH, dx, _, rfl, hp0, T.cH, T.nH_faded, (by show 1 < 1000; decide), ?_⟩
  have kp2 : ∀ b o, b ≠ p → H b = some o → (upd G0 p (.ins CH dx (putF "faded" (.int 0) (putF "rows" (.ref l0) ([]))))) b = some o := fun b o n e => by rw [upd_ne n]; exact kp1 b o n e
  have hp1 : (upd G0 p (.ins CH dx (putF "faded" (.int 0) (putF "rows" (.ref l0) ([]))))) p = some (.ins CH dx (putF "faded" (.int 0) (putF "rows" (.ref l0) ([])))) := upd_same
  generalize upd G0 p (.ins CH dx (putF "faded" (.int 0) (putF "rows" (.ref l0) ([])))) = G1 at *
  exact k _ kp2
abbrev sCcou : Stmt := inClass (topS 73) 0
def scCcouN : List Str := ["self"]
theorem scCcou : FnScope scCcouN ["self"] (defScope sCcou) := ⟨rfl, rfl, rfl, by decide +kernel, rfl, by decide +kernel, by decide +kernel⟩
theorem ok_Ccou {f : Addr} {fd : FuncData} (F : Fun K "__init__" "Counts.__init__" sCcou f fd) (T : Ty K mg CB CM CP CK CW CF CH CC CI CS) : FnOk P w K mg base CX0 1 f fd ["self"] (spMade CC) := by
  refine F.ok scCcou (fun vs H Q E h => by obtain ⟨_, _, rfl, _⟩ := h; rfl) (fun cdv A outer s H vs Q E hr h => ?_)
  have hu := hu_of hr
  obtain ⟨p, dx, rfl, hp, k⟩ := h
  refine ⟨_, (pss_cons (ps_fld (pv 0) pe_dnewK rfl)
    (pss_cons (ps_fld (pv 0) pe_dnewK rfl)
    (pss_cons (ps_fld (pv 0) pe_int rfl)
    (pss_one (ps_fld (pv 0) pe_int rfl))))), ?_⟩
  have kp0 : ∀ b o, b ≠ p → H b = some o → H b = some o := fun _ _ _ e => e
  intro l0 n0
  have e0 : p ≠ l0 := ne_of_none hp n0
  refine ⟨_, rfl, p, CC, dx, _, rfl, (by rw [upd_ne e0]; exact hp), T.cC, T.nC_deeds, (by show 0 < 1000; decide), ?_⟩
  have kp1 : ∀ b o, b ≠ p → H b = some o → (upd (upd H l0 (.dK [])) p (.ins CC dx (putF "deeds" (.ref l0) ([])))) b = some o := fun b o n e => by
    rw [upd_ne n]
    exact same_upd' n0 _ _ (kp0 b o n e)
  have hp0 : (upd (upd H l0 (.dK [])) p (.ins CC dx (putF "deeds" (.ref l0) ([])))) p = some (.ins CC dx (putF "deeds" (.ref l0) ([]))) := upd_same
  generalize upd (upd H l0 (.dK [])) p (.ins CC dx (putF "deeds" (.ref l0) ([]))) = G0 at *
  intro l1 n1
  have e1 : p ≠ l1 := ne_of_none hp0 n1
  refine ⟨_, rfl, p, CC, dx, _, rfl, (by rw [upd_ne e1]; exact hp0), T.cC, T.nC_frames, (by show 1 < 1000; decide), ?_⟩
  have kp2 : ∀ b o, b ≠ p → H b = some o → (upd (upd G0 l1 (.dK [])) p (.ins CC dx (putF "frames" (.ref l1) (putF "deeds" (.ref l0) ([]))))) b = some o := fun b o n e => by
    rw [upd_ne n]
    exact same_upd' n1 _ _ (kp1 b o n e)
  have hp1 : (upd (upd G0 l1 (.dK [])) p (.ins CC dx (putF "frames" (.ref l1) (putF "deeds" (.ref l0) ([]))))) p = some (.ins CC dx (putF "frames" (.ref l1) (putF "deeds" (.ref l0) ([])))) := upd_same
  generalize upd (upd G0 l1 (.dK [])) p (.ins CC dx (putF "frames" (.ref l1) (putF "deeds" (.ref l0) ([])))) = G1 at *
  refine ⟨_, rfl, p, CC, dx, _, rfl, hp1, T.cC, T.nC_idle, (by show 2 < 1000; decide), ?_⟩
  have kp3 : ∀ b o, b ≠ p → H b = some o → (upd G1 p (.ins CC dx (putF "idle" (.int 0) (putF "frames" (.ref l1) (putF "deeds" (.ref l0) ([])))))) b = some o := fun b o n e => by rw [upd_ne n]; exact kp2 b o n e
  have hp2 : (upd G1 p (.ins CC dx (putF "idle" (.int 0) (putF "frames" (.ref l1) (putF "deeds" (.ref l0) ([])))))) p = some (.ins CC dx (putF "idle" (.int 0) (putF "frames" (.ref l1) (putF "deeds" (.ref l0) ([]))))) := upd_same
  generalize upd G1 p (.ins CC dx (putF "idle" (.int 0) (putF "frames" (.ref l1) (putF "deeds" (.ref l0) ([]))))) = G2 at *
  refine ⟨_, rfl, p, CC, dx, _, rfl, hp2, T.cC, T.nC_peeked, (by show 3 < 1000; decide), ?_⟩
  have kp4 : ∀ b o, b ≠ p → H b = some o → (upd G2 p (.ins CC dx (putF "peeked" (.int 0) (putF "idle" (.int 0) (putF "frames" (.ref l1) (putF "deeds" (.ref l0) ([]))))))) b = some o := fun b o n e => by rw [upd_ne n]; exact kp3 b o n e
  have hp3 : (upd G2 p (.ins CC dx (putF "peeked" (.int 0) (putF "idle" (.int 0) (putF "frames" (.ref l1) (putF "deeds" (.ref l0) ([]))))))) p = some (.ins CC dx (putF "peeked" (.int 0) (putF "idle" (.int 0) (putF "frames" (.ref l1) (putF "deeds" (.ref l0) ([])))))) := upd_same
  generalize upd G2 p (.ins CC dx (putF "peeked" (.int 0) (putF "idle" (.int 0) (putF "frames" (.ref l1) (putF "deeds" (.ref l0) ([])))))) = G3 at *
  exact k _ kp4
abbrev sCmis : Stmt := inClass (topS 87) 0
def scCmisN : List Str := ["self"]
theorem scCmis : FnScope scCmisN ["self"] (defScope sCmis) := ⟨rfl, rfl, rfl, by decide +kernel, rfl, by decide +kernel, by decide +kernel⟩
theorem ok_Cmis {f : Addr} {fd : FuncData} (F : Fun K "__init__" "Mishaps.__init__" sCmis f fd) (T : Ty K mg CB CM CP CK CW CF CH CC CI CS) : FnOk P w K mg base CX0 1 f fd ["self"] (spMade CI) := by
  refine F.ok scCmis (fun vs H Q E h => by obtain ⟨_, _, rfl, _⟩ := h; rfl) (fun cdv A outer s H vs Q E hr h => ?_)
  have hu := hu_of hr
  obtain ⟨p, dx, rfl, hp, k⟩ := h
  refine ⟨_, (pss_cons (ps_fld (pv 0) (pe_lst pa_nil) rfl)
    (pss_one (ps_fld (pv 0) (pe_lst pa_nil) rfl))), ?_⟩
  have kp0 : ∀ b o, b ≠ p → H b = some o → H b = some o := fun _ _ _ e => e
  refine ⟨Nat.zero_le _, fun l0 n0 => ?_⟩
  have e0 : p ≠ l0 := ne_of_none hp n0
  refine ⟨_, rfl, p, CI, dx, _, rfl, (by rw [upd_ne e0]; exact hp), T.cI, T.nI_rows, (by show 0 < 1000; decide), ?_⟩
  have kp1 : ∀ b o, b ≠ p → H b = some o → (upd (upd H l0 (.lst [])) p (.ins CI dx (putF "rows" (.ref l0) ([])))) b = some o := fun b o n e => by
    rw [upd_ne n]
    exact same_upd' n0 _ _ (kp0 b o n e)
  have hp0 : (upd (upd H l0 (.lst [])) p (.ins CI dx (putF "rows" (.ref l0) ([])))) p = some (.ins CI dx (putF "rows" (.ref l0) ([]))) := upd_same
  generalize upd (upd H l0 (.lst [])) p (.ins CI dx (putF "rows" (.ref l0) ([]))) = G0 at *
  refine ⟨Nat.zero_le _, fun l1 n1 => ?_⟩
  have e1 : p ≠ l1 := ne_of_none hp0 n1
  refine ⟨_, rfl, p, CI, dx, _, rfl, (by rw [upd_ne e1]; exact hp0), T.cI, T.nI_met_rows, (by show 1 < 1000; decide), ?_⟩
  have kp2 : ∀ b o, b ≠ p → H b = some o → (upd (upd G0 l1 (.lst [])) p (.ins CI dx (putF "met_rows" (.ref l1) (putF "rows" (.ref l0) ([]))))) b = some o := fun b o n e => by
    rw [upd_ne n]
    exact same_upd' n1 _ _ (kp1 b o n e)
  have hp1 : (upd (upd G0 l1 (.lst [])) p (.ins CI dx (putF "met_rows" (.ref l1) (putF "rows" (.ref l0) ([]))))) p = some (.ins CI dx (putF "met_rows" (.ref l1) (putF "rows" (.ref l0) ([])))) := upd_same
  generalize upd (upd G0 l1 (.lst [])) p (.ins CI dx (putF "met_rows" (.ref l1) (putF "rows" (.ref l0) ([])))) = G1 at *
  exact k _ kp2
abbrev sCsta : Stmt := inClass (topS 89) 0
def scCstaN : List Str := ["self"]
theorem scCsta : FnScope scCstaN ["self"] (defScope sCsta) := ⟨rfl, rfl, rfl, by decide +kernel, rfl, by decide +kernel, by decide +kernel⟩
theorem ok_Csta {f : Addr} {fd : FuncData} (F : Fun K "__init__" "Stands.__init__" sCsta f fd) (T : Ty K mg CB CM CP CK CW CF CH CC CI CS) : FnOk P w K mg base CX0 1 f fd ["self"] (spMade CS) := by
  refine F.ok scCsta (fun vs H Q E h => by obtain ⟨_, _, rfl, _⟩ := h; rfl) (fun cdv A outer s H vs Q E hr h => ?_)
  have hu := hu_of hr
  obtain ⟨p, dx, rfl, hp, k⟩ := h
  refine ⟨_, (pss_one (ps_fld (pv 0) (pe_lst pa_nil) rfl)), ?_⟩
  have kp0 : ∀ b o, b ≠ p → H b = some o → H b = some o := fun _ _ _ e => e
  refine ⟨Nat.zero_le _, fun l0 n0 => ?_⟩
  have e0 : p ≠ l0 := ne_of_none hp n0
  refine ⟨_, rfl, p, CS, dx, _, rfl, (by rw [upd_ne e0]; exact hp), T.cS, T.nS_rows, (by show 0 < 1000; decide), ?_⟩
  have kp1 : ∀ b o, b ≠ p → H b = some o → (upd (upd H l0 (.lst [])) p (.ins CS dx (putF "rows" (.ref l0) ([])))) b = some o := fun b o n e => by
    rw [upd_ne n]
    exact same_upd' n0 _ _ (kp0 b o n e)
  have hp0 : (upd (upd H l0 (.lst [])) p (.ins CS dx (putF "rows" (.ref l0) ([])))) p = some (.ins CS dx (putF "rows" (.ref l0) ([]))) := upd_same
  generalize upd (upd H l0 (.lst [])) p (.ins CS dx (putF "rows" (.ref l0) ([]))) = G0 at *
  exact k _ kp1
abbrev sCwat : Stmt := inClass (topS 93) 0
def scCwatN : List Str := ["self"]
theorem scCwat : FnScope scCwatN ["self"] (defScope sCwat) := ⟨rfl, rfl, rfl, by decide +kernel, rfl, by decide +kernel, by decide +kernel⟩
theorem ok_Cwat {f : Addr} {fd : FuncData} (F : Fun K "__init__" "Watches.__init__" sCwat f fd) (T : Ty K mg CB CM CP CK CW CF CH CC CI CS) : FnOk P w K mg base CX0 1 f fd ["self"] (spMkW CW) := by
  refine F.ok scCwat (fun vs H Q E h => by obtain ⟨_, _, rfl, _⟩ := h; rfl) (fun cdv A outer s H vs Q E hr h => ?_)
  have hu := hu_of hr
  obtain ⟨t_WATCHES, g_WATCHES⟩ := T.g_WATCHES
  obtain ⟨p, dx, rfl, hp, k⟩ := h
  refine ⟨_, (pss_one (ps_fld (pv 0) (pe_op op_rep (pe_lst (pa_cons pe_non pa_nil)) (pgI g_WATCHES)) rfl)), ?_⟩
  refine ⟨(by show 1 ≤ sizeLine; decide), fun l1 n1 => ?_⟩
  refine ⟨l1, _, _, rfl, rfl, upd_same, by decide, by decide, (by show 1 * 2 ≤ sizeLine; decide), fun wr nw => ?_⟩
  rw [show (List.replicate (2 : Int).toNat [V.non]).flatten = [V.non, V.non] from rfl]
  have e1 : p ≠ l1 := ne_of_none hp n1
  have hp1 : upd H l1 (.lst [V.non]) p = some (.ins CW dx []) := by rw [upd_ne e1]; exact hp
  have s1 := same_upd' (o := .lst [V.non]) n1
  have e2 : p ≠ wr := ne_of_none hp1 nw
  have s2 := same_upd' (o := .lst [V.non, V.non]) nw
  refine ⟨_, rfl, p, CW, dx, _, rfl, s2 _ _ hp1, T.cW, T.nW_rows, (by show 0 < 1000; decide), ?_⟩
  exact k _ wr (fun b o n e => by rw [upd_ne n]; exact s2 _ _ (s1 _ _ e)) (s1.free nw) (by rw [upd_ne e2.symm]; exact upd_same) upd_same
abbrev sCmar : Stmt := inClass (topS 81) 0
def scCmarN : List Str := ["self", "memory"]
theorem scCmar : FnScope scCmarN ["self", "memory"] (defScope sCmar) := ⟨rfl, rfl, rfl, by decide +kernel, rfl, by decide +kernel, by decide +kernel⟩
theorem ok_Cmar {f : Addr} {fd : FuncData} (F : Fun K "__init__" "Marks.__init__" sCmar f fd) (T : Ty K mg CB CM CP CK CW CF CH CC CI CS) : FnOk P w K mg base CX0 1 f fd ["self", "memory"] (spMkK CK) := by
  refine F.ok scCmar (fun vs H Q E h => by obtain ⟨_, _, _, rfl, _⟩ := h; rfl) (fun cdv A outer s H vs Q E hr h => ?_)
  have hu := hu_of hr
  obtain ⟨t_PAGES, g_PAGES⟩ := T.g_PAGES
  obtain ⟨p, dx, m, rfl, hp, k⟩ := h
  refine ⟨_, (pss_cons (ps_fld (pv 0) (pv 1) rfl)
    (pss_cons (ps_fld (pv 0) pe_dnewK rfl)
    (pss_one (ps_fld (pv 0) (pe_op op_rep (pe_lst (pa_cons pe_int pa_nil)) (pgI g_PAGES)) rfl)))), ?_⟩
  refine ⟨_, rfl, _, rfl, p, CK, dx, _, rfl, hp, T.cK, T.nK_memory, (by show 0 < 1000; decide), ?_⟩
  have k1 : ∀ b o, b ≠ p → H b = some o → upd H p (.ins CK dx (putF "memory" (.ref m) [])) b = some o := fun b o n e => by rw [upd_ne n]; exact e
  have hp1 : upd H p (.ins CK dx (putF "memory" (.ref m) [])) p = some (.ins CK dx (putF "memory" (.ref m) [])) := upd_same
  have fr1 : ∀ b, upd H p (.ins CK dx (putF "memory" (.ref m) [])) b = none → H b = none := fun b e => by
    have n : b ≠ p := fun z => by rw [z, upd_same] at e; cases e
    rw [upd_ne n] at e
    exact e
  generalize upd H p (.ins CK dx (putF "memory" (.ref m) [])) = G1 at *
  intro hd nh
  have e2 : p ≠ hd := ne_of_none hp1 nh
  have s2 := same_upd' (o := .dK []) nh
  refine ⟨_, rfl, p, CK, dx, _, rfl, s2 _ _ hp1, T.cK, T.nK_hard, (by show 1 < 1000; decide), ?_⟩
  have k2 : ∀ b o, b ≠ p → H b = some o → upd (upd G1 hd (.dK [])) p (.ins CK dx (putF "hard" (.ref hd) (putF "memory" (.ref m) []))) b = some o := fun b o n e => by rw [upd_ne n]; exact s2 _ _ (k1 b o n e)
  have hp2 : upd (upd G1 hd (.dK [])) p (.ins CK dx (putF "hard" (.ref hd) (putF "memory" (.ref m) []))) p = some (.ins CK dx (putF "hard" (.ref hd) (putF "memory" (.ref m) []))) := upd_same
  have hh2 : upd (upd G1 hd (.dK [])) p (.ins CK dx (putF "hard" (.ref hd) (putF "memory" (.ref m) []))) hd = some (.dK []) := by rw [upd_ne e2.symm]; exact upd_same
  have fr2 : ∀ b, upd (upd G1 hd (.dK [])) p (.ins CK dx (putF "hard" (.ref hd) (putF "memory" (.ref m) []))) b = none → H b = none := fun b e => by
    have n : b ≠ p := fun z => by rw [z, upd_same] at e; cases e
    rw [upd_ne n] at e
    exact fr1 b (s2.free e)
  generalize upd (upd G1 hd (.dK [])) p (.ins CK dx (putF "hard" (.ref hd) (putF "memory" (.ref m) []))) = G2 at *
  refine ⟨(by show 1 ≤ sizeLine; decide), fun l1 n1 => ?_⟩
  refine ⟨l1, _, _, rfl, rfl, upd_same, by decide, by decide, (by show 1 * 16 ≤ sizeLine; decide), fun er ne_ => ?_⟩
  rw [flat_r16]
  have e1 : p ≠ l1 := ne_of_none hp2 n1
  have s3 := same_upd' (o := .lst [V.int 0]) n1
  have hp3 := s3 _ _ hp2
  have e3 : p ≠ er := ne_of_none hp3 ne_
  have s4 := same_upd' (o := .lst ((List.replicate 16 (0 : Int)).map V.int)) ne_
  refine ⟨_, rfl, p, CK, dx, _, rfl, s4 _ _ hp3, T.cK, T.nK_erased, (by show 2 < 1000; decide), ?_⟩
  exact k _ hd er (fun b o n e => by rw [upd_ne n]; exact s4 _ _ (s3 _ _ (k2 b o n e))) (fr1 _ nh) (fr2 _ (s3.free ne_)) (by rw [upd_ne e2.symm]; exact s4 _ _ (s3 _ _ hh2)) (by rw [upd_ne e3.symm]; exact upd_same) upd_same
theorem Bc.off {CB CM CP b p d : Addr} {Hb : Hp} {A : Ad} {ts ls : List V} {x : Bd} {fs : List (Str × V)} (C : Bc CB CM (upd Hb p (.ins CP d fs)) b A ts ls x) (n : ∀ a, FtB b A a → a ≠ p) (hp0 : ∀ t xs, upd Hb p (.ins CP d fs) t = some (.tup xs) → t ≠ p) : Bc CB CM Hb b A ts ls x := by
  have k : ∀ a o, a ≠ p → upd Hb p (.ins CP d fs) a = some o → Hb a = some o := fun a o h e => by rwa [upd_ne h] at e
  have tk : ∀ t xs, upd Hb p (.ins CP d fs) t = some (.tup xs) → Hb t = some (.tup xs) := fun t xs e => k _ _ (hp0 t xs e) e
  exact {
    hp := let ⟨sv, tv, dv, e, z⟩ := C.hp; ⟨sv, tv, dv, k _ _ (n _ (.inl rfl)) e, z.mono tk⟩
    hr := k _ _ (n _ (.inr (.inl rfl))) C.hr
    hw := k _ _ (n _ (.inr (.inr (.inl rfl)))) C.hw
    ht := k _ _ (n _ (.inr (.inr (.inr (.inl rfl))))) C.ht
    hm := k _ _ (n _ (.inr (.inr (.inr (.inr (.inl rfl)))))) C.hm
    hs := k _ _ (n _ (.inr (.inr (.inr (.inr (.inr (.inl rfl))))))) C.hs
    hl := k _ _ (n _ (.inr (.inr (.inr (.inr (.inr (.inr rfl))))))) C.hl
    us := C.us.mono tk
    ll := C.ll.mono tk
    lm := C.lm }
theorem tup_off {Hb : Hp} {p CP d : Addr} {fs : List (Str × V)} : ∀ t xs, upd Hb p (.ins CP d fs) t = some (.tup xs) → t ≠ p := fun t xs e z => by
  rw [z, upd_same] at e
  cases e
/-- a probe's parts, but the list of its watches -/
structure PbF (CB CM CP CK CW : Addr) (H : Hp) (p b : Addr) (A : Ad) (ts ls : List V) (st hd er wa wr dx dk dw fr hi co mi sd : Addr) (x : Bd) : Prop where
  hp : H p = some (.ins CP dx (prF b st wa fr hi co mi sd 0 .non))
  C : Bc CB CM H b A ts ls x
  hst : H st = some (.ins CK dk (mkF A.m hd er))
  hhd : H hd = some (.dK [])
  her : H er = some (.lst ((List.replicate 16 (0 : Int)).map V.int))
  hwa : H wa = some (.ins CW dw (wtF wr))
  fw : H wr = none
def Pb (CB CM CP CK CW : Addr) (H0 H : Hp) (p wr : Addr) (v0 v1 : V) (x : Bd) : Prop := ∃ Hf b A ts ls st hd er wa dx dk dw fr hi co mi sd, PbF CB CM CP CK CW Hf p b A ts ls st hd er wa wr dx dk dw fr hi co mi sd x ∧ Same H0 Hf ∧ Same Hf H ∧ H wr = some (.lst [v0, v1])
def spPrI (CB CM CP CK CW : Addr) : Sp := fun vs H Q _ => ∃ (H0 : Hp) (p dx im ln : Addr) (us : List V) (ns : List Int) (ls : List (Int × Int)), vs = [.ref p, .ref im, .ref ln] ∧ Same H0 H ∧ H0 p = none ∧ H p = some (.ins CP dx []) ∧ H im = some (.lst (ns.map V.int)) ∧ ns.length ≤ 512 ∧ WordsOk ns ∧
  H ln = some (.lst us) ∧ TupsAt H us ls ∧ riseM 0 ls ∧ ∀ H' wr, Pb CB CM CP CK CW H0 H' p wr .non .non (newBd ns ls) → Q .non H'
theorem made_same {H H' : Hp} {q d C : Addr} (nq : H q = none) (nd : H d = none) (k : ∀ b o, b ≠ q → upd (upd H d (.own q)) q (.ins C d []) b = some o → H' b = some o) : Same H H' := fun b o e => by
  have n1 := ne_of_none e nq
  refine k b o n1 ?_
  rw [upd_ne n1, upd_ne (ne_of_none e nd)]
  exact e
abbrev sCprb : Stmt := inClass (topS 97) 0
def scCprbN : List Str := ["self", "image", "line"]
theorem scCprb : FnScope scCprbN ["self", "image", "line"] (defScope sCprb) := ⟨rfl, rfl, rfl, by decide +kernel, rfl, by decide +kernel, by decide +kernel⟩
theorem ok_Cprb {f : Addr} {fd : FuncData} {fC_board : Addr} {dC_board : FuncData} {fC_cou : Addr} {dC_cou : FuncData} {fC_fra : Addr} {dC_fra : FuncData} {fC_his : Addr} {dC_his : FuncData} {fC_mar : Addr} {dC_mar : FuncData} {fC_mis : Addr} {dC_mis : FuncData} {fC_sta : Addr} {dC_sta : FuncData} {fC_wat : Addr} {dC_wat : FuncData} (F : Fun K "__init__" "Probe.__init__" sCprb f fd) (T : Ty K mg CB CM CP CK CW CF CH CC CI CS)
    (C_board : CalC P w K mg base CB 6 "Board" ["self", "image", "line"] (spBI CB CM) fC_board dC_board)
    (C_cou : CalC P w K mg base CC 1 "Counts" ["self"] (spMade CC) fC_cou dC_cou)
    (C_fra : CalC P w K mg base CF 1 "Frames" ["self"] (spMade CF) fC_fra dC_fra)
    (C_his : CalC P w K mg base CH 1 "History" ["self"] (spMade CH) fC_his dC_his)
    (C_mar : CalC P w K mg base CK 1 "Marks" ["self", "memory"] (spMkK CK) fC_mar dC_mar)
    (C_mis : CalC P w K mg base CI 1 "Mishaps" ["self"] (spMade CI) fC_mis dC_mis)
    (C_sta : CalC P w K mg base CS 1 "Stands" ["self"] (spMade CS) fC_sta dC_sta)
    (C_wat : CalC P w K mg base CW 1 "Watches" ["self"] (spMkW CW) fC_wat dC_wat) : FnOk P w K mg base CX0 8 f fd ["self", "image", "line"] (spPrI CB CM CP CK CW) := by
  refine F.ok scCprb (fun vs H Q E h => by obtain ⟨_, _, _, _, _, _, _, _, rfl, _⟩ := h; rfl) (fun cdv A outer s H vs Q E hr h => ?_)
  have hu := hu_of hr
  obtain ⟨H0, p, dx, im, ln, us, ns, ls, rfl, s0, f0, hp, him, hl, hw, hln, htu, hri, k⟩ := h
  refine ⟨_, (pss_cons (ps_fld (pv 0) (pe_make C_board.M C_board.I (hr.mono (by decide)) rfl C_board.g C_board.b .nil pass0 (pa_cons (pv 1) (pa_cons (pv 2) pa_nil))) rfl)
    (pss_cons (ps_fld (pv 0) (pe_make C_mar.M C_mar.I (hr.mono (by decide)) rfl C_mar.g C_mar.b .nil pass0 (pa_cons (pe_fld (pe_fld (pv 0) rfl) rfl) pa_nil)) rfl)
    (pss_cons (ps_fld (pv 0) (pe_make0 C_wat.M C_wat.I (hr.mono (by decide)) rfl C_wat.g C_wat.b .nil pass0) rfl)
    (pss_cons (ps_fld (pv 0) (pe_make0 C_fra.M C_fra.I (hr.mono (by decide)) rfl C_fra.g C_fra.b .nil pass0) rfl)
    (pss_cons (ps_fld (pv 0) (pe_make0 C_his.M C_his.I (hr.mono (by decide)) rfl C_his.g C_his.b .nil pass0) rfl)
    (pss_cons (ps_fld (pv 0) (pe_make0 C_cou.M C_cou.I (hr.mono (by decide)) rfl C_cou.g C_cou.b .nil pass0) rfl)
    (pss_cons (ps_fld (pv 0) (pe_make0 C_mis.M C_mis.I (hr.mono (by decide)) rfl C_mis.g C_mis.b .nil pass0) rfl)
    (pss_cons (ps_fld (pv 0) (pe_make0 C_sta.M C_sta.I (hr.mono (by decide)) rfl C_sta.g C_sta.b .nil pass0) rfl)
    (pss_cons (ps_fld (pv 0) pe_int rfl)
    (pss_one (ps_fld (pv 0) pe_non rfl))))))))))), ?_⟩
  have ne1 : im ≠ p := ne_of him hp (by intro q; cases q)
  have ne2 : ln ≠ p := ne_of hln hp (by intro q; cases q)
  obtain ⟨Hb, eH, sb, fb⟩ : ∃ Hb, H = upd Hb p (.ins CP dx []) ∧ Same H0 Hb ∧ Hb p = none := by
    refine ⟨fun b => if b = p then none else H b, ?_, ?_, if_pos rfl⟩
    · funext b
      by_cases h : b = p
      · subst h
        rw [upd_same]
        exact hp
      · rw [upd_ne h]
        exact (if_neg h).symm
    · intro b x e
      have h : b ≠ p := ne_of_none e f0
      show (if b = p then none else H b) = some x
      rw [if_neg h]
      exact s0 _ _ e
  subst eH
  refine ⟨_, rfl, _, rfl, ?_⟩
  intro b dxb nb ndx hdx
  have sq : Same (upd Hb p (.ins CP dx [])) (upd (upd (upd Hb p (.ins CP dx [])) dxb (.own b)) b (.ins CB dxb [])) := fun z o ez => by
    rw [upd_ne (ne_of_none ez nb), upd_ne (ne_of_none ez ndx)]
    exact ez
  refine ⟨upd Hb p (.ins CP dx []), b, dxb, im, ln, us, ns, ls, rfl, sq, nb, upd_same, sq _ _ him, hl, hw, sq _ _ hln, htu.mono (fun t xs e => sq _ _ e), hri, fun H1 R => ⟨rfl, ?_⟩⟩
  obtain ⟨A, ts, lsv, B⟩ := R
  have off : ∀ a, FtB b A a → a ≠ p := fun a h z => by
    have hpp : upd Hb p (.ins CP dx []) p = some (.ins CP dx []) := upd_same
    rcases h with y | y | y | y | y | y | y
    · exact ne_of_none hpp B.fp (z.symm.trans y)
    · exact ne_of_none hpp B.fr (z.symm.trans y)
    · exact ne_of_none hpp B.fw (z.symm.trans y)
    · exact ne_of_none hpp B.ft (z.symm.trans y)
    · exact ne_of_none hpp B.fm (z.symm.trans y)
    · exact ne_of_none hpp B.fs (z.symm.trans y)
    · exact ne_of_none hpp B.fl (z.symm.trans y)
  have C1 := B.bc
  obtain ⟨Hb1, rfl, sb1, fb1⟩ := pull B.sm fb
  have C := C1.off off tup_off
  clear C1 B sq
  have sB := sb.trans sb1
  refine ⟨_, rfl, p, CP, dx, _, rfl, upd_same, T.cP, T.nP_board, (by show 0 < 1000; decide), ?_⟩
  rw [upd_upd]
  obtain ⟨svb, tvb, dvb, hpb, hzb⟩ := C.hp
  have nbp : b ≠ p := off b (.inl rfl)
  refine ⟨_, rfl, p, CP, dx, _, _, rfl, upd_same, T.cP, T.nP_board, (by kernel_rfl), b, CB, A.dx, _, _, rfl, (by rw [upd_ne nbp]; exact hpb), T.cB, T.n_memory, bF_mem, ?_⟩
  intro st dk n1 n2 n3
  refine ⟨st, dk, A.m, rfl, upd_same, fun H2 hd er kp nhd ner hhd her hst => ⟨rfl, ?_⟩⟩
  have s2 : Same (upd Hb1 p (.ins CP dx (putF "board" (.ref b) ([])))) H2 := made_same n1 n2 kp
  have fst := n1
  have nep : ∀ a o, (upd Hb1 p (.ins CP dx (putF "board" (.ref b) ([])))) a = none → H2 a = some o → a ≠ p := fun a o e _ z => by rw [z, upd_same] at e; cases e
  have old2 : ∀ a, upd (upd (upd Hb1 p (.ins CP dx (putF "board" (.ref b) ([])))) dk (.own st)) st (.ins CK dk []) a = none → (upd Hb1 p (.ins CP dx (putF "board" (.ref b) ([])))) a = none := fun a e => by
    have z1 : a ≠ st := fun z => by rw [z, upd_same] at e; cases e
    rw [upd_ne z1] at e
    have z2 : a ≠ dk := fun z => by rw [z, upd_same] at e; cases e
    rwa [upd_ne z2] at e
  have phd := nep _ _ (old2 _ nhd) hhd
  have per := nep _ _ (old2 _ ner) her
  have pst := nep _ _ n1 hst
  obtain ⟨Hb2, rfl, sb2, fb2⟩ := pull s2 fb1
  rw [upd_ne phd] at hhd
  rw [upd_ne per] at her
  rw [upd_ne pst] at hst
  have C := C.same sb2
  clear s2 kp nep old2 nhd ner n1 n2 n3
  refine ⟨_, rfl, p, CP, dx, _, rfl, upd_same, T.cP, T.nP_standing, (by show 1 < 1000; decide), ?_⟩
  rw [upd_upd]
  intro wa dw n1 n2 n3
  refine ⟨wa, dw, rfl, upd_same, fun H3 wr kp nwr hwr hwa => ⟨rfl, ?_⟩⟩
  have s3 : Same (upd Hb2 p (.ins CP dx (putF "standing" (.ref st) (putF "board" (.ref b) ([]))))) H3 := made_same n1 n2 kp
  have nwr0 : (upd Hb2 p (.ins CP dx (putF "standing" (.ref st) (putF "board" (.ref b) ([]))))) wr = none := by
    have z1 : wr ≠ wa := fun z => by rw [z, upd_same] at nwr; cases nwr
    rw [upd_ne z1] at nwr
    have z2 : wr ≠ dw := fun z => by rw [z, upd_same] at nwr; cases nwr
    rwa [upd_ne z2] at nwr
  have pwr : wr ≠ p := fun z => by rw [z, upd_same] at nwr0; cases nwr0
  rw [upd_ne pwr] at nwr0
  have pwa : wa ≠ p := fun z => by rw [z, upd_same] at n1; cases n1
  obtain ⟨Hb3, rfl, sb3, fb3⟩ := pull s3 fb2
  rw [upd_ne pwr] at hwr
  rw [upd_ne pwa] at hwa
  have nwaw : wa ≠ wr := ne_of hwa hwr (by intro z; cases z)
  -- all that stands but wr
  have core : ∀ Hz : Hp, Same Hb3 Hz → Hz p = none → ∀ fr hi co mi sd : Addr, Pb CB CM CP CK CW H0 (upd Hz p (.ins CP dx (prF b st wa fr hi co mi sd 0 .non))) p wr .non .non (newBd ns ls) := fun Hz sz fz fr hi co mi sd => by
    have kz : ∀ a o, Hb2 a = some o → (fun q => if q = wr then none else upd Hz p (.ins CP dx (prF b st wa fr hi co mi sd 0 .non)) q : Hp) a = some o := fun a o e => by
      have z1 : a ≠ wr := ne_of_none e nwr0
      have z2 : a ≠ p := ne_of_none e fb2
      show (if a = wr then none else upd Hz p (.ins CP dx (prF b st wa fr hi co mi sd 0 .non)) a) = _
      rw [if_neg z1, upd_ne z2]
      exact sz _ _ (sb3 _ _ e)
    refine ⟨fun q => if q = wr then none else upd Hz p (.ins CP dx (prF b st wa fr hi co mi sd 0 .non)) q, b, A, ts, lsv, st, hd, er, wa, dx, dk, dw, fr, hi, co, mi, sd, {
      hp := by show (if p = wr then none else _) = _; rw [if_neg pwr.symm, upd_same]
      C := C.same kz
      hst := kz _ _ hst
      hhd := kz _ _ hhd
      her := kz _ _ her
      hwa := by show (if wa = wr then none else _) = _; rw [if_neg nwaw, upd_ne pwa]; exact sz _ _ hwa
      fw := if_pos rfl }, fun a o e => kz a o ((sB.trans sb2) _ _ e), fun a o e => ?_, ?_⟩
    · by_cases z : a = wr
      · have e' : (if a = wr then none else _) = some o := e
        rw [if_pos z] at e'; cases e'
      · have e' : (if a = wr then none else upd Hz p (.ins CP dx (prF b st wa fr hi co mi sd 0 .non)) a) = some o := e
        rwa [if_neg z] at e'
    · rw [upd_ne pwr]
      exact sz _ _ hwr
  clear kp s3 hst hhd her hwa hwr C n1 n2 n3 hpb hzb
  refine ⟨_, rfl, p, CP, dx, _, rfl, upd_same, T.cP, T.nP_watching, (by show 2 < 1000; decide), ?_⟩
  rw [upd_upd]
  have sz3 : Same Hb3 Hb3 := fun _ _ e => e
  intro fr dfr n1 n2 n3
  refine ⟨fr, dfr, rfl, upd_same, fun H4 kp => ⟨rfl, ?_⟩⟩
  have s4 : Same (upd Hb3 p (.ins CP dx (putF "watching" (.ref wa) (putF "standing" (.ref st) (putF "board" (.ref b) ([])))))) H4 := made_same n1 n2 kp
  obtain ⟨Hb4, rfl, sb4, fb4⟩ := pull s4 fb3
  have sz4 := sz3.trans sb4
  clear kp s4 n1 n2 n3
  refine ⟨_, rfl, p, CP, dx, _, rfl, upd_same, T.cP, T.nP_frames, (by show 3 < 1000; decide), ?_⟩
  rw [upd_upd]
  intro hi dhi n1 n2 n3
  refine ⟨hi, dhi, rfl, upd_same, fun H5 kp => ⟨rfl, ?_⟩⟩
  have s5 : Same (upd Hb4 p (.ins CP dx (putF "frames" (.ref fr) (putF "watching" (.ref wa) (putF "standing" (.ref st) (putF "board" (.ref b) ([]))))))) H5 := made_same n1 n2 kp
  obtain ⟨Hb5, rfl, sb5, fb5⟩ := pull s5 fb4
  have sz5 := sz4.trans sb5
  clear kp s5 n1 n2 n3
  refine ⟨_, rfl, p, CP, dx, _, rfl, upd_same, T.cP, T.nP_history, (by show 4 < 1000; decide), ?_⟩
  rw [upd_upd]
  intro co dco n1 n2 n3
  refine ⟨co, dco, rfl, upd_same, fun H6 kp => ⟨rfl, ?_⟩⟩
  have s6 : Same (upd Hb5 p (.ins CP dx (putF "history" (.ref hi) (putF "frames" (.ref fr) (putF "watching" (.ref wa) (putF "standing" (.ref st) (putF "board" (.ref b) ([])))))))) H6 := made_same n1 n2 kp
  obtain ⟨Hb6, rfl, sb6, fb6⟩ := pull s6 fb5
  have sz6 := sz5.trans sb6
  clear kp s6 n1 n2 n3
  refine ⟨_, rfl, p, CP, dx, _, rfl, upd_same, T.cP, T.nP_counts, (by show 5 < 1000; decide), ?_⟩
  rw [upd_upd]
  intro mi dmi n1 n2 n3
  refine ⟨mi, dmi, rfl, upd_same, fun H7 kp => ⟨rfl, ?_⟩⟩
  have s7 : Same (upd Hb6 p (.ins CP dx (putF "counts" (.ref co) (putF "history" (.ref hi) (putF "frames" (.ref fr) (putF "watching" (.ref wa) (putF "standing" (.ref st) (putF "board" (.ref b) ([]))))))))) H7 := made_same n1 n2 kp
  obtain ⟨Hb7, rfl, sb7, fb7⟩ := pull s7 fb6
  have sz7 := sz6.trans sb7
  clear kp s7 n1 n2 n3
  refine ⟨_, rfl, p, CP, dx, _, rfl, upd_same, T.cP, T.nP_mishaps, (by show 6 < 1000; decide), ?_⟩
  rw [upd_upd]
  intro sd dsd n1 n2 n3
  refine ⟨sd, dsd, rfl, upd_same, fun H8 kp => ⟨rfl, ?_⟩⟩
  have s8 : Same (upd Hb7 p (.ins CP dx (putF "mishaps" (.ref mi) (putF "counts" (.ref co) (putF "history" (.ref hi) (putF "frames" (.ref fr) (putF "watching" (.ref wa) (putF "standing" (.ref st) (putF "board" (.ref b) ([])))))))))) H8 := made_same n1 n2 kp
  obtain ⟨Hb8, rfl, sb8, fb8⟩ := pull s8 fb7
  have sz8 := sz7.trans sb8
  clear kp s8 n1 n2 n3
  refine ⟨_, rfl, p, CP, dx, _, rfl, upd_same, T.cP, T.nP_stands, (by show 7 < 1000; decide), ?_⟩
  rw [upd_upd]
  refine ⟨_, rfl, p, CP, dx, _, rfl, upd_same, T.cP, T.nP_turns_gone, (by show 8 < 1000; decide), ?_⟩
  rw [upd_upd]
  refine ⟨_, rfl, p, CP, dx, _, rfl, upd_same, T.cP, T.nP_course, (by show 9 < 1000; decide), ?_⟩
  rw [upd_upd]
  have ef : putF "course" V.non (putF "turns_gone" (.int 0) (putF "stands" (.ref sd) (putF "mishaps" (.ref mi) (putF "counts" (.ref co) (putF "history" (.ref hi) (putF "frames" (.ref fr) (putF "watching" (.ref wa) (putF "standing" (.ref st) (putF "board" (.ref b) ([])))))))))) = prF b st wa fr hi co mi sd 0 .non := by kernel_rfl
  rw [ef]
  exact k _ wr (core Hb8 sz8 fb8 fr hi co mi sd)
end
end Bh

/-! Watches are set; a probe is asked. -/
namespace Bh
open PySem PySem.Spec PyProof.Rows L2
def kdN : List Str := ["r", "w", "rw"]
def rgN : List Str := ["a", "b", "pc", "sp"]
/-- the classes of error, and what else the top has -/
structure Te (K : PySem.W.Frag) (mg : Str → Option Value) (CN CL : Addr) : Prop where
  gN : mg "NoWord" = some (.ref CN)
  kN : PySem.W.keepIn K (.ref CN) = true
  xN : PySem.W.excIn K CN [.type "ValueError", .type "Exception", .type "BaseException", .type "object"] "ValueError.__new__" = true
  bN : PySem.W.subIn K (.ref CN) (.type "BaseException") = some true
  tN : PySem.W.typeIn K (.ref CN) = some (.type "type")
  gL : mg "NoMark" = some (.ref CL)
  kL : PySem.W.keepIn K (.ref CL) = true
  xL : PySem.W.excIn K CL [.type "ValueError", .type "Exception", .type "BaseException", .type "object"] "ValueError.__new__" = true
  bL : PySem.W.subIn K (.ref CL) (.type "BaseException") = some true
  tL : PySem.W.typeIn K (.ref CL) = some (.type "type")
  g_KINDS : ∃ a, mg "KINDS" = some (.ref a) ∧ ∀ H, SqT K H a (kdN.map V.str)
  g_REGISTERS : ∃ a, mg "REGISTERS" = some (.ref a) ∧ ∀ H, SqT K H a (rgN.map V.str)
section
variable (P : Program) (w : World) (K : PySem.W.Frag) (mg : Str → Option Value) (base : Heap)
structure CalX (C : Addr) (k : Nat) (nm : Str) (ps : List Str) (sp : Sp) (f : Addr) (fd : FuncData) : Prop where
  c : Cls K C
  m : Meth K C nm f
  b : Binds K fd ps []
  G : FnOk P w K mg base (L2.CX P w) k f fd ps sp
end
def spChk (CW CN : Addr) : Sp := fun vs H Q E => ∃ (wa : Addr) (n : Int), vs = [.ref wa, .int n] ∧ (0 ≤ n ∧ n ≤ 1 → Q .non H) ∧ (¬ (0 ≤ n ∧ n ≤ 1) → E (.ref CN) none H)

/-- what a window is -/
def WinAt (H : Hp) : V → Option (Int × Int × Str) → Prop
  | v, none => v = .non
  | v, some u => ∃ t, v = .ref t ∧ H t = some (.tup [.int u.1, .int u.2.1, .str u.2.2])
theorem WinAt.mono {H H' : Hp} (k : ∀ t xs, H t = some (.tup xs) → H' t = some (.tup xs)) {v : V} : ∀ {u : Option (Int × Int × Str)}, WinAt H v u → WinAt H' v u
  | none, h => h
  | some _, ⟨t, e, q⟩ => ⟨t, e, k _ _ q⟩
def LayOk (n lo hi : Int) (kd : Str) : Prop := (0 ≤ n ∧ n ≤ 1) ∧ (0 ≤ hi ∧ hi ≤ 773) ∧ (0 ≤ lo ∧ lo ≤ hi) ∧ kd ∈ kdN
instance (n lo hi : Int) (kd : Str) : Decidable (LayOk n lo hi kd) := by unfold LayOk; infer_instance
def setW (n : Int) (v v0 v1 : V) : List V := if n = 0 then [v, v1] else [v0, v]
theorem setW_set {n : Int} (h : 0 ≤ n ∧ n ≤ 1) (v v0 v1 : V) : [v0, v1].set n.toNat v = setW n v v0 v1 := by
  unfold setW
  by_cases e : n = 0
  · rw [if_pos e, e]; rfl
  · rw [if_neg e, show n = 1 by omega]; rfl
def spLayW (CW CN : Addr) : Sp := fun vs H Q E => ∃ (wa dw wr : Addr) (v0 v1 : V) (n lo hi : Int) (kd : Str), vs = [.ref wa, .int n, .int lo, .int hi, .str kd] ∧ H wa = some (.ins CW dw (wtF wr)) ∧ H wr = some (.lst [v0, v1]) ∧
  (LayOk n lo hi kd → ∀ t, H t = none → Q .non (upd (upd H t (.tup [.int lo, .int hi, .str kd])) wr (.lst (setW n (.ref t) v0 v1)))) ∧ (¬ LayOk n lo hi kd → E (.ref CN) none H)
def spLiftW (CW CN CL : Addr) : Sp := fun vs H Q E => ∃ (wa dw wr : Addr) (v0 v1 : V) (n : Int), vs = [.ref wa, .int n] ∧ H wa = some (.ins CW dw (wtF wr)) ∧ H wr = some (.lst [v0, v1]) ∧
  (0 ≤ n ∧ n ≤ 1 → (if n = 0 then v0 else v1) ≠ .non → Q .non (upd H wr (.lst (setW n .non v0 v1)))) ∧ (0 ≤ n ∧ n ≤ 1 → (if n = 0 then v0 else v1) = .non → E (.ref CL) none H) ∧ (¬ (0 ≤ n ∧ n ≤ 1) → E (.ref CN) none H)
section
variable {P : Program} {w : World} {K : PySem.W.Frag} {mg : Str → Option Value} {base : Heap} {CB CM CP CK CW CF CH CC CI CS CN CL : Addr}
abbrev sMchk : Stmt := inClass (topS 93) 4
def scMchkN : List Str := ["self", "number"]
theorem scMchk : FnScope scMchkN ["self", "number"] (defScope sMchk) := ⟨rfl, rfl, rfl, by decide +kernel, rfl, by decide +kernel, by decide +kernel⟩
theorem ok_Mchk {f : Addr} {fd : FuncData} {fF_betw : Addr} {dF_betw : FuncData} (F : Fun K "check_number" "Watches.check_number" sMchk f fd) (T : Ty K mg CB CM CP CK CW CF CH CC CI CS)
    (F_betw : CalF P w K mg base 2 "is_between" ["thing", "least", "greatest"] (spBetw) fF_betw dF_betw)
    (TE : Te K mg CN CL) : FnOk P w K mg base (L2.CX P w) 3 f fd ["self", "number"] (spChk CW CN) := by
  refine F.okX scMchk (fun vs H Q E h => by obtain ⟨_, _, rfl, _⟩ := h; rfl) (fun cdv A outer s H vs Q E hr h => ?_)
  have hu := hu_of hr
  obtain ⟨t_WATCHES, g_WATCHES⟩ := T.g_WATCHES
  obtain ⟨wa, n, rfl, q, qe⟩ := h
  refine ⟨_, (pss_one (ps_if (pt_not (pt_val (pe_call F_betw.G (hr.mono (by decide)) (by rfl) F_betw.g F_betw.kp F_betw.b .nil pass0 (pa_cons (pv 1) (pa_cons pe_int (pa_cons (pe_op op_sub (pgI g_WATCHES) pe_int) pa_nil)))))) (pss_one (ps_raise rfl (takes_of rfl rfl rfl rfl) (pmk_own PySem.F.excBase_ValueError TE.xN TE.gN TE.kN (raises_own TE.bN TE.tN) (by exact rfl)))) pss_nil)), ?_⟩
  refine ⟨_, rfl, _, _, rfl, rfl, _, _, _, rfl, ?_⟩
  refine ⟨_, rfl, ifN (fun h => ?_) (fun h => ?_)⟩
  · exact qe (of_decide_eq_false h)
  · exact q (of_decide_eq_true h)
def w0 (n : Int) (v v0 : V) : V := if n = 0 then v else v0
def w1 (n : Int) (v v1 : V) : V := if n = 0 then v1 else v
theorem setW_eq (n : Int) (v v0 v1 : V) : setW n v v0 v1 = [w0 n v v0, w1 n v v1] := by
  unfold setW w0 w1
  split <;> rfl
theorem at2 {n : Int} (h : 0 ≤ n ∧ n ≤ 1) (v0 v1 : V) : atI [v0, v1] n = some (if n = 0 then v0 else v1) := by
  by_cases e : n = 0
  · rw [if_pos e, e]; rfl
  · rw [if_neg e, show n = 1 by omega]; rfl
abbrev sMlay : Stmt := inClass (topS 93) 2
def scMlayN : List Str := ["self", "number", "low", "high", "kind"]
theorem scMlay : FnScope scMlayN ["self", "number", "low", "high", "kind"] (defScope sMlay) := ⟨rfl, rfl, rfl, by decide +kernel, rfl, by decide +kernel, by decide +kernel⟩
theorem ok_Mlay {f : Addr} {fd : FuncData} {fF_betw : Addr} {dF_betw : FuncData} {fM_chk : Addr} {dM_chk : FuncData} (F : Fun K "lay" "Watches.lay" sMlay f fd) (T : Ty K mg CB CM CP CK CW CF CH CC CI CS)
    (F_betw : CalF P w K mg base 2 "is_between" ["thing", "least", "greatest"] (spBetw) fF_betw dF_betw)
    (M_chk : CalX P w K mg base CW 3 "check_number" ["self", "number"] (spChk CW CN) fM_chk dM_chk)
    (TE : Te K mg CN CL)
    (z_str : mg "str" = none) : FnOk P w K mg base (L2.CX P w) 4 f fd ["self", "number", "low", "high", "kind"] (spLayW CW CN) := by
  refine F.okX scMlay (fun vs H Q E h => by obtain ⟨_, _, _, _, _, _, _, _, _, rfl, _⟩ := h; rfl) (fun cdv A outer s H vs Q E hr h => ?_)
  have hu := hu_of hr
  obtain ⟨t_PLACES_END, g_PLACES_END⟩ := T.g_PLACES_END
  have z_isinstance := T.z_isinstance
  obtain ⟨t_KINDS, g_KINDS, hK_KINDS⟩ := TE.g_KINDS
  obtain ⟨wa, dw, wr, v0, v1, n, lo, hi, kd, rfl, hwa, hwr, q, qe⟩ := h
  refine ⟨_, (pss_cons (ps_expr (pe_meth (pv 0) M_chk.c M_chk.m M_chk.G (hr.mono (by decide)) M_chk.b .nil (E := E) (passes_call (W := fun cls d _ H => E cls d H) (takes_of rfl rfl rfl rfl) (fun _ _ _ _ h => h)) (pa_cons (pv 1) pa_nil)))
    (pss_cons (ps_if (PW.pt (pw_or (pt_not (pt_val (pe_call F_betw.G (hr.mono (by decide)) (by rfl) F_betw.g F_betw.kp F_betw.b .nil pass0 (pa_cons (pv 3) (pa_cons pe_int (pa_cons (pe_op op_sub (pgI g_PLACES_END) pe_int) pa_nil)))))) (pw_or1 (pt_not (pt_val (pe_call F_betw.G (hr.mono (by decide)) (by rfl) F_betw.g F_betw.kp F_betw.b .nil pass0 (pa_cons (pv 2) (pa_cons pe_int (pa_cons (pv 3) pa_nil))))))))) (pss_one (ps_raise rfl (takes_of rfl rfl rfl rfl) (pmk_own PySem.F.excBase_ValueError TE.xN TE.gN TE.kN (raises_own TE.bN TE.tN) (by exact rfl)))) pss_nil)
    (pss_cons (ps_if (PW.pt (pw_or (pt_not (pt_val (pe_callB call_isi (by rfl) z_isinstance (by decide +kernel) (pa_cons (pv 4) (pa_cons (pe_bltn (v := .ty "str") (u := .type "str") (by rfl) z_str (by decide +kernel) rfl) pa_nil))))) (pw_or1 (pt_cmpR op_notIn_seq (pv 4) (pgR g_KINDS) (by rfl))))) (pss_one (ps_raise rfl (takes_of rfl rfl rfl rfl) (pmk_own PySem.F.excBase_ValueError TE.xN TE.gN TE.kN (raises_own TE.bN TE.tN) (by exact rfl)))) pss_nil)
    (pss_one (ps_asg (pe_tup (pa_cons (pv 2) (pa_cons (pv 3) (pa_cons (pv 4) pa_nil)))) (pg_sub (pe_fld (pv 0) rfl) (pv 1) set_list)))))), ?_⟩
  refine ⟨_, rfl, wa, dw, _, rfl, hwa, wN_check, _, rfl, wa, n, rfl, fun h1 => ?_, fun h1 => qe (fun z => h1 z.1)⟩
  refine ⟨_, rfl, _, _, rfl, rfl, _, _, _, rfl, ?_⟩
  refine ⟨_, rfl, ifN (fun h => qe (fun z => of_decide_eq_false h z.2.1)) (fun h2 => ?_)⟩
  refine ⟨_, rfl, _, rfl, _, _, _, rfl, ?_⟩
  refine ⟨_, rfl, ifN (fun h => qe (fun z => of_decide_eq_false h z.2.2.1)) (fun h3 => ?_)⟩
  have h2 := of_decide_eq_true h2
  have h3 := of_decide_eq_true h3
  refine ⟨_, rfl, .str kd, .ty "str", _, _, true, rfl, .ty "str", .base (.str kd), kit_ty (by decide +kernel), _, rfl, ifN (fun h => by cases h) (fun _ => ?_)⟩
  refine ⟨_, rfl, t_KINDS, _, rfl, .inr (hK_KINDS _), rfl, rfl, _, rfl, ?_⟩
  rw [show (if true = true then !inV (V.str kd) (kdN.map V.str) else inV (V.str kd) (kdN.map V.str)) = !inV (V.str kd) (kdN.map V.str) from rfl, in_strs]
  refine ifN (fun h => qe (fun z => of_decide_eq_false h z.2.2.2)) (fun h4 => ?_)
  have h4 := of_decide_eq_true h4
  refine ⟨_, rfl, _, rfl, _, rfl, (by show 3 ≤ sizeLine; decide), fun t nt => ?_⟩
  have st := same_upd' (o := .tup [V.int lo, V.int hi, V.str kd]) nt
  refine ⟨_, rfl, wa, CW, dw, _, _, rfl, st _ _ hwa, T.cW, T.nW_rows, wF_rows, _, rfl, wr, _, _, _, rfl, rfl, st _ _ hwr, ixN_in h1.1 (by show n < 2; omega), ?_⟩
  rw [setW_set h1]
  exact q ⟨h1, ⟨h2.1, by omega⟩, h3, h4⟩ t nt
abbrev sMlift : Stmt := inClass (topS 93) 3
def scMliftN : List Str := ["self", "number"]
theorem scMlift : FnScope scMliftN ["self", "number"] (defScope sMlift) := ⟨rfl, rfl, rfl, by decide +kernel, rfl, by decide +kernel, by decide +kernel⟩
theorem ok_Mlift {f : Addr} {fd : FuncData} {fM_chk : Addr} {dM_chk : FuncData} (F : Fun K "lift" "Watches.lift" sMlift f fd) (T : Ty K mg CB CM CP CK CW CF CH CC CI CS)
    (M_chk : CalX P w K mg base CW 3 "check_number" ["self", "number"] (spChk CW CN) fM_chk dM_chk)
    (TE : Te K mg CN CL) : FnOk P w K mg base (L2.CX P w) 4 f fd ["self", "number"] (spLiftW CW CN CL) := by
  refine F.okX scMlift (fun vs H Q E h => by obtain ⟨_, _, _, _, _, _, rfl, _⟩ := h; rfl) (fun cdv A outer s H vs Q E hr h => ?_)
  have hu := hu_of hr
  obtain ⟨wa, dw, wr, v0, v1, n, rfl, hwa, hwr, q, ql, qe⟩ := h
  refine ⟨_, (pss_cons (ps_expr (pe_meth (pv 0) M_chk.c M_chk.m M_chk.G (hr.mono (by decide)) M_chk.b .nil (E := E) (passes_call (W := fun cls d _ H => E cls d H) (takes_of rfl rfl rfl rfl) (fun _ _ _ _ h => h)) (pa_cons (pv 1) pa_nil)))
    (pss_cons (ps_if (pt_cmp (pc_isN (pe_ix ix_list (pe_fld (pv 0) rfl) (pv 1) (fun _ _ => rfl)))) (pss_one (ps_raise rfl (takes_of rfl rfl rfl rfl) (pmk_own PySem.F.excBase_ValueError TE.xL TE.gL TE.kL (raises_own TE.bL TE.tL) (by exact rfl)))) pss_nil)
    (pss_one (ps_asg pe_non (pg_sub (pe_fld (pv 0) rfl) (pv 1) set_list))))), ?_⟩
  refine ⟨_, rfl, wa, dw, _, rfl, hwa, wN_check, _, rfl, wa, n, rfl, fun h1 => ?_, fun h1 => qe h1⟩
  refine ⟨_, rfl, wa, CW, dw, _, _, rfl, hwa, T.cW, T.nW_rows, wF_rows, _, rfl, wr, _, _, _, rfl, rfl, SqL.of hwr, at2 h1 v0 v1, _, rfl, ifB (fun h => ql h1 (of_decide_eq_true h)) (fun h => ?_)⟩
  refine ⟨_, rfl, wa, CW, dw, _, _, rfl, hwa, T.cW, T.nW_rows, wF_rows, _, rfl, wr, _, _, _, rfl, rfl, hwr, ixN_in h1.1 (by show n < 2; omega), ?_⟩
  rw [setW_set h1]
  exact q h1 (of_decide_eq_false h)
end
end Bh

/-! A probe is asked. -/
namespace Bh
open PySem PySem.Spec PyProof.Rows L2
theorem upd_comm {H : Hp} {a b : Addr} {o o' : HO} (h : a ≠ b) : upd (upd H a o) b o' = upd (upd H b o') a o := by
  funext c
  by_cases e1 : c = a
  · subst e1
    rw [upd_same, upd_ne h, upd_same]
  · by_cases e2 : c = b
    · subst e2
      rw [upd_same, upd_ne e1, upd_same]
    · rw [upd_ne e2, upd_ne e1, upd_ne e1, upd_ne e2]
theorem unlock {H : Hp} {d D : Addr} {od : Obj} {u o : HO} (hd : H d = some u) (nD : upd H d (.frz od u) D = none) : upd (upd (upd H d (.frz od u)) D o) d u = upd H D o ∧ H D = none := by
  have n : D ≠ d := fun z => by rw [z, upd_same] at nD; cases nD
  rw [upd_ne n] at nD
  refine ⟨?_, nD⟩
  rw [upd_comm n, upd_upd, upd_id hd]
def spTold (CK CM : Addr) : Sp := fun vs H Q _ => ∃ (st dk m dm hd er ww s : Addr), vs = [.ref st] ∧ H st = some (.ins CK dk (mkF m hd er)) ∧ H hd = some (.dK []) ∧ H m = some (.ins CM dm (mmF ww s)) ∧ H s = some (.dK []) ∧ ∀ H' l, Same H H' → H l = none → H' l = some (.lst []) → Q (.ref l) H'
def regsL (x : Bd) : List (Str × V) := [("a", .int x.a), ("b", .int x.b), ("pc", .int x.pc), ("sp", .int x.sp), ("zero", .bl x.zero), ("lets", .bl x.lets), ("asleep", .bl x.asleep), ("beat", .int x.beat)]
section
variable (CB CM CP CK CW CN CL : Addr)
def spWatch : Sp := fun vs H Q E => ∃ (H0 : Hp) (p wr : Addr) (v0 v1 : V) (x : Bd) (n lo hi : Int) (kd : Str), vs = [.ref p, .int n, .int lo, .int hi, .str kd] ∧ Pb CB CM CP CK CW H0 H p wr v0 v1 x ∧
  (LayOk n lo hi kd → ∀ H' t, H t = none → H' t = some (.tup [.int lo, .int hi, .str kd]) → (∀ b o, b ≠ wr → H b = some o → H' b = some o) → Pb CB CM CP CK CW H0 H' p wr (w0 n (.ref t) v0) (w1 n (.ref t) v1) x → Q .non H') ∧ (¬ LayOk n lo hi kd → E (.ref CN) none H)
def spUnw : Sp := fun vs H Q E => ∃ (H0 : Hp) (p wr : Addr) (v0 v1 : V) (x : Bd) (n : Int), vs = [.ref p, .int n] ∧ Pb CB CM CP CK CW H0 H p wr v0 v1 x ∧
  (0 ≤ n ∧ n ≤ 1 → (if n = 0 then v0 else v1) ≠ .non → ∀ H', (∀ b o, b ≠ wr → H b = some o → H' b = some o) → Pb CB CM CP CK CW H0 H' p wr (w0 n .non v0) (w1 n .non v1) x → Q .non H') ∧ (0 ≤ n ∧ n ≤ 1 → (if n = 0 then v0 else v1) = .non → E (.ref CL) none H) ∧ (¬ (0 ≤ n ∧ n ≤ 1) → E (.ref CN) none H)
def spLook : Sp := fun vs H Q _ => ∃ (H0 : Hp) (p wr : Addr) (v0 v1 : V) (x : Bd), vs = [.ref p, .int 0, .int 774] ∧ Pb CB CM CP CK CW H0 H p wr v0 v1 x ∧ ∀ H' l, Same H H' → H l = none → H' l = some (.lst (x.mem.map V.int)) → Q (.ref l) H'
def spReg : Sp := fun vs H Q _ => ∃ (H0 : Hp) (p wr : Addr) (v0 v1 : V) (x : Bd) (nm : Str) (v : V), vs = [.ref p, .str nm] ∧ Pb CB CM CP CK CW H0 H p wr v0 v1 x ∧ (nm, v) ∈ regsL x ∧ Q v H
def spStp : Sp := fun vs H Q _ => ∃ (H0 : Hp) (p wr : Addr) (v0 v1 : V) (x : Bd), vs = [.ref p] ∧ Pb CB CM CP CK CW H0 H p wr v0 v1 x ∧ ∀ sv, StopAt H sv x.stop → Q sv H
def spOut : Sp := fun vs H Q _ => ∃ (H0 : Hp) (p wr : Addr) (v0 v1 : V) (x : Bd), vs = [.ref p] ∧ Pb CB CM CP CK CW H0 H p wr v0 v1 x ∧ ∀ H' l us, Same H H' → H l = none → H' l = some (.lst us) → TupsAt H' us x.sent → Q (.ref l) H'
def spTurns : Sp := fun vs H Q _ => ∃ (H0 : Hp) (p wr : Addr) (v0 v1 : V) (x : Bd), vs = [.ref p] ∧ Pb CB CM CP CK CW H0 H p wr v0 v1 x ∧ Q (.int 0) H
def spLst (xs : V → V → List V) : Sp := fun vs H Q _ => ∃ (H0 : Hp) (p wr : Addr) (v0 v1 : V) (x : Bd), vs = [.ref p] ∧ Pb CB CM CP CK CW H0 H p wr v0 v1 x ∧ ∀ H' l, Same H H' → H l = none → H' l = some (.lst (xs v0 v1)) → Q (.ref l) H'
end
section
variable {P : Program} {w : World} {K : PySem.W.Frag} {mg : Str → Option Value} {base : Heap} {CB CM CP CK CW CF CH CC CI CS CN CL : Addr}
abbrev sMtold : Stmt := inClass (topS 81) 7
def scMtoldN : List Str := ["self", "hard", "address"]
theorem scMtold : FnScope scMtoldN ["self"] (defScope sMtold) := ⟨rfl, rfl, rfl, by decide +kernel, rfl, by decide +kernel, by decide +kernel⟩
theorem ok_Mtold {f : Addr} {fd : FuncData} (F : Fun K "told" "Marks.told" sMtold f fd) (T : Ty K mg CB CM CP CK CW CF CH CC CI CS)
    (z_sorted : mg "sorted" = none) : FnOk P w K mg base CX0 1 f fd ["self"] (spTold CK CM) := by
  refine F.ok scMtold (fun vs H Q E h => by obtain ⟨_, _, _, _, _, _, _, _, rfl, _⟩ := h; rfl) (fun cdv A outer s H vs Q E hr h => ?_)
  have hu := hu_of hr
  obtain ⟨st, dk, m, dm, hd, er, ww, s_, rfl, hst, hhd, hm, hs, k⟩ := h
  refine ⟨_, (pss_cons (ps_lock (ps_setLc (i := 1) (own := [("address", 2)]) (g := gName 2) (tt := tYes) (by rfl) scMtold.nd rfl rfl rfl (pi_keys (pe_fld (pv 0) rfl)) (blkOk_by (own := [("address", 2)]) (N := scMtoldN) (sc := defScope sMtold) (by decide +kernel)) (fun _ _ _ _ _ => (pg_name (i := 2) scMtold.nd rfl (.inl rfl))) (fun _ _ _ _ _ => pts_nil) (fun _ _ _ _ _ => (pe_tup (pa_cons (pv 2) (pa_cons pe_str pa_nil))))))
    (pss_one (ps_ret (pe_callB cr_sorted (by rfl) z_sorted (by decide +kernel) (pa_cons (pe_op op_cat (pv 1) (pe_lock (pe_lc (own := [("address", 2)]) (g := gName 2) (tt := tYes) (by rfl) scMtold.nd (pi_keys (pe_fld (pe_fld (pv 0) rfl) rfl)) (blkOk_by (own := [("address", 2)]) (N := scMtoldN) (sc := defScope sMtold) (by decide +kernel)) (fun _ _ _ _ _ => (pg_name (i := 2) scMtold.nd rfl (.inl rfl))) (fun _ _ _ _ _ => pts_nil) (fun _ _ _ _ _ => (pe_tup (pa_cons (pv 2) (pa_cons pe_str pa_nil))))))) pa_nil))))), ?_⟩
  refine ⟨hd, .dK [], hhd, trivial, fun od => ?_⟩
  refine ⟨_, rfl, st, CK, dk, _, _, rfl, (by rw [upd_ne (ne_of hst hhd (by intro z; cases z))]; exact hst), T.cK, T.nK_hard, kF_hard, hd, od, rfl, .inl ⟨[], upd_same, fun D1 nD1 => ?_⟩⟩
  refine lc_it walk_keys (fun _ H' => H' = upd (upd H hd (.frz od (.dK []))) D1 (.lst [])) rfl (fun _ _ _ h => by rw [h, upd_ne (fun z => by rw [← z, upd_same] at nD1; cases nD1)]; exact upd_same) (fun i _ _ _ hi _ _ => absurd hi (Nat.not_lt_zero _)) ?_
  rintro _ rfl
  refine ⟨by rw [upd_ne (fun z => by rw [← z, upd_same] at nD1; cases nD1)]; exact upd_same, ?_⟩
  obtain ⟨eu, nn⟩ := unlock (o := .lst []) hhd nD1
  rw [eu]
  have s1 := same_upd' (o := .lst []) nn
  have h1 : upd H D1 (.lst []) D1 = some (.lst []) := upd_same
  generalize upd H D1 (.lst []) = G1 at *
  have hst := s1 _ _ hst
  have hm := s1 _ _ hm
  have hs := s1 _ _ hs
  refine ⟨_, rfl, ?_⟩
  refine ⟨s_, .dK [], hs, trivial, fun od2 => ?_⟩
  refine ⟨_, rfl, st, CK, dk, _, _, rfl, (by rw [upd_ne (ne_of hst hs (by intro z; cases z))]; exact hst), T.cK, T.nK_memory, kF_memory, m, CM, dm, _, _, rfl, (by rw [upd_ne (ne_of hm hs (by intro z; cases z))]; exact hm), T.cM, T.n_swapped, mF_s, s_, od2, rfl, .inl ⟨[], upd_same, fun D2 nD2 => ?_⟩⟩
  refine lc_it walk_keys (fun _ H' => H' = upd (upd G1 s_ (.frz od2 (.dK []))) D2 (.lst [])) rfl (fun _ _ _ h => by rw [h, upd_ne (fun z => by rw [← z, upd_same] at nD2; cases nD2)]; exact upd_same) (fun i _ _ _ hi _ _ => absurd hi (Nat.not_lt_zero _)) ?_
  rintro _ rfl
  refine ⟨by rw [upd_ne (fun z => by rw [← z, upd_same] at nD2; cases nD2)]; exact upd_same, ?_⟩
  obtain ⟨eu, nn⟩ := unlock (o := .lst []) hs nD2
  rw [eu]
  have s2 := same_upd' (o := .lst []) nn
  have h2 : upd G1 D2 (.lst []) D2 = some (.lst []) := upd_same
  generalize upd G1 D2 (.lst []) = G2 at *
  refine ⟨D1, D2, _, _, rfl, rfl, s2 _ _ h1, h2, (by decide), fun l3 n3 => ?_⟩
  have s3 := same_upd' (o := .lst ([] ++ [])) n3
  refine ⟨l3, [], rfl, SqL.of upd_same, by decide, fun ns' q perm _ nq => ?_⟩
  have en : ns' = [] := List.Perm.eq_nil perm
  subst en
  exact k _ q (((s1.trans s2).trans s3).trans (same_upd' nq)) (((s1.trans s2).trans s3).free nq) upd_same
abbrev sMstp : Stmt := inClass (topS 97) 4
def scMstpN : List Str := ["self"]
theorem scMstp : FnScope scMstpN ["self"] (defScope sMstp) := ⟨rfl, rfl, rfl, by decide +kernel, rfl, by decide +kernel, by decide +kernel⟩
theorem ok_Mstp {f : Addr} {fd : FuncData} (F : Fun K "stop_told" "Probe.stop_told" sMstp f fd) (T : Ty K mg CB CM CP CK CW CF CH CC CI CS) : FnOk P w K mg base CX0 1 f fd ["self"] (spStp CB CM CP CK CW) := by
  refine F.ok scMstp (fun vs H Q E h => by obtain ⟨_, _, _, _, _, _, rfl, _⟩ := h; rfl) (fun cdv A outer s H vs Q E hr h => ?_)
  have hu := hu_of hr
  obtain ⟨H0, p, wr, v0, v1, x, rfl, R, k⟩ := h
  obtain ⟨Hf, bd, A, ts, ls, st, hd, er, wa, dx, dk, dw, fr, hi_, co, mi, sd, F_, s0_, s1_, hw_⟩ := R
  have hp := s1_ _ _ F_.hp
  have C := F_.C.same s1_
  obtain ⟨sv, tv, dv, hpb, hz⟩ := C.hp
  have hst := s1_ _ _ F_.hst
  have hhd := s1_ _ _ F_.hhd
  have her := s1_ _ _ F_.her
  have hwa := s1_ _ _ F_.hwa
  refine ⟨_, (pss_one (ps_ret (pe_fld (pe_fld (pv 0) rfl) rfl))), ?_⟩
  exact ⟨_, rfl, p, CP, dx, _, _, rfl, hp, T.cP, T.nP_board, pF_board, bd, CB, A.dx, _, _, rfl, hpb, T.cB, T.n_stopped, bF_stop, k sv hz⟩
abbrev sMout : Stmt := inClass (topS 97) 5
def scMoutN : List Str := ["self"]
theorem scMout : FnScope scMoutN ["self"] (defScope sMout) := ⟨rfl, rfl, rfl, by decide +kernel, rfl, by decide +kernel, by decide +kernel⟩
theorem ok_Mout {f : Addr} {fd : FuncData} (F : Fun K "out" "Probe.out" sMout f fd) (T : Ty K mg CB CM CP CK CW CF CH CC CI CS) : FnOk P w K mg base CX0 1 f fd ["self"] (spOut CB CM CP CK CW) := by
  refine F.ok scMout (fun vs H Q E h => by obtain ⟨_, _, _, _, _, _, rfl, _⟩ := h; rfl) (fun cdv A outer s H vs Q E hr h => ?_)
  have hu := hu_of hr
  have z_list := T.z_list
  obtain ⟨H0, p, wr, v0, v1, x, rfl, R, k⟩ := h
  obtain ⟨Hf, bd, A, ts, ls, st, hd, er, wa, dx, dk, dw, fr, hi_, co, mi, sd, F_, s0_, s1_, hw_⟩ := R
  have hp := s1_ _ _ F_.hp
  have C := F_.C.same s1_
  obtain ⟨sv, tv, dv, hpb, hz⟩ := C.hp
  have hst := s1_ _ _ F_.hst
  have hhd := s1_ _ _ F_.hhd
  have her := s1_ _ _ F_.her
  have hwa := s1_ _ _ F_.hwa
  refine ⟨_, (pss_one (ps_ret (pe_callTy call_list_of (by rfl) z_list (by decide +kernel) (pa_cons (pe_fld (pe_fld (pv 0) rfl) rfl) pa_nil)))), ?_⟩
  exact ⟨_, rfl, p, CP, dx, _, _, rfl, hp, T.cP, T.nP_board, pF_board, bd, CB, A.dx, _, _, rfl, hpb, T.cB, T.n_sent, bF_sent, A.t, _, rfl, .inl (SqL.of C.ht), fun l nl => k _ l ts (same_upd' nl) nl upd_same (C.us.mono fun t xs e => same_upd' nl _ _ e)⟩
abbrev sMtns : Stmt := inClass (topS 97) 6
def scMtnsN : List Str := ["self"]
theorem scMtns : FnScope scMtnsN ["self"] (defScope sMtns) := ⟨rfl, rfl, rfl, by decide +kernel, rfl, by decide +kernel, by decide +kernel⟩
theorem ok_Mtns {f : Addr} {fd : FuncData} (F : Fun K "turns" "Probe.turns" sMtns f fd) (T : Ty K mg CB CM CP CK CW CF CH CC CI CS) : FnOk P w K mg base CX0 1 f fd ["self"] (spTurns CB CM CP CK CW) := by
  refine F.ok scMtns (fun vs H Q E h => by obtain ⟨_, _, _, _, _, _, rfl, _⟩ := h; rfl) (fun cdv A outer s H vs Q E hr h => ?_)
  have hu := hu_of hr
  obtain ⟨H0, p, wr, v0, v1, x, rfl, R, k⟩ := h
  obtain ⟨Hf, bd, A, ts, ls, st, hd, er, wa, dx, dk, dw, fr, hi_, co, mi, sd, F_, s0_, s1_, hw_⟩ := R
  have hp := s1_ _ _ F_.hp
  have C := F_.C.same s1_
  obtain ⟨sv, tv, dv, hpb, hz⟩ := C.hp
  have hst := s1_ _ _ F_.hst
  have hhd := s1_ _ _ F_.hhd
  have her := s1_ _ _ F_.her
  have hwa := s1_ _ _ F_.hwa
  refine ⟨_, (pss_one (ps_ret (pe_fld (pv 0) rfl))), ?_⟩
  exact ⟨_, rfl, p, CP, dx, _, _, rfl, hp, T.cP, T.nP_turns_gone, pF_turns_gone, k⟩
abbrev sMmks : Stmt := inClass (topS 97) 14
def scMmksN : List Str := ["self"]
theorem scMmks : FnScope scMmksN ["self"] (defScope sMmks) := ⟨rfl, rfl, rfl, by decide +kernel, rfl, by decide +kernel, by decide +kernel⟩
theorem ok_Mmks {f : Addr} {fd : FuncData} {fM_told : Addr} {dM_told : FuncData} (F : Fun K "marks" "Probe.marks" sMmks f fd) (T : Ty K mg CB CM CP CK CW CF CH CC CI CS)
    (M_told : CalM P w K mg base CK 1 "told" ["self"] (spTold CK CM) fM_told dM_told) : FnOk P w K mg base CX0 2 f fd ["self"] (spLst CB CM CP CK CW (fun _ _ => [])) := by
  refine F.ok scMmks (fun vs H Q E h => by obtain ⟨_, _, _, _, _, _, rfl, _⟩ := h; rfl) (fun cdv A outer s H vs Q E hr h => ?_)
  have hu := hu_of hr
  obtain ⟨H0, p, wr, v0, v1, x, rfl, R, k⟩ := h
  obtain ⟨Hf, bd, A, ts, ls, st, hd, er, wa, dx, dk, dw, fr, hi_, co, mi, sd, F_, s0_, s1_, hw_⟩ := R
  have hp := s1_ _ _ F_.hp
  have C := F_.C.same s1_
  obtain ⟨sv, tv, dv, hpb, hz⟩ := C.hp
  have hst := s1_ _ _ F_.hst
  have hhd := s1_ _ _ F_.hhd
  have her := s1_ _ _ F_.her
  have hwa := s1_ _ _ F_.hwa
  refine ⟨_, (pss_one (ps_ret (pe_meth0 (pe_fld (pv 0) rfl) M_told.c M_told.m M_told.G (hr.mono (by decide)) M_told.b .nil pass0))), ?_⟩
  exact ⟨_, rfl, p, CP, dx, _, _, rfl, hp, T.cP, T.nP_standing, pF_standing, st, dk, _, rfl, hst, kN_told, st, dk, A.m, A.dm, hd, er, A.w, A.s, rfl, hst, hhd, C.hm, C.hs, fun H' l s n e => k H' l s n e⟩
abbrev sMwer : Stmt := inClass (topS 97) 15
def scMwerN : List Str := ["self"]
theorem scMwer : FnScope scMwerN ["self"] (defScope sMwer) := ⟨rfl, rfl, rfl, by decide +kernel, rfl, by decide +kernel, by decide +kernel⟩
theorem ok_Mwer {f : Addr} {fd : FuncData} (F : Fun K "wear" "Probe.wear" sMwer f fd) (T : Ty K mg CB CM CP CK CW CF CH CC CI CS) : FnOk P w K mg base CX0 1 f fd ["self"] (spLst CB CM CP CK CW (fun _ _ => (List.replicate 16 (0 : Int)).map V.int)) := by
  refine F.ok scMwer (fun vs H Q E h => by obtain ⟨_, _, _, _, _, _, rfl, _⟩ := h; rfl) (fun cdv A outer s H vs Q E hr h => ?_)
  have hu := hu_of hr
  have z_list := T.z_list
  obtain ⟨H0, p, wr, v0, v1, x, rfl, R, k⟩ := h
  obtain ⟨Hf, bd, A, ts, ls, st, hd, er, wa, dx, dk, dw, fr, hi_, co, mi, sd, F_, s0_, s1_, hw_⟩ := R
  have hp := s1_ _ _ F_.hp
  have C := F_.C.same s1_
  obtain ⟨sv, tv, dv, hpb, hz⟩ := C.hp
  have hst := s1_ _ _ F_.hst
  have hhd := s1_ _ _ F_.hhd
  have her := s1_ _ _ F_.her
  have hwa := s1_ _ _ F_.hwa
  refine ⟨_, (pss_one (ps_ret (pe_callTy call_list_of (by rfl) z_list (by decide +kernel) (pa_cons (pe_fld (pe_fld (pv 0) rfl) rfl) pa_nil)))), ?_⟩
  exact ⟨_, rfl, p, CP, dx, _, _, rfl, hp, T.cP, T.nP_standing, pF_standing, st, CK, dk, _, _, rfl, hst, T.cK, T.nK_erased, kF_erased, er, _, rfl, .inl (SqL.of her), fun l nl => k _ l (same_upd' nl) nl upd_same⟩
abbrev sMwts : Stmt := inClass (topS 97) 18
def scMwtsN : List Str := ["self"]
theorem scMwts : FnScope scMwtsN ["self"] (defScope sMwts) := ⟨rfl, rfl, rfl, by decide +kernel, rfl, by decide +kernel, by decide +kernel⟩
theorem ok_Mwts {f : Addr} {fd : FuncData} (F : Fun K "watches" "Probe.watches" sMwts f fd) (T : Ty K mg CB CM CP CK CW CF CH CC CI CS) : FnOk P w K mg base CX0 1 f fd ["self"] (spLst CB CM CP CK CW (fun v0 v1 => [v0, v1])) := by
  refine F.ok scMwts (fun vs H Q E h => by obtain ⟨_, _, _, _, _, _, rfl, _⟩ := h; rfl) (fun cdv A outer s H vs Q E hr h => ?_)
  have hu := hu_of hr
  have z_list := T.z_list
  obtain ⟨H0, p, wr, v0, v1, x, rfl, R, k⟩ := h
  obtain ⟨Hf, bd, A, ts, ls, st, hd, er, wa, dx, dk, dw, fr, hi_, co, mi, sd, F_, s0_, s1_, hw_⟩ := R
  have hp := s1_ _ _ F_.hp
  have C := F_.C.same s1_
  obtain ⟨sv, tv, dv, hpb, hz⟩ := C.hp
  have hst := s1_ _ _ F_.hst
  have hhd := s1_ _ _ F_.hhd
  have her := s1_ _ _ F_.her
  have hwa := s1_ _ _ F_.hwa
  refine ⟨_, (pss_one (ps_ret (pe_callTy call_list_of (by rfl) z_list (by decide +kernel) (pa_cons (pe_fld (pe_fld (pv 0) rfl) rfl) pa_nil)))), ?_⟩
  exact ⟨_, rfl, p, CP, dx, _, _, rfl, hp, T.cP, T.nP_watching, pF_watching, wa, CW, dw, _, _, rfl, hwa, T.cW, T.nW_rows, wF_rows, wr, _, rfl, .inl (SqL.of hw_), fun l nl => k _ l (same_upd' nl) nl upd_same⟩
theorem map_rdA (m : List Int) (hl : m.length = 774) : (List.range 774).map (fun k : Nat => rd m (0 + (k : Int))) = m := by
  apply List.ext_getElem
  · rw [List.length_map, List.length_range, hl]
  · intro i h1 h2
    rw [List.getElem_map, List.getElem_range]
    unfold rd
    have e : (0 + (i : Int)).toNat = i := by omega
    rw [e, List.getD_eq_getElem?_getD, List.getElem?_eq_getElem h2, Option.getD_some]
abbrev sMlook : Stmt := inClass (topS 97) 2
def scMlookN : List Str := ["self", "address", "many", "at"]
theorem scMlook : FnScope scMlookN ["self", "address", "many"] (defScope sMlook) := ⟨rfl, rfl, rfl, by decide +kernel, rfl, by decide +kernel, by decide +kernel⟩
theorem ok_Mlook {f : Addr} {fd : FuncData} {fF_betw : Addr} {dF_betw : FuncData} {fM_at : Addr} {dM_at : FuncData} (F : Fun K "look" "Probe.look" sMlook f fd) (T : Ty K mg CB CM CP CK CW CF CH CC CI CS)
    (F_betw : CalF P w K mg base 2 "is_between" ["thing", "least", "greatest"] (spBetw) fF_betw dF_betw)
    (M_at : CalM P w K mg base CM 1 "word_at" ["self", "address"] (spMAt CM) fM_at dM_at) : FnOk P w K mg base CX0 3 f fd ["self", "address", "many"] (spLook CB CM CP CK CW) := by
  refine F.ok scMlook (fun vs H Q E h => by obtain ⟨_, _, _, _, _, _, rfl, _⟩ := h; rfl) (fun cdv A outer s H vs Q E hr h => ?_)
  have hu := hu_of hr
  obtain ⟨t_PLACES_END, g_PLACES_END⟩ := T.g_PLACES_END
  have z_range := T.z_range
  obtain ⟨H0, p, wr, v0, v1, x, rfl, R, k⟩ := h
  obtain ⟨Hf, bd, A, ts, ls, st, hd, er, wa, dx, dk, dw, fr, hi_, co, mi, sd, F_, s0_, s1_, hw_⟩ := R
  have hp := s1_ _ _ F_.hp
  have C := F_.C.same s1_
  obtain ⟨sv, tv, dv, hpb, hz⟩ := C.hp
  have hst := s1_ _ _ F_.hst
  have hhd := s1_ _ _ F_.hhd
  have her := s1_ _ _ F_.her
  have hwa := s1_ _ _ F_.hwa
  refine ⟨_, (pss_cons (ps_if (PW.pt (pw_or (pt_not (pt_val (pe_call F_betw.G (hr.mono (by decide)) (by rfl) F_betw.g F_betw.kp F_betw.b .nil pass0 (pa_cons (pv 1) (pa_cons pe_int (pa_cons (pe_op op_sub (pgI g_PLACES_END) pe_int) pa_nil)))))) (pw_or1 (pt_not (pt_val (pe_call F_betw.G (hr.mono (by decide)) (by rfl) F_betw.g F_betw.kp F_betw.b .nil pass0 (pa_cons (pv 2) (pa_cons pe_int (pa_cons (pe_op op_sub (pgI g_PLACES_END) (pv 1)) pa_nil))))))))) (pss_one ps_never) pss_nil)
    (pss_one (ps_ret (pe_lc (own := [("at", 3)]) (g := gName 3) (tt := tYes) (by rfl) scMlook.nd (pi_range2 (by rfl) z_range (pa_cons (pv 1) (pa_cons (pe_op op_add (pv 1) (pv 2)) pa_nil))) (blkOk_by (own := [("at", 3)]) (N := scMlookN) (sc := defScope sMlook) (by decide +kernel)) (fun _ _ _ _ _ => (pg_name (i := 3) scMlook.nd rfl (.inl rfl))) (fun _ _ _ _ _ => pts_nil) (fun _ _ _ _ _ => (pe_meth (pe_fldK (K := K) (by rfl) (pe_fldK (K := K) (by rfl) (pv 0) (by rfl)) (by rfl)) M_at.c M_at.m M_at.G (hr.mono (by decide)) M_at.b .nil pass0 (pa_cons (pv 3) pa_nil))))))), ?_⟩
  refine ⟨_, rfl, _, _, rfl, rfl, _, _, _, rfl, ?_⟩
  refine ⟨_, rfl, ifN (fun h => absurd (of_decide_eq_false h) (fun z => z (by decide))) (fun _ => ?_)⟩
  refine ⟨_, rfl, _, rfl, _, _, rfl, rfl, _, _, _, rfl, ?_⟩
  refine ⟨_, rfl, ifN (fun h => absurd (of_decide_eq_false h) (fun z => z (by decide))) (fun _ => ?_)⟩
  refine ⟨_, rfl, _, rfl, _, rfl, _, _, rfl, rfl, 0, 774, rfl, ⟨by decide, by decide, by decide, by decide⟩, fun D nD => ?_⟩
  refine lc_range (lo := 0) (n := ((774 : Int) - 0).toNat) (fun i H' => Same H H' ∧ H' D = some (.lst (((List.range i).map fun k : Nat => rd x.mem (0 + (k : Int))).map V.int))) ⟨same_upd' nD, upd_same⟩ ?_ ?_
  · rintro i H' hi ⟨sm, hD⟩
    have hi : i < 774 := hi
    have hp := sm _ _ hp
    have C := C.same sm
    obtain ⟨sv, tv, dv, hpb, hz⟩ := C.hp
    refine ⟨rfl, ?_⟩
    refine ⟨_, rfl, p, CP, dx, _, _, rfl, hp, T.cP, T.nP_board, pF_board, bd, CB, A.dx, _, _, rfl, hpb, T.cB, T.n_memory, bF_mem, A.m, A.dm, _, rfl, C.hm, mN_at, _, rfl, A.m, A.dm, A.w, A.s, x.mem, 0 + (i : Int), rfl, C.mem, by omega, by omega, ?_⟩
    refine ⟨_, hD, ?_, same_of sm nD, ?_⟩
    · rw [List.length_map, List.length_map, List.length_range]
      exact small1000 (by omega)
    · rw [upd_same, List.range_succ, List.map_append, List.map_append]
      rfl
  rintro G1 ⟨s1, hD⟩
  have e1 : (List.range ((774 : Int) - 0).toNat).map (fun k : Nat => rd x.mem (0 + (k : Int))) = x.mem := map_rdA x.mem C.lm
  rw [e1] at hD
  exact k _ D s1 nD hD
abbrev sMreg : Stmt := inClass (topS 97) 3
def scMregN : List Str := ["self", "name"]
theorem scMreg : FnScope scMregN ["self", "name"] (defScope sMreg) := ⟨rfl, rfl, rfl, by decide +kernel, rfl, by decide +kernel, by decide +kernel⟩
theorem ok_Mreg {f : Addr} {fd : FuncData} (F : Fun K "register_of" "Probe.register_of" sMreg f fd) (T : Ty K mg CB CM CP CK CW CF CH CC CI CS)
    (TE : Te K mg CN CL)
    (z_str : mg "str" = none) : FnOk P w K mg base CX0 1 f fd ["self", "name"] (spReg CB CM CP CK CW) := by
  refine F.ok scMreg (fun vs H Q E h => by obtain ⟨_, _, _, _, _, _, _, _, rfl, _⟩ := h; rfl) (fun cdv A outer s H vs Q E hr h => ?_)
  have hu := hu_of hr
  have z_isinstance := T.z_isinstance
  obtain ⟨t_REGISTERS, g_REGISTERS, hK_REGISTERS⟩ := TE.g_REGISTERS
  obtain ⟨H0, p, wr, v0, v1, x, nm, v, rfl, R, hm, k⟩ := h
  obtain ⟨Hf, bd, A, ts, ls, st, hd, er, wa, dx, dk, dw, fr, hi_, co, mi, sd, F_, s0_, s1_, hw_⟩ := R
  have hp := s1_ _ _ F_.hp
  have C := F_.C.same s1_
  obtain ⟨sv, tv, dv, hpb, hz⟩ := C.hp
  have hst := s1_ _ _ F_.hst
  have hhd := s1_ _ _ F_.hhd
  have her := s1_ _ _ F_.her
  have hwa := s1_ _ _ F_.hwa
  refine ⟨_, (pss_cons (ps_if (pt_val (pe_callB call_isi (by rfl) z_isinstance (by decide +kernel) (pa_cons (pv 1) (pa_cons (pe_bltn (v := .ty "str") (u := .type "str") (by rfl) z_str (by decide +kernel) rfl) pa_nil)))) (pss_cons (ps_if (pt_cmpR op_in_seq (pv 1) (pgR g_REGISTERS) (by rfl)) (pss_one (ps_ret (pe_dget hu (pe_fld (pe_fld (pv 0) rfl) rfl) (pv 1) (fun _ _ => rfl)))) pss_nil)
    (pss_cons (ps_if (pt_cmpR op_eq (pv 1) pe_str (nomark _)) (pss_one (ps_ret (pe_fld (pe_fld (pv 0) rfl) rfl))) pss_nil)
    (pss_cons (ps_if (pt_cmpR op_eq (pv 1) pe_str (nomark _)) (pss_one (ps_ret (pe_fld (pe_fld (pv 0) rfl) rfl))) pss_nil)
    (pss_cons (ps_if (pt_cmpR op_eq (pv 1) pe_str (nomark _)) (pss_one (ps_ret (pe_fld (pe_fld (pv 0) rfl) rfl))) pss_nil)
    (pss_one (ps_if (pt_cmpR op_eq (pv 1) pe_str (nomark _)) (pss_one (ps_ret (pe_fld (pe_fld (pv 0) rfl) rfl))) pss_nil)))))) pss_nil)
    (pss_one ps_never)), ?_⟩
  simp only [regsL, List.mem_cons, List.not_mem_nil, or_false, Prod.mk.injEq] at hm
  rcases hm with ⟨rfl, rfl⟩ | ⟨rfl, rfl⟩ | ⟨rfl, rfl⟩ | ⟨rfl, rfl⟩ | ⟨rfl, rfl⟩ | ⟨rfl, rfl⟩ | ⟨rfl, rfl⟩ | ⟨rfl, rfl⟩
  · refine ⟨_, rfl, .str "a", .ty "str", _, _, true, rfl, .ty "str", .base (.str "a"), kit_ty (by decide +kernel), _, rfl, ifB (fun _ => ?_) (fun h => by cases h)⟩
    refine ⟨_, rfl, t_REGISTERS, _, rfl, .inr (hK_REGISTERS _), rfl, rfl, _, rfl, ?_⟩
    rw [show (if false = true then !inV (V.str "a") (rgN.map V.str) else inV (V.str "a") (rgN.map V.str)) = inV (V.str "a") (rgN.map V.str) from rfl, in_strs]
    refine ifB (fun _ => ?_) (fun h => absurd (of_decide_eq_false h) (fun z => z (by decide +kernel)))
    exact ⟨_, rfl, p, CP, dx, _, _, rfl, hp, T.cP, T.nP_board, pF_board, bd, CB, A.dx, _, _, rfl, hpb, T.cB, T.n_registers, bF_reg, _, rfl, A.r, _, rfl, dg (k := Sum.inr "a") C.hr rG_a, k⟩
  · refine ⟨_, rfl, .str "b", .ty "str", _, _, true, rfl, .ty "str", .base (.str "b"), kit_ty (by decide +kernel), _, rfl, ifB (fun _ => ?_) (fun h => by cases h)⟩
    refine ⟨_, rfl, t_REGISTERS, _, rfl, .inr (hK_REGISTERS _), rfl, rfl, _, rfl, ?_⟩
    rw [show (if false = true then !inV (V.str "b") (rgN.map V.str) else inV (V.str "b") (rgN.map V.str)) = inV (V.str "b") (rgN.map V.str) from rfl, in_strs]
    refine ifB (fun _ => ?_) (fun h => absurd (of_decide_eq_false h) (fun z => z (by decide +kernel)))
    exact ⟨_, rfl, p, CP, dx, _, _, rfl, hp, T.cP, T.nP_board, pF_board, bd, CB, A.dx, _, _, rfl, hpb, T.cB, T.n_registers, bF_reg, _, rfl, A.r, _, rfl, dg (k := Sum.inr "b") C.hr rG_b, k⟩
  · refine ⟨_, rfl, .str "pc", .ty "str", _, _, true, rfl, .ty "str", .base (.str "pc"), kit_ty (by decide +kernel), _, rfl, ifB (fun _ => ?_) (fun h => by cases h)⟩
    refine ⟨_, rfl, t_REGISTERS, _, rfl, .inr (hK_REGISTERS _), rfl, rfl, _, rfl, ?_⟩
    rw [show (if false = true then !inV (V.str "pc") (rgN.map V.str) else inV (V.str "pc") (rgN.map V.str)) = inV (V.str "pc") (rgN.map V.str) from rfl, in_strs]
    refine ifB (fun _ => ?_) (fun h => absurd (of_decide_eq_false h) (fun z => z (by decide +kernel)))
    exact ⟨_, rfl, p, CP, dx, _, _, rfl, hp, T.cP, T.nP_board, pF_board, bd, CB, A.dx, _, _, rfl, hpb, T.cB, T.n_registers, bF_reg, _, rfl, A.r, _, rfl, dg (k := Sum.inr "pc") C.hr rG_pc, k⟩
  · refine ⟨_, rfl, .str "sp", .ty "str", _, _, true, rfl, .ty "str", .base (.str "sp"), kit_ty (by decide +kernel), _, rfl, ifB (fun _ => ?_) (fun h => by cases h)⟩
    refine ⟨_, rfl, t_REGISTERS, _, rfl, .inr (hK_REGISTERS _), rfl, rfl, _, rfl, ?_⟩
    rw [show (if false = true then !inV (V.str "sp") (rgN.map V.str) else inV (V.str "sp") (rgN.map V.str)) = inV (V.str "sp") (rgN.map V.str) from rfl, in_strs]
    refine ifB (fun _ => ?_) (fun h => absurd (of_decide_eq_false h) (fun z => z (by decide +kernel)))
    exact ⟨_, rfl, p, CP, dx, _, _, rfl, hp, T.cP, T.nP_board, pF_board, bd, CB, A.dx, _, _, rfl, hpb, T.cB, T.n_registers, bF_reg, _, rfl, A.r, _, rfl, dg (k := Sum.inr "sp") C.hr rG_sp, k⟩
  · refine ⟨_, rfl, .str "zero", .ty "str", _, _, true, rfl, .ty "str", .base (.str "zero"), kit_ty (by decide +kernel), _, rfl, ifB (fun _ => ?_) (fun h => by cases h)⟩
    refine ⟨_, rfl, t_REGISTERS, _, rfl, .inr (hK_REGISTERS _), rfl, rfl, _, rfl, ?_⟩
    rw [show (if false = true then !inV (V.str "zero") (rgN.map V.str) else inV (V.str "zero") (rgN.map V.str)) = inV (V.str "zero") (rgN.map V.str) from rfl, in_strs]
    refine ifB (fun h => absurd (of_decide_eq_true h) (by decide +kernel)) (fun _ => ?_)
    refine ⟨_, rfl, rfl, _, rfl, ifB (fun _ => ?_) (fun h => absurd rfl (of_decide_eq_false h))⟩
    exact ⟨_, rfl, p, CP, dx, _, _, rfl, hp, T.cP, T.nP_board, pF_board, bd, CB, A.dx, _, _, rfl, hpb, T.cB, T.n_zero, bF_zero, k⟩
  · refine ⟨_, rfl, .str "lets", .ty "str", _, _, true, rfl, .ty "str", .base (.str "lets"), kit_ty (by decide +kernel), _, rfl, ifB (fun _ => ?_) (fun h => by cases h)⟩
    refine ⟨_, rfl, t_REGISTERS, _, rfl, .inr (hK_REGISTERS _), rfl, rfl, _, rfl, ?_⟩
    rw [show (if false = true then !inV (V.str "lets") (rgN.map V.str) else inV (V.str "lets") (rgN.map V.str)) = inV (V.str "lets") (rgN.map V.str) from rfl, in_strs]
    refine ifB (fun h => absurd (of_decide_eq_true h) (by decide +kernel)) (fun _ => ?_)
    refine ⟨_, rfl, rfl, _, rfl, ifB (fun h => absurd (V.str.inj (of_decide_eq_true h)) (by decide +kernel)) (fun _ => ?_)⟩
    refine ⟨_, rfl, rfl, _, rfl, ifB (fun _ => ?_) (fun h => absurd rfl (of_decide_eq_false h))⟩
    exact ⟨_, rfl, p, CP, dx, _, _, rfl, hp, T.cP, T.nP_board, pF_board, bd, CB, A.dx, _, _, rfl, hpb, T.cB, T.n_lets, bF_lets, k⟩
  · refine ⟨_, rfl, .str "asleep", .ty "str", _, _, true, rfl, .ty "str", .base (.str "asleep"), kit_ty (by decide +kernel), _, rfl, ifB (fun _ => ?_) (fun h => by cases h)⟩
    refine ⟨_, rfl, t_REGISTERS, _, rfl, .inr (hK_REGISTERS _), rfl, rfl, _, rfl, ?_⟩
    rw [show (if false = true then !inV (V.str "asleep") (rgN.map V.str) else inV (V.str "asleep") (rgN.map V.str)) = inV (V.str "asleep") (rgN.map V.str) from rfl, in_strs]
    refine ifB (fun h => absurd (of_decide_eq_true h) (by decide +kernel)) (fun _ => ?_)
    refine ⟨_, rfl, rfl, _, rfl, ifB (fun h => absurd (V.str.inj (of_decide_eq_true h)) (by decide +kernel)) (fun _ => ?_)⟩
    refine ⟨_, rfl, rfl, _, rfl, ifB (fun h => absurd (V.str.inj (of_decide_eq_true h)) (by decide +kernel)) (fun _ => ?_)⟩
    refine ⟨_, rfl, rfl, _, rfl, ifB (fun _ => ?_) (fun h => absurd rfl (of_decide_eq_false h))⟩
    exact ⟨_, rfl, p, CP, dx, _, _, rfl, hp, T.cP, T.nP_board, pF_board, bd, CB, A.dx, _, _, rfl, hpb, T.cB, T.n_asleep, bF_asleep, k⟩
  · refine ⟨_, rfl, .str "beat", .ty "str", _, _, true, rfl, .ty "str", .base (.str "beat"), kit_ty (by decide +kernel), _, rfl, ifB (fun _ => ?_) (fun h => by cases h)⟩
    refine ⟨_, rfl, t_REGISTERS, _, rfl, .inr (hK_REGISTERS _), rfl, rfl, _, rfl, ?_⟩
    rw [show (if false = true then !inV (V.str "beat") (rgN.map V.str) else inV (V.str "beat") (rgN.map V.str)) = inV (V.str "beat") (rgN.map V.str) from rfl, in_strs]
    refine ifB (fun h => absurd (of_decide_eq_true h) (by decide +kernel)) (fun _ => ?_)
    refine ⟨_, rfl, rfl, _, rfl, ifB (fun h => absurd (V.str.inj (of_decide_eq_true h)) (by decide +kernel)) (fun _ => ?_)⟩
    refine ⟨_, rfl, rfl, _, rfl, ifB (fun h => absurd (V.str.inj (of_decide_eq_true h)) (by decide +kernel)) (fun _ => ?_)⟩
    refine ⟨_, rfl, rfl, _, rfl, ifB (fun h => absurd (V.str.inj (of_decide_eq_true h)) (by decide +kernel)) (fun _ => ?_)⟩
    refine ⟨_, rfl, rfl, _, rfl, ifB (fun _ => ?_) (fun h => absurd rfl (of_decide_eq_false h))⟩
    exact ⟨_, rfl, p, CP, dx, _, _, rfl, hp, T.cP, T.nP_board, pF_board, bd, CB, A.dx, _, _, rfl, hpb, T.cB, T.n_beat, bF_beat, k⟩
abbrev sMwatch : Stmt := inClass (topS 97) 16
def scMwatchN : List Str := ["self", "number", "low", "high", "kind"]
theorem scMwatch : FnScope scMwatchN ["self", "number", "low", "high", "kind"] (defScope sMwatch) := ⟨rfl, rfl, rfl, by decide +kernel, rfl, by decide +kernel, by decide +kernel⟩
theorem ok_Mwatch {f : Addr} {fd : FuncData} {fM_lay : Addr} {dM_lay : FuncData} (F : Fun K "watch" "Probe.watch" sMwatch f fd) (T : Ty K mg CB CM CP CK CW CF CH CC CI CS)
    (M_lay : CalX P w K mg base CW 4 "lay" ["self", "number", "low", "high", "kind"] (spLayW CW CN) fM_lay dM_lay)
    (TE : Te K mg CN CL) : FnOk P w K mg base (L2.CX P w) 5 f fd ["self", "number", "low", "high", "kind"] (spWatch CB CM CP CK CW CN) := by
  refine F.okX scMwatch (fun vs H Q E h => by obtain ⟨_, _, _, _, _, _, _, _, _, _, rfl, _⟩ := h; rfl) (fun cdv A outer s H vs Q E hr h => ?_)
  have hu := hu_of hr
  obtain ⟨H0, p, wr, v0, v1, x, n, lo, hi, kd, rfl, R, q, qe⟩ := h
  obtain ⟨Hf, bd, A, ts, ls, st, hd, er, wa, dx, dk, dw, fr, hi_, co, mi, sd, F_, s0_, s1_, hw_⟩ := R
  have hp := s1_ _ _ F_.hp
  have C := F_.C.same s1_
  obtain ⟨sv, tv, dv, hpb, hz⟩ := C.hp
  have hst := s1_ _ _ F_.hst
  have hhd := s1_ _ _ F_.hhd
  have her := s1_ _ _ F_.her
  have hwa := s1_ _ _ F_.hwa
  refine ⟨_, (pss_one (ps_expr (pe_meth (pe_fld (pv 0) rfl) M_lay.c M_lay.m M_lay.G (hr.mono (by decide)) M_lay.b .nil (E := E) (passes_call (W := fun cls d _ H => E cls d H) (takes_of rfl rfl rfl rfl) (fun _ _ _ _ h => h)) (pa_cons (pv 1) (pa_cons (pv 2) (pa_cons (pv 3) (pa_cons (pv 4) pa_nil))))))), ?_⟩
  have nwt : ∀ b o, Hf b = some o → b ≠ wr := fun b o e z => by rw [z, F_.fw] at e; cases e
  refine ⟨_, rfl, p, CP, dx, _, _, rfl, hp, T.cP, T.nP_watching, pF_watching, wa, dw, _, rfl, hwa, wN_lay, _, rfl, _, rfl, _, rfl, _, rfl, wa, dw, wr, v0, v1, n, lo, hi, kd, rfl, hwa, hw_, fun ok t nt => ?_, fun no => qe no⟩
  have st_ := same_upd' (o := .tup [V.int lo, V.int hi, V.str kd]) nt
  have twr : t ≠ wr := (ne_of_none hw_ nt).symm
  have kk : ∀ b o, b ≠ wr → H b = some o → upd (upd H t (.tup [.int lo, .int hi, .str kd])) wr (.lst (setW n (.ref t) v0 v1)) b = some o := fun b o nb e => by rw [upd_ne nb]; exact st_ _ _ e
  refine q ok _ t nt (by rw [upd_ne twr]; exact upd_same) kk ⟨Hf, bd, A, ts, ls, st, hd, er, wa, dx, dk, dw, fr, hi_, co, mi, sd, F_, s0_, fun b o e => kk b o (nwt b o e) (s1_ _ _ e), ?_⟩
  rw [upd_same, setW_eq]
abbrev sMunw : Stmt := inClass (topS 97) 17
def scMunwN : List Str := ["self", "number"]
theorem scMunw : FnScope scMunwN ["self", "number"] (defScope sMunw) := ⟨rfl, rfl, rfl, by decide +kernel, rfl, by decide +kernel, by decide +kernel⟩
theorem ok_Munw {f : Addr} {fd : FuncData} {fM_lift : Addr} {dM_lift : FuncData} (F : Fun K "unwatch" "Probe.unwatch" sMunw f fd) (T : Ty K mg CB CM CP CK CW CF CH CC CI CS)
    (M_lift : CalX P w K mg base CW 4 "lift" ["self", "number"] (spLiftW CW CN CL) fM_lift dM_lift)
    (TE : Te K mg CN CL) : FnOk P w K mg base (L2.CX P w) 5 f fd ["self", "number"] (spUnw CB CM CP CK CW CN CL) := by
  refine F.okX scMunw (fun vs H Q E h => by obtain ⟨_, _, _, _, _, _, _, rfl, _⟩ := h; rfl) (fun cdv A outer s H vs Q E hr h => ?_)
  have hu := hu_of hr
  obtain ⟨H0, p, wr, v0, v1, x, n, rfl, R, q, ql, qe⟩ := h
  obtain ⟨Hf, bd, A, ts, ls, st, hd, er, wa, dx, dk, dw, fr, hi_, co, mi, sd, F_, s0_, s1_, hw_⟩ := R
  have hp := s1_ _ _ F_.hp
  have C := F_.C.same s1_
  obtain ⟨sv, tv, dv, hpb, hz⟩ := C.hp
  have hst := s1_ _ _ F_.hst
  have hhd := s1_ _ _ F_.hhd
  have her := s1_ _ _ F_.her
  have hwa := s1_ _ _ F_.hwa
  refine ⟨_, (pss_one (ps_expr (pe_meth (pe_fld (pv 0) rfl) M_lift.c M_lift.m M_lift.G (hr.mono (by decide)) M_lift.b .nil (E := E) (passes_call (W := fun cls d _ H => E cls d H) (takes_of rfl rfl rfl rfl) (fun _ _ _ _ h => h)) (pa_cons (pv 1) pa_nil)))), ?_⟩
  have nwt : ∀ b o, Hf b = some o → b ≠ wr := fun b o e z => by rw [z, F_.fw] at e; cases e
  refine ⟨_, rfl, p, CP, dx, _, _, rfl, hp, T.cP, T.nP_watching, pF_watching, wa, dw, _, rfl, hwa, wN_lift, _, rfl, wa, dw, wr, v0, v1, n, rfl, hwa, hw_, fun ok nn => ?_, ql, qe⟩
  have kk : ∀ b o, b ≠ wr → H b = some o → upd H wr (.lst (setW n .non v0 v1)) b = some o := fun b o nb e => by rw [upd_ne nb]; exact e
  refine q ok nn _ kk ⟨Hf, bd, A, ts, ls, st, hd, er, wa, dx, dk, dw, fr, hi_, co, mi, sd, F_, s0_, fun b o e => kk b o (nwt b o e) (s1_ _ _ e), ?_⟩
  rw [upd_same, setW_eq]
end
end Bh

/-! The law's wells. -/
namespace Bh
open PySem PySem.Spec PyProof.Rows L2
theorem can_ints : ∀ ns : List Int, PyData.canLayAll0 (ns.map PyData.int) = true
  | [] => rfl
  | n :: r => by
    show (PyData.canLay0 (.int n) && PyData.canLayAll0 (r.map PyData.int)) = true
    rw [can_ints r]
    rfl
def WellAt (H : Hp) (l : Addr) : Prop := ∃ u v t : Int, H l = some (.lst [.int u, .int v, .int t])
/-- all but one cell stands as it stood -/
def But (l : Addr) (H H' : Hp) : Prop := ∀ b o, b ≠ l → H b = some o → H' b = some o
theorem But.refl {l : Addr} {H : Hp} : But l H H := fun _ _ _ e => e
theorem But.trans {l : Addr} {H G J : Hp} (a : But l H G) (b : But l G J) : But l H J := fun c o n e => b c o n (a c o n e)
theorem But.of {l : Addr} {H G : Hp} (s : Same H G) : But l H G := fun c o _ e => s c o e
def spCellAt (K : PySem.W.Frag) : Sp := fun vs H Q _ => ∃ (a : Addr) (ns : List Int) (k : Nat), vs = [.ref a, .int (k : Int)] ∧ SqL K H a (ns.map V.int) ∧ ∀ z : Int, Q (.int z) H
def spWell : Sp := fun vs H Q _ => ∃ c : Int, vs = [.int c] ∧ ∀ H' l, Same H H' → H l = none → WellAt H' l → Q (.ref l) H'
def spDraw : Sp := fun vs H Q _ => ∃ (l : Addr) (W : Int), vs = [.ref l, .int W] ∧ WellAt H l ∧ 0 < W ∧ W ≤ 70000 ∧ ∀ (H' : Hp) (d : Int), But l H H' → WellAt H' l → 0 ≤ d → d < W → Q (.int d) H'
def spOne : Sp := fun vs H Q _ => ∃ (l a : Addr) (xs : List V), vs = [.ref l, .ref a] ∧ WellAt H l ∧ a ≠ l ∧ H a = some (.lst xs) ∧ xs ≠ [] ∧ xs.length ≤ 1000 ∧ ∀ (H' : Hp) (x : V), But l H H' → WellAt H' l → x ∈ xs → Q x H'
section
variable {P : Program} {w : World} {K : PySem.W.Frag} {mg : Str → Option Value} {base : Heap} {CB CM CP CK CW CF CH CC CI CS CN CL : Addr}
abbrev sLcell : Stmt := topS 99
def scLcellN : List Str := ["_law_script", "_law_k"]
theorem scLcell : FnScope scLcellN ["_law_script", "_law_k"] (defScope sLcell) := ⟨rfl, rfl, rfl, by decide +kernel, rfl, by decide +kernel, by decide +kernel⟩
theorem ok_Lcell {f : Addr} {fd : FuncData} (F : Fun K "_law_cell_at" "_law_cell_at" sLcell f fd) (T : Ty K mg CB CM CP CK CW CF CH CC CI CS) : FnOk P w K mg base CX0 1 f fd ["_law_script", "_law_k"] (spCellAt K) := by
  refine F.ok scLcell (fun vs H Q E h => by obtain ⟨_, _, _, rfl, _⟩ := h; rfl) (fun cdv A outer s H vs Q E hr h => ?_)
  have hu := hu_of hr
  have z_len := T.z_len
  obtain ⟨a, ns, k, rfl, hS, q⟩ := h
  refine ⟨_, (pss_cons (ps_if (pt_cmpR op_lt (pv 1) (pe_callB call_len_seq (by rfl) z_len PySem.boot_len (pa_cons (pv 0) pa_nil)) (nomark _)) (pss_one (ps_ret (pe_ix ix_list (pv 0) (pv 1) (fun _ _ => rfl)))) pss_nil)
    (pss_one (ps_ret pe_int))), ?_⟩
  refine ⟨_, rfl, _, rfl, a, _, rfl, .inl hS, _, _, rfl, rfl, _, rfl, ifB (fun h => ?_) (fun _ => q 0)⟩
  have h := of_decide_eq_true h
  rw [List.length_map] at h
  exact ⟨_, rfl, _, rfl, a, _, _, _, rfl, rfl, hS, atI_rd (m := ns) (i := (k : Int)) (by omega) (by omega), q _⟩
abbrev sLwell : Stmt := topS 100
def scLwellN : List Str := ["_law_cell"]
theorem scLwell : FnScope scLwellN ["_law_cell"] (defScope sLwell) := ⟨rfl, rfl, rfl, by decide +kernel, rfl, by decide +kernel, by decide +kernel⟩
theorem ok_Lwell {f : Addr} {fd : FuncData} (F : Fun K "_law_well" "_law_well" sLwell f fd) (T : Ty K mg CB CM CP CK CW CF CH CC CI CS) : FnOk P w K mg base CX0 1 f fd ["_law_cell"] (spWell) := by
  refine F.ok scLwell (fun vs H Q E h => by obtain ⟨_, rfl, _⟩ := h; rfl) (fun cdv A outer s H vs Q E hr h => ?_)
  have hu := hu_of hr
  have z_int := T.z_int
  obtain ⟨c, rfl, q⟩ := h
  refine ⟨_, (pss_one (ps_ret (pe_lst (pa_cons (pe_op op_mul (pv 0) (pe_callTy call_int1 (by rfl) z_int (by decide +kernel) (pa_cons (pe_cmpR op_ge (pv 0) (pe_op op_pow pe_int pe_int) (nomark _)) pa_nil))) (pa_cons (pe_op op_mod (pv 0) pe_int) (pa_cons pe_int pa_nil)))))), ?_⟩
  refine ⟨_, rfl, _, rfl, _, _, rfl, rfl, ⟨by decide, by decide, by decide⟩, _, _, rfl, rfl, .inr ⟨_, rfl, ?_⟩⟩
  refine ⟨_, _, rfl, rfl, .inr ⟨by split <;> decide, by split <;> decide⟩, _, rfl, _, _, rfl, rfl, (by show (0 : Int) < 2147483647; decide), (by show 3 ≤ sizeLine; decide), fun l nl => ?_⟩
  exact q _ l (same_upd' nl) nl ⟨_, _, _, upd_same⟩
abbrev sLdraw : Stmt := topS 101
def scLdrawN : List Str := ["_law_well_here", "_law_wide", "_law_found", "_law_number"]
theorem scLdraw : FnScope scLdrawN ["_law_well_here", "_law_wide"] (defScope sLdraw) := ⟨rfl, rfl, rfl, by decide +kernel, rfl, by decide +kernel, by decide +kernel⟩
theorem ok_Ldraw {f : Addr} {fd : FuncData} (F : Fun K "_law_draw" "_law_draw" sLdraw f fd) (T : Ty K mg CB CM CP CK CW CF CH CC CI CS) : FnOk P w K mg base CX0 1 f fd ["_law_well_here", "_law_wide"] (spDraw) := by
  refine F.ok scLdraw (fun vs H Q E h => by obtain ⟨_, _, rfl, _⟩ := h; rfl) (fun cdv A outer s H vs Q E hr h => ?_)
  have hu := hu_of hr
  obtain ⟨l, W, rfl, hw, W0, W1, q⟩ := h
  refine ⟨_, (pss_cons (ps_if (pt_cmpR op_gt (pe_ix ix_list (pv 0) pe_int (fun _ _ => rfl)) pe_int (nomark _)) (pss_cons (ps_set (i := 2) scLdraw.nd rfl (.inl rfl) (pe_op op_mod (pe_ix ix_list (pv 0) pe_int (fun _ _ => rfl)) (pv 1)))
    (pss_cons (ps_asg (pe_op op_fdiv (pe_ix ix_list (pv 0) pe_int (fun _ _ => rfl)) (pv 1)) (pg_sub (pv 0) pe_int set_list))
    (pss_one (ps_ret (pv 2))))) pss_nil)
    (pss_cons (ps_asg (pe_op op_add (pe_ix ix_list (pv 0) pe_int (fun _ _ => rfl)) pe_int) (pg_sub (pv 0) pe_int set_list))
    (pss_cons (ps_set (i := 3) scLdraw.nd rfl (.inl rfl) (pe_op op_mod (pe_op op_mul (pe_op op_add (pe_op op_add (pe_ix ix_list (pv 0) pe_int (fun _ _ => rfl)) (pe_op op_mul pe_int (pe_ix ix_list (pv 0) pe_int (fun _ _ => rfl)))) pe_int) pe_int) pe_int))
    (pss_cons (ps_set (i := 3) scLdraw.nd rfl (.inl rfl) (pe_op op_mod (pe_op op_mul (pv 3) (pe_op op_add (pe_op op_fdiv (pv 3) pe_int) pe_int)) pe_int))
    (pss_one (ps_ret (pe_op op_mod (pe_op op_mod (pe_op op_mul (pv 3) (pe_op op_add (pe_op op_fdiv (pv 3) pe_int) pe_int)) pe_int) (pv 1)))))))), ?_⟩
  obtain ⟨u, v, t, hl⟩ := hw
  refine ⟨_, rfl, l, _, 0, _, rfl, rfl, SqL.of hl, atI_nat (j := 0) rfl, _, _, rfl, rfl, _, rfl, ifB (fun _ => ?_) (fun _ => ?_)⟩
  · refine ⟨_, rfl, l, _, 0, _, rfl, rfl, SqL.of hl, atI_nat (j := 0) rfl, _, rfl, _, _, rfl, rfl, W0, ?_⟩
    refine ⟨_, rfl, l, _, 0, _, rfl, rfl, SqL.of hl, atI_nat (j := 0) rfl, _, rfl, _, _, rfl, rfl, ⟨W0, by omega⟩, _, rfl, l, _, _, _, rfl, rfl, hl, ixN_in (by decide) (by show (0 : Int) < 3; decide), ?_⟩
    exact ⟨_, rfl, q _ _ (fun b o n e => by rw [upd_ne n]; exact e) ⟨_, _, _, upd_same⟩ (Int.emod_nonneg u (by omega)) (Int.emod_lt_of_pos u W0)⟩
  refine ⟨_, rfl, l, _, 2, _, rfl, rfl, SqL.of hl, atI_nat (j := 2) rfl, _, _, rfl, rfl, _, rfl, l, _, _, _, rfl, rfl, hl, ixN_in (by decide) (by show (2 : Int) < 3; decide), ?_⟩
  have hl2 : upd H l (.lst ([V.int u, V.int v, V.int t].set (2 : Int).toNat (V.int (t + 1)))) l = some (.lst [.int u, .int v, .int (t + 1)]) := upd_same
  have k2 : But l H (upd H l (.lst ([V.int u, V.int v, V.int t].set (2 : Int).toNat (V.int (t + 1))))) := fun b o n e => by rw [upd_ne n]; exact e
  generalize upd H l (.lst ([V.int u, V.int v, V.int t].set (2 : Int).toNat (V.int (t + 1)))) = G2 at *
  refine ⟨_, rfl, l, _, 1, _, rfl, rfl, SqL.of hl2, atI_nat (j := 1) rfl, _, rfl, l, _, 2, _, rfl, rfl, SqL.of hl2, atI_nat (j := 2) rfl, _, _, rfl, rfl, .inl ⟨by decide, by decide⟩, _, _, rfl, rfl, _, _, rfl, rfl, _, _, rfl, rfl, .inr ⟨by decide, by decide⟩, _, _, rfl, rfl, (by show (0 : Int) < 2147483647; decide), ?_⟩
  have a0 := Int.emod_nonneg ((v + 7919 * (t + 1) + 1) * 48271) (show (2147483647 : Int) ≠ 0 by decide)
  have a1 := Int.emod_lt_of_pos ((v + 7919 * (t + 1) + 1) * 48271) (show (0 : Int) < 2147483647 by decide)
  refine ⟨_, rfl, _, rfl, _, _, rfl, rfl, ⟨by decide, by decide⟩, _, _, rfl, rfl, _, _, rfl, rfl, .inl ⟨by omega, by omega⟩, _, _, rfl, rfl, (by show (0 : Int) < 2147483647; decide), ?_⟩
  have b0 := Int.emod_nonneg (((v + 7919 * (t + 1) + 1) * 48271 % 2147483647) * (((v + 7919 * (t + 1) + 1) * 48271 % 2147483647) / 1009 + 69621)) (show (2147483647 : Int) ≠ 0 by decide)
  have b1 := Int.emod_lt_of_pos (((v + 7919 * (t + 1) + 1) * 48271 % 2147483647) * (((v + 7919 * (t + 1) + 1) * 48271 % 2147483647) / 1009 + 69621)) (show (0 : Int) < 2147483647 by decide)
  generalize ((v + 7919 * (t + 1) + 1) * 48271 % 2147483647) * (((v + 7919 * (t + 1) + 1) * 48271 % 2147483647) / 1009 + 69621) % 2147483647 = z at *
  refine ⟨_, rfl, _, rfl, _, _, rfl, rfl, ⟨by decide, by decide⟩, _, _, rfl, rfl, _, _, rfl, rfl, .inl ⟨by omega, by omega⟩, _, _, rfl, rfl, (by show (0 : Int) < 2147483399; decide), _, rfl, _, _, rfl, rfl, W0, ?_⟩
  exact q _ _ k2 ⟨_, _, _, hl2⟩ (Int.emod_nonneg _ (by omega)) (Int.emod_lt_of_pos _ W0)
abbrev sLone : Stmt := topS 102
def scLoneN : List Str := ["_law_well_here", "_law_some"]
theorem scLone : FnScope scLoneN ["_law_well_here", "_law_some"] (defScope sLone) := ⟨rfl, rfl, rfl, by decide +kernel, rfl, by decide +kernel, by decide +kernel⟩
theorem ok_Lone {f : Addr} {fd : FuncData} {fL_draw : Addr} {dL_draw : FuncData} (F : Fun K "_law_one" "_law_one" sLone f fd) (T : Ty K mg CB CM CP CK CW CF CH CC CI CS)
    (L_draw : CalF P w K mg base 1 "_law_draw" ["_law_well_here", "_law_wide"] (spDraw) fL_draw dL_draw) : FnOk P w K mg base CX0 2 f fd ["_law_well_here", "_law_some"] (spOne) := by
  refine F.ok scLone (fun vs H Q E h => by obtain ⟨_, _, _, rfl, _⟩ := h; rfl) (fun cdv A outer s H vs Q E hr h => ?_)
  have hu := hu_of hr
  have z_len := T.z_len
  obtain ⟨l, a, xs, rfl, hw, na, ha, hx, hx2, q⟩ := h
  refine ⟨_, (pss_one (ps_ret (pe_ix ix_list (pv 1) (pe_call L_draw.G (hr.mono (by decide)) (by rfl) L_draw.g L_draw.kp L_draw.b .nil pass0 (pa_cons (pv 0) (pa_cons (pe_callB call_len_seq (by rfl) z_len PySem.boot_len (pa_cons (pv 1) pa_nil)) pa_nil))) (fun _ _ => rfl)))), ?_⟩
  refine ⟨_, rfl, _, rfl, _, rfl, a, _, rfl, .inl (SqL.of ha), l, _, rfl, hw, ?_, ?_, fun H' d k hw' d0 d1 => ?_⟩
  · have : 0 < xs.length := List.length_pos_iff.mpr hx
    omega
  · omega
  have hd : d.toNat < xs.length := by omega
  have ea : atI xs d = some xs[d.toNat] := by
    have h := atI_nat (xs := xs) (List.getElem?_eq_getElem hd)
    rwa [show ((d.toNat : Nat) : Int) = d by omega] at h
  exact ⟨a, _, _, _, rfl, rfl, SqL.of (k _ _ na ha), ea, q _ _ k hw' (List.getElem_mem hd)⟩
end
end Bh

/-! The law's image. -/
namespace Bh
open PySem PySem.Spec PyProof.Rows L2
theorem joinZ {Goal : Prop} {I : Hp → Int → Prop} (R : Hp → Int → Prop) (body : (∀ G' z, I G' z → R G' z) → Goal) (key : ∀ G' z, I G' z → R G' z) : Goal := body key
theorem in_ints (z : Int) : ∀ ys : List Int, inV (.int z) (ys.map V.int) = decide (z ∈ ys)
  | [] => rfl
  | y :: ys => by
    have ih := in_ints z ys
    unfold inV at ih ⊢
    rw [List.map_cons, List.any_cons, ih]
    show ((y == z) || decide (z ∈ ys)) = decide (z ∈ y :: ys)
    by_cases e : y = z
    · subst e
      simp
    · have e2 : ¬ z = y := fun q => e q.symm
      have : (y == z) = false := by simpa using e
      rw [this]
      simp [e2]
theorem wok_app {a b : List Int} (h1 : WordsOk a) (h2 : WordsOk b) : WordsOk (a ++ b) := fun z hz => by
  rcases List.mem_append.mp hz with h | h
  · exact h1 z h
  · exact h2 z h
theorem rd_ok {ws : List Int} (h : WordsOk ws) {i : Int} (h0 : 0 ≤ i) (h1 : i < ws.length) : 0 ≤ rd ws i ∧ rd ws i ≤ 65535 := by
  unfold rd
  rw [List.getD_eq_getElem?_getD, List.getElem?_eq_getElem (show i.toNat < ws.length by omega)]
  exact h _ (List.getElem_mem _)
theorem opsL {v : V} (h : v ∈ rgV 0 24 ++ ([1, 1, 1, 1, 3, 3, 3, 2, 4, 12, 19] : List Int).map V.int) : ∃ z : Int, v = .int z ∧ 0 ≤ z ∧ z ≤ 23 := by
  rcases List.mem_append.mp h with h | h
  · unfold rgV at h
    obtain ⟨k, hk, rfl⟩ := List.mem_map.mp h
    have hk : k < 24 := List.mem_range.mp hk
    exact ⟨_, rfl, by omega, by omega⟩
  · obtain ⟨z, hz, rfl⟩ := List.mem_map.mp h
    simp only [List.mem_cons, List.not_mem_nil, or_false] at hz
    exact ⟨z, rfl, by omega, by omega⟩
theorem intsL {v : V} {ns : List Int} {lo hi : Int} (h : v ∈ ns.map V.int) (b : ∀ z ∈ ns, lo ≤ z ∧ z ≤ hi) : ∃ z : Int, v = .int z ∧ lo ≤ z ∧ z ≤ hi := by
  obtain ⟨z, hz, rfl⟩ := List.mem_map.mp h
  exact ⟨z, rfl, b z hz⟩
theorem hszL {n : Nat} (h : n ≤ 90000) : n < sizeLine := by
  have : (100000 : Nat) ≤ sizeLine := by decide
  omega
theorem lastI {ws : List Int} (h : 0 < ws.length) : ∃ z, z ∈ ws ∧ atI (ws.map V.int) (-1) = some (.int z) := by
  have hn : ws ≠ [] := fun e => by rw [e] at h; exact absurd h (by decide)
  refine ⟨ws.getLast hn, List.getLast_mem hn, ?_⟩
  have e : ws.map V.int = (ws.dropLast.map V.int) ++ [V.int (ws.getLast hn)] := by
    rw [← List.map_singleton, ← List.map_append, List.dropLast_concat_getLast hn]
  rw [e]
  exact atI_last _ _
def spProg : Sp := fun vs H Q _ => ∃ (l : Addr) (n : Int), vs = [.ref l, .int n] ∧ WellAt H l ∧ 1 ≤ n ∧ n ≤ 40 ∧ ∀ (H' : Hp) (p : Addr) (ns : List Int), But l H H' → WellAt H' l → H p = none → H' p = some (.lst (ns.map V.int)) → ns.length ≤ 100 → WordsOk ns → Q (.ref p) H'
section
variable {P : Program} {w : World} {K : PySem.W.Frag} {mg : Str → Option Value} {base : Heap} {CB CM CP CK CW CF CH CC CI CS CN CL : Addr}
theorem well_ne {H : Hp} {l a : Addr} (h : WellAt H l) (n : H a = none) : a ≠ l := by
  obtain ⟨u, v, t, e⟩ := h
  exact (ne_of_none e n).symm
theorem wmono {H G : Hp} {l : Addr} (s : Same H G) (h : WellAt H l) : WellAt G l := by
  obtain ⟨u, v, t, e⟩ := h
  exact ⟨u, v, t, s _ _ e⟩
abbrev sLprog : Stmt := topS 107
def scLprogN : List Str := ["_law_well_here", "_law_many", "_law_rest", "_law_k", "_law_op", "_law_x", "_law_found"]
theorem scLprog : FnScope scLprogN ["_law_well_here", "_law_many"] (defScope sLprog) := ⟨rfl, rfl, rfl, by decide +kernel, rfl, by decide +kernel, by decide +kernel⟩
theorem ok_Lprog {f : Addr} {fd : FuncData} {fL_draw : Addr} {dL_draw : FuncData} {fL_one : Addr} {dL_one : FuncData} (F : Fun K "_law_program" "_law_program" sLprog f fd) (T : Ty K mg CB CM CP CK CW CF CH CC CI CS)
    (L_draw : CalF P w K mg base 1 "_law_draw" ["_law_well_here", "_law_wide"] (spDraw) fL_draw dL_draw)
    (L_one : CalF P w K mg base 2 "_law_one" ["_law_well_here", "_law_some"] (spOne) fL_one dL_one) : FnOk P w K mg base CX0 3 f fd ["_law_well_here", "_law_many"] (spProg) := by
  refine F.ok scLprog (fun vs H Q E h => by obtain ⟨_, _, rfl, _⟩ := h; rfl) (fun cdv A outer s H vs Q E hr h => ?_)
  have hu := hu_of hr
  have z_list := T.z_list
  have z_range := T.z_range
  obtain ⟨l, n, rfl, hw, hn1, hn2, q⟩ := h
  refine ⟨_, (pss_cons (ps_set (i := 2) scLprog.nd rfl (.inl rfl) (pe_lst pa_nil))
    (pss_cons (ps_for PassesOwn.never rfl (pi_range1 (by rfl) z_range (pa_cons (pv 1) pa_nil)) (pg_name (i := 3) scLprog.nd rfl (.inl rfl))
      (pss_cons (ps_set (i := 4) scLprog.nd rfl (.inl rfl) (pe_call L_one.G (hr.mono (by decide)) (by rfl) L_one.g L_one.kp L_one.b .nil pass0 (pa_cons (pv 0) (pa_cons (pe_op op_cat (pe_listRg (by rfl) (by rfl) z_list (prg_1 (by rfl) z_range pe_int)) (pe_lst (pa_cons pe_int (pa_cons pe_int (pa_cons pe_int (pa_cons pe_int (pa_cons pe_int (pa_cons pe_int (pa_cons pe_int (pa_cons pe_int (pa_cons pe_int (pa_cons pe_int (pa_cons pe_int pa_nil))))))))))))) pa_nil))))
    (pss_cons (ps_set (i := 5) scLprog.nd rfl (.inl rfl) (pe_op op_add (pe_call L_one.G (hr.mono (by decide)) (by rfl) L_one.g L_one.kp L_one.b .nil pass0 (pa_cons (pv 0) (pa_cons (pe_lst (pa_cons pe_int (pa_cons pe_int (pa_cons pe_int (pa_cons pe_int (pa_cons pe_int (pa_cons pe_int (pa_cons pe_int pa_nil)))))))) pa_nil))) (pe_call L_draw.G (hr.mono (by decide)) (by rfl) L_draw.g L_draw.kp L_draw.b .nil pass0 (pa_cons (pv 0) (pa_cons pe_int pa_nil)))))
    (pss_cons (ps_if (pt_cmpR op_in_seq (pv 4) (pe_lst (pa_cons pe_int (pa_cons pe_int (pa_cons pe_int (pa_cons pe_int pa_nil))))) (by rfl)) (pss_one (ps_set (i := 5) scLprog.nd rfl (.inl rfl) (pe_op op_add pe_int (pe_call L_draw.G (hr.mono (by decide)) (by rfl) L_draw.g L_draw.kp L_draw.b .nil pass0 (pa_cons (pv 0) (pa_cons (pe_op op_add (pv 1) pe_int) pa_nil)))))) pss_nil)
    (pss_cons (ps_if (pt_cmpR op_in_seq (pv 4) (pe_lst (pa_cons pe_int (pa_cons pe_int (pa_cons pe_int (pa_cons pe_int pa_nil))))) (by rfl)) (pss_one (ps_set (i := 5) scLprog.nd rfl (.inl rfl) (pe_call L_one.G (hr.mono (by decide)) (by rfl) L_one.g L_one.kp L_one.b .nil pass0 (pa_cons (pv 0) (pa_cons (pe_lst (pa_cons (pe_call L_draw.G (hr.mono (by decide)) (by rfl) L_draw.g L_draw.kp L_draw.b .nil pass0 (pa_cons (pv 0) (pa_cons pe_int pa_nil))) (pa_cons (pv 5) (pa_cons (pe_op op_add pe_int (pe_call L_draw.G (hr.mono (by decide)) (by rfl) L_draw.g L_draw.kp L_draw.b .nil pass0 (pa_cons (pv 0) (pa_cons pe_int pa_nil)))) pa_nil)))) pa_nil))))) pss_nil)
    (pss_one (ps_expr (pe_bm PySem.F.plainAttrs_list PySem.F.slot_list_append PySem.F.type_list_append mt_append (pv 2) (pa_cons (pe_op op_add (pe_op op_mul pe_int (pv 4)) (pv 5)) pa_nil)))))))))
    (pss_cons (ps_set (i := 6) scLprog.nd rfl (.inl rfl) (pe_lst (pa_cons pe_int (pa_cons pe_int (pa_cons pe_int (pa_cons pe_int (pa_cons pe_int (pa_cons (pe_ix ix_list (pv 2) pe_int (fun _ _ => rfl)) (pa_cons pe_int (pa_cons pe_int (pa_cons pe_int (pa_cons (pe_ix ix_list (pv 2) (pe_un un_neg pe_int) (fun _ _ => rfl)) (pa_cons pe_int (pa_cons pe_int pa_nil))))))))))))))
    (pss_cons (ps_set (i := 6) scLprog.nd rfl (.inl rfl) (pe_op op_cat (pv 6) (pe_lst (pa_cons (pe_op op_add pe_int (pe_call L_draw.G (hr.mono (by decide)) (by rfl) L_draw.g L_draw.kp L_draw.b .nil pass0 (pa_cons (pv 0) (pa_cons pe_int pa_nil)))) (pa_cons pe_int (pa_cons (pe_op op_add pe_int (pe_call L_draw.G (hr.mono (by decide)) (by rfl) L_draw.g L_draw.kp L_draw.b .nil pass0 (pa_cons (pv 0) (pa_cons pe_int pa_nil)))) (pa_cons pe_int (pa_cons (pe_op op_add pe_int (pe_call L_draw.G (hr.mono (by decide)) (by rfl) L_draw.g L_draw.kp L_draw.b .nil pass0 (pa_cons (pv 0) (pa_cons pe_int pa_nil)))) pa_nil))))))))
    (pss_one (ps_ret (pe_op op_cat (pv 6) (pv 2)))))))), ?_⟩
  refine ⟨Nat.zero_le _, fun rp nrp => ?_⟩
  have lrp : rp ≠ l := fun z => by obtain ⟨_, _, _, e⟩ := hw; rw [← z, nrp] at e; cases e
  have r0 := same_upd' (o := .lst []) nrp
  have hp0 : upd H rp (.lst []) rp = some (.lst (([] : List Int).map V.int)) := upd_same
  have hw0 := wmono r0 hw
  have hb0 : But l H (upd H rp (.lst [])) := But.of r0
  generalize upd H rp (.lst []) = G0 at *
  refine ⟨_, rfl, n, rfl, by omega, by omega, ?_⟩
  refine for_range (lo := 0) (n := (n).toNat) (fun i σ H' => ∃ (y3 y4 y5 : Option V) (ws : List Int), σ = [some (.ref l), some (.int n), some (.ref rp), y3, y4, y5, none] ∧ But l H H' ∧ WellAt H' l ∧ H' rp = some (.lst (ws.map V.int)) ∧ ws.length = i ∧ WordsOk ws) ⟨none, none, none, [], rfl, hb0, hw0, hp0, rfl, fun z hz => by cases hz⟩ ?_ ?_
  · rintro i σ H1 hi ⟨y3, y4, y5, ws, rfl, hb, hw, hp, hlen, hok⟩
    have hi : (i : Int) < n := by omega
    clear r0 hp0 hw0 hb0
    refine ⟨_, rfl, 24, rfl, RgOk.of_le (by decide) (by decide) (by decide) (by decide), fun a1 n1 => ?_⟩
    have z1 : a1 ≠ l := well_ne hw n1
    have q1 : a1 ≠ rp := (ne_of_none hp n1).symm
    have r1 := same_upd' (o := .lst (rgV 0 24)) n1
    have h1 : upd H1 a1 (.lst (rgV 0 24)) a1 = some (.lst (rgV 0 24)) := upd_same
    have hw := wmono r1 hw
    have hb := hb.trans (But.of r1)
    have hp := r1 _ _ hp
    generalize upd H1 a1 (.lst (rgV 0 24)) = G1 at *
    refine ⟨(by show 11 ≤ sizeLine; decide), fun a2 n2 => ?_⟩
    have z2 : a2 ≠ l := well_ne hw n2
    have q2 : a2 ≠ rp := (ne_of_none hp n2).symm
    have r2 := same_upd' (o := .lst [V.int 1, V.int 1, V.int 1, V.int 1, V.int 3, V.int 3, V.int 3, V.int 2, V.int 4, V.int 12, V.int 19]) n2
    have h2 : upd G1 a2 (.lst [V.int 1, V.int 1, V.int 1, V.int 1, V.int 3, V.int 3, V.int 3, V.int 2, V.int 4, V.int 12, V.int 19]) a2 = some (.lst (([1, 1, 1, 1, 3, 3, 3, 2, 4, 12, 19] : List Int).map V.int)) := upd_same
    have hw := wmono r2 hw
    have hb := hb.trans (But.of r2)
    have hp := r2 _ _ hp
    generalize upd G1 a2 (.lst [V.int 1, V.int 1, V.int 1, V.int 1, V.int 3, V.int 3, V.int 3, V.int 2, V.int 4, V.int 12, V.int 19]) = G2 at *
    have h1 := r2 _ _ h1
    refine ⟨a1, a2, _, _, rfl, rfl, h1, h2, (by rw [rgV_length]; show 24 + 11 ≤ sizeLine; decide), fun a3 n3 => ?_⟩
    have z3 : a3 ≠ l := well_ne hw n3
    have q3 : a3 ≠ rp := (ne_of_none hp n3).symm
    have r3 := same_upd' (o := .lst (rgV 0 24 ++ ([1, 1, 1, 1, 3, 3, 3, 2, 4, 12, 19] : List Int).map V.int)) n3
    have h3 : upd G2 a3 (.lst (rgV 0 24 ++ ([1, 1, 1, 1, 3, 3, 3, 2, 4, 12, 19] : List Int).map V.int)) a3 = some (.lst (rgV 0 24 ++ ([1, 1, 1, 1, 3, 3, 3, 2, 4, 12, 19] : List Int).map V.int)) := upd_same
    have hw := wmono r3 hw
    have hb := hb.trans (But.of r3)
    have hp := r3 _ _ hp
    generalize upd G2 a3 (.lst (rgV 0 24 ++ ([1, 1, 1, 1, 3, 3, 3, 2, 4, 12, 19] : List Int).map V.int)) = G3 at *
    clear h1 h2 r1 r2 r3 n1 n2 n3
    refine ⟨l, a3, _, rfl, hw, z3, h3, by decide +kernel, by decide +kernel, fun G4 v4 k4 hw m4 => ?_⟩
    obtain ⟨op, rfl, op0, op1⟩ := opsL m4
    have hb := hb.trans k4
    have hp := k4 _ _ lrp hp
    clear h3 k4 m4
    refine ⟨_, rfl, (by show 7 ≤ sizeLine; decide), fun a5 n5 => ?_⟩
    have z5 : a5 ≠ l := well_ne hw n5
    have q5 : a5 ≠ rp := (ne_of_none hp n5).symm
    have r5 := same_upd' (o := .lst [V.int 512, V.int 518, V.int 767, V.int 768, V.int 770, V.int 773, V.int 511]) n5
    have h5 : upd G4 a5 (.lst [V.int 512, V.int 518, V.int 767, V.int 768, V.int 770, V.int 773, V.int 511]) a5 = some (.lst (([512, 518, 767, 768, 770, 773, 511] : List Int).map V.int)) := upd_same
    have hw := wmono r5 hw
    have hb := hb.trans (But.of r5)
    have hp := r5 _ _ hp
    generalize upd G4 a5 (.lst [V.int 512, V.int 518, V.int 767, V.int 768, V.int 770, V.int 773, V.int 511]) = G5 at *
    refine ⟨l, a5, _, rfl, hw, z5, h5, by decide +kernel, by decide +kernel, fun G6 v6 k6 hw m6 => ?_⟩
    obtain ⟨xa, rfl, xa0, xa1⟩ := intsL (lo := 511) (hi := 773) m6 (by decide)
    have hb := hb.trans k6
    have hp := k6 _ _ lrp hp
    clear h5 k6 m6 r5 n5
    refine ⟨_, rfl, l, _, rfl, hw, by decide, by decide, fun G7 xd k7 hw xd0 xd1 => ?_⟩
    have hb := hb.trans k7
    have hp := k7 _ _ lrp hp
    clear k7
    refine ⟨_, _, rfl, rfl, ?_⟩
    show gName 5 (V.int (xa + xd)) _ _ _
    obtain ⟨x1, ex1, x10, x11⟩ : ∃ x1 : Int, xa + xd = x1 ∧ 0 ≤ x1 ∧ x1 ≤ 900 := ⟨_, rfl, by omega, by omega⟩
    rw [ex1]
    clear ex1
    apply joinZ (I := fun G x => But l H G ∧ WellAt G l ∧ G rp = some (.lst (ws.map V.int)) ∧ 0 ≤ x ∧ x ≤ 900)
    case body =>
      intro k
      refine ⟨_, rfl, (by show 4 ≤ sizeLine; decide), fun a8 n8 => ?_⟩
      have z8 : a8 ≠ l := well_ne hw n8
      have q8 : a8 ≠ rp := (ne_of_none hp n8).symm
      have r8 := same_upd' (o := .lst [V.int 12, V.int 13, V.int 14, V.int 15]) n8
      have h8 : upd G7 a8 (.lst [V.int 12, V.int 13, V.int 14, V.int 15]) a8 = some (.lst (([12, 13, 14, 15] : List Int).map V.int)) := upd_same
      have hw := wmono r8 hw
      have hb := hb.trans (But.of r8)
      have hp := r8 _ _ hp
      generalize upd G7 a8 (.lst [V.int 12, V.int 13, V.int 14, V.int 15]) = G8 at *
      refine ⟨a8, _, rfl, .inl (SqL.of h8), rfl, rfl, _, rfl, ?_⟩
      refine ifB (fun _ => ?_) (fun _ => ?_)
      · refine ⟨_, rfl, _, rfl, _, _, rfl, rfl, l, _, rfl, hw, by omega, by omega, fun G9 d9 k9 hw d90 d91 => ⟨_, _, rfl, rfl, ?_⟩⟩
        have hb := hb.trans k9
        have hp := k9 _ _ lrp hp
        obtain ⟨x2, ex2⟩ : ∃ x2 : Int, 17 + d9 = x2 := ⟨_, rfl⟩
        show gName 5 (V.int (17 + d9)) _ _ _
        rw [ex2]
        exact k G9 x2 ⟨hb, hw, hp, by omega, by omega⟩
      · exact k G8 x1 ⟨hb, hw, hp, x10, x11⟩
    case key =>
      intro Gk x2 hI
      obtain ⟨hb, hw, hp, x20, x21⟩ := hI
      apply joinZ (I := fun G x => But l H G ∧ WellAt G l ∧ G rp = some (.lst (ws.map V.int)) ∧ 0 ≤ x ∧ x ≤ 900)
      case body =>
        intro k
        refine ⟨_, rfl, (by show 4 ≤ sizeLine; decide), fun a8 n8 => ?_⟩
        have z8 : a8 ≠ l := well_ne hw n8
        have q8 : a8 ≠ rp := (ne_of_none hp n8).symm
        have r8 := same_upd' (o := .lst [V.int 1, V.int 8, V.int 9, V.int 20]) n8
        have h8 : upd Gk a8 (.lst [V.int 1, V.int 8, V.int 9, V.int 20]) a8 = some (.lst (([1, 8, 9, 20] : List Int).map V.int)) := upd_same
        have hw := wmono r8 hw
        have hb := hb.trans (But.of r8)
        have hp := r8 _ _ hp
        generalize upd Gk a8 (.lst [V.int 1, V.int 8, V.int 9, V.int 20]) = G8 at *
        refine ⟨a8, _, rfl, .inl (SqL.of h8), rfl, rfl, _, rfl, ?_⟩
        refine ifB (fun _ => ?_) (fun _ => ?_)
        · refine ⟨_, rfl, _, rfl, l, _, rfl, hw, by decide, by decide, fun G9 d9 k9 hw d90 d91 => ?_⟩
          have hb := hb.trans k9
          have hp := k9 _ _ lrp hp
          refine ⟨_, rfl, _, rfl, l, _, rfl, hw, by decide, by decide, fun G10 d10 k10 hw d100 d101 => ⟨_, _, rfl, rfl, (by show 3 ≤ sizeLine; decide), fun a11 n11 => ?_⟩⟩
          have hb := hb.trans k10
          have hp := k10 _ _ lrp hp
          have z11 : a11 ≠ l := well_ne hw n11
          have q11 : a11 ≠ rp := (ne_of_none hp n11).symm
          have r11 := same_upd' (o := .lst [V.int d9, V.int x2, V.int (512 + d10)]) n11
          have h11 : upd G10 a11 (.lst [V.int d9, V.int x2, V.int (512 + d10)]) a11 = some (.lst [V.int d9, V.int x2, V.int (512 + d10)]) := upd_same
          have hw := wmono r11 hw
          have hb := hb.trans (But.of r11)
          have hp := r11 _ _ hp
          generalize upd G10 a11 (.lst [V.int d9, V.int x2, V.int (512 + d10)]) = G11 at *
          refine ⟨l, a11, _, rfl, hw, z11, h11, List.cons_ne_nil _ _, (show 3 ≤ 1000 by decide), fun G12 v12 k12 hw m12 => ?_⟩
          obtain ⟨x3, rfl, x30, x31⟩ := intsL (ns := [d9, x2, 512 + d10]) (lo := 0) (hi := 900) m12 (fun z hz => by
            simp only [List.mem_cons, List.not_mem_nil, or_false] at hz
            omega)
          exact k G12 x3 ⟨hb.trans k12, hw, k12 _ _ lrp hp, x30, x31⟩
        · exact k G8 x2 ⟨hb, hw, hp, x20, x21⟩
      case key =>
        intro Gj x3 hI
        obtain ⟨hb, hw, hp, x30, x31⟩ := hI
        refine ⟨_, rfl, .inl ⟨rfl, _, SqL.of hp⟩, _, rfl, _, _, rfl, rfl, .inl ⟨by decide, by decide⟩, _, rfl, _, _, rfl, rfl, rp, _, _, rfl, rfl, hp, (by rw [List.length_map]; exact hszL (by omega)), ?_⟩
        have kf : But l H (upd Gj rp (.lst (ws.map V.int ++ [V.int (1024 * op + x3)]))) := fun b o n e => by
          have := hb b o n e
          rw [upd_ne (fun z => by rw [z] at e; rw [e] at nrp; cases nrp)]
          exact this
        refine ⟨_, _, _, ws ++ [1024 * op + x3], rfl, kf, ?_, ?_, by rw [List.length_append, hlen]; rfl, wok_app hok (fun z hz => by
          rw [List.mem_singleton.mp hz]
          omega)⟩
        · obtain ⟨u, v, t, e⟩ := hw
          exact ⟨u, v, t, by rw [upd_ne lrp.symm]; exact e⟩
        · rw [upd_same, List.map_append]
          rfl
  rintro σ H1 ⟨y3, y4, y5, ws, rfl, hb, hw, hp, hlen, hok⟩
  have hlen : ws.length = n.toNat := hlen
  obtain ⟨zl, hzl, ezl⟩ := lastI (ws := ws) (by omega)
  have rz := rd_ok hok (i := 0) (by omega) (by omega)
  have rl := hok _ hzl
  refine ⟨_, rfl, rp, _, 0, _, rfl, rfl, SqL.of hp, atI_rd (m := ws) (i := 0) (by omega) (by omega), _, rfl, _, rfl, rp, _, _, _, rfl, rfl, SqL.of hp, ezl, (by show 12 ≤ sizeLine; decide), fun a1 n1 => ?_⟩
  have z1 : a1 ≠ l := well_ne hw n1
  have q1 : a1 ≠ rp := (ne_of_none hp n1).symm
  have r1 := same_upd' (o := .lst [V.int 12300, V.int 12291, V.int 12295, V.int 1025, V.int 3842, V.int (rd ws 0), V.int 21504, V.int 1026, V.int 3842, V.int zl, V.int 21504, V.int 19456]) n1
  have h1 : upd H1 a1 (.lst [V.int 12300, V.int 12291, V.int 12295, V.int 1025, V.int 3842, V.int (rd ws 0), V.int 21504, V.int 1026, V.int 3842, V.int zl, V.int 21504, V.int 19456]) a1 = some (.lst [V.int 12300, V.int 12291, V.int 12295, V.int 1025, V.int 3842, V.int (rd ws 0), V.int 21504, V.int 1026, V.int 3842, V.int zl, V.int 21504, V.int 19456]) := upd_same
  have hw := wmono r1 hw
  have hb := hb.trans (But.of r1)
  have hp := r1 _ _ hp
  generalize upd H1 a1 (.lst [V.int 12300, V.int 12291, V.int 12295, V.int 1025, V.int 3842, V.int (rd ws 0), V.int 21504, V.int 1026, V.int 3842, V.int zl, V.int 21504, V.int 19456]) = G1 at *
  refine ⟨_, rfl, _, rfl, l, _, rfl, hw, by decide, by decide, fun G2 d2 k2 hw d20 d21 => ⟨_, _, rfl, rfl, _, rfl, l, _, rfl, hw, by decide, by decide, fun G3 d3 k3 hw d30 d31 => ⟨_, _, rfl, rfl, _, rfl, l, _, rfl, hw, by decide, by decide, fun G4 d4 k4 hw d40 d41 => ⟨_, _, rfl, rfl, (by show 5 ≤ sizeLine; decide), fun a5 n5 => ?_⟩⟩⟩⟩
  have kk := (k2.trans k3).trans k4
  have hb := hb.trans kk
  have hp := kk _ _ lrp hp
  have h1 := kk _ _ z1 h1
  have z5 : a5 ≠ l := well_ne hw n5
  have q5 : a5 ≠ rp := (ne_of_none hp n5).symm
  have r5 := same_upd' (o := .lst [V.int (1024 + d2), V.int 3841, V.int (1024 + d3), V.int 3843, V.int (20480 + d4)]) n5
  have h5 : upd G4 a5 (.lst [V.int (1024 + d2), V.int 3841, V.int (1024 + d3), V.int 3843, V.int (20480 + d4)]) a5 = some (.lst [V.int (1024 + d2), V.int 3841, V.int (1024 + d3), V.int 3843, V.int (20480 + d4)]) := upd_same
  have hw := wmono r5 hw
  have hb := hb.trans (But.of r5)
  have hp := r5 _ _ hp
  generalize upd G4 a5 (.lst [V.int (1024 + d2), V.int 3841, V.int (1024 + d3), V.int 3843, V.int (20480 + d4)]) = G5 at *
  have h1 := r5 _ _ h1
  refine ⟨a1, a5, _, _, rfl, rfl, h1, h5, (by show 12 + 5 ≤ sizeLine; decide), fun a6 n6 => ?_⟩
  have z6 : a6 ≠ l := well_ne hw n6
  have q6 : a6 ≠ rp := (ne_of_none hp n6).symm
  have r6 := same_upd' (o := .lst ([V.int 12300, V.int 12291, V.int 12295, V.int 1025, V.int 3842, V.int (rd ws 0), V.int 21504, V.int 1026, V.int 3842, V.int zl, V.int 21504, V.int 19456] ++ [V.int (1024 + d2), V.int 3841, V.int (1024 + d3), V.int 3843, V.int (20480 + d4)])) n6
  have h6 : upd G5 a6 (.lst ([V.int 12300, V.int 12291, V.int 12295, V.int 1025, V.int 3842, V.int (rd ws 0), V.int 21504, V.int 1026, V.int 3842, V.int zl, V.int 21504, V.int 19456] ++ [V.int (1024 + d2), V.int 3841, V.int (1024 + d3), V.int 3843, V.int (20480 + d4)])) a6 = some (.lst ([V.int 12300, V.int 12291, V.int 12295, V.int 1025, V.int 3842, V.int (rd ws 0), V.int 21504, V.int 1026, V.int 3842, V.int zl, V.int 21504, V.int 19456] ++ [V.int (1024 + d2), V.int 3841, V.int (1024 + d3), V.int 3843, V.int (20480 + d4)])) := upd_same
  have hw := wmono r6 hw
  have hb := hb.trans (But.of r6)
  have hp := r6 _ _ hp
  generalize upd G5 a6 (.lst ([V.int 12300, V.int 12291, V.int 12295, V.int 1025, V.int 3842, V.int (rd ws 0), V.int 21504, V.int 1026, V.int 3842, V.int zl, V.int 21504, V.int 19456] ++ [V.int (1024 + d2), V.int 3841, V.int (1024 + d3), V.int 3843, V.int (20480 + d4)])) = G6 at *
  refine ⟨_, rfl, _, rfl, a6, rp, _, _, rfl, rfl, h6, hp, (by rw [List.length_map]; exact hsz (by show 17 + ws.length ≤ 100000; omega)), fun a7 n7 => ?_⟩
  have e7 : ([V.int 12300, V.int 12291, V.int 12295, V.int 1025, V.int 3842, V.int (rd ws 0), V.int 21504, V.int 1026, V.int 3842, V.int zl, V.int 21504, V.int 19456] ++ [V.int (1024 + d2), V.int 3841, V.int (1024 + d3), V.int 3843, V.int (20480 + d4)]) ++ ws.map V.int = (([12300, 12291, 12295, 1025, 3842, rd ws 0, 21504, 1026, 3842, zl, 21504, 19456, 1024 + d2, 3841, 1024 + d3, 3843, 20480 + d4] : List Int) ++ ws).map V.int := by rw [List.map_append]; rfl
  rw [e7]
  have r7 := same_upd' (o := .lst ((([12300, 12291, 12295, 1025, 3842, rd ws 0, 21504, 1026, 3842, zl, 21504, 19456, 1024 + d2, 3841, 1024 + d3, 3843, 20480 + d4] : List Int) ++ ws).map V.int)) n7
  have na7 : H a7 = none := by
    cases e : H a7 with
    | none => rfl
    | some o =>
      by_cases y : a7 = l
      · obtain ⟨u, v, t, e'⟩ := hw
        rw [y, e'] at n7; cases n7
      · rw [hb _ _ y e] at n7; cases n7
  refine q _ a7 _ (hb.trans (But.of r7)) (wmono r7 hw) na7 upd_same ?_ (wok_app (fun z hz => ?_) hok)
  · rw [List.length_append]
    show 17 + ws.length ≤ 100
    omega
  · simp only [List.mem_cons, List.not_mem_nil, or_false] at hz
    omega
end
end Bh

/-! The law's own probe. -/
namespace Bh
open PySem PySem.Spec PyProof.Rows L2
section
variable {X : Cx}
/-- d.update(e) -/
def rDUpd : V → List V → Hp → VK → Prop := fun x vs H Q => ∃ (a b : Addr) (ks ls : List (Key × V)), x = .ref a ∧ vs = [.ref b] ∧ a ≠ b ∧ H a = some (.dK ks) ∧ H b = some (.dK ls) ∧ ks.length + ls.length ≤ sizeLine ∧ Q .non (upd H a (.dK (mergeK ks ls)))
theorem mtd_update : MtR X "dict.update" rDUpd := by
  intro pins s σ H x vs v us Q I rx rv h
  obtain ⟨a, b, ks, ls, rfl, rfl, hab, ha, hb, hsz, q⟩ := h
  cases rx
  cases rv with
  | cons r1 rr =>
    cases rr
    cases r1
    obtain ⟨z1, d1, va, ra, da⟩ := dk_of I.hok ha
    obtain ⟨z2, d2, vb, rb, db⟩ := dk_of I.hok hb
    refine call_meetsIn PySem.F.slot_dict_update da.typeIs PySem.F.entry_dict_update (PySem.F.args_dict_update_2 _ _) (meets_dict_update (mixKind X.prog X.w) a b hab d2) ⟨va, vb, da, db, by rw [← ra.length, ← rb.length]; exact hsz, fun h' da' db' hs => ?_⟩
    have he : ∃ q, h'.get? a = some q := let ⟨q, _, _, hq, _⟩ := da'; ⟨q, hq⟩
    exact ⟨.non, _, d_write (t' := s.toks) I (by rw [ha]; exact True.intro) hs he (dk_new (Nat.le_trans (length_mergeK ls ks) hsz) d1 (KV.merge rb ra) da'), rfl, q⟩
end
def lbD (m ln se so to : Addr) : List (Key × V) := [(Sum.inr "m", .ref m), (Sum.inr "line", .ref ln), (Sum.inr "a", .int 0), (Sum.inr "b", .int 0), (Sum.inr "pc", .int 0), (Sum.inr "sp", .int 767), (Sum.inr "zero", .bl false), (Sum.inr "lets", .bl false), (Sum.inr "asleep", .bl false), (Sum.inr "beat", .int 0), (Sum.inr "stop", .non), (Sum.inr "sent", .ref se), (Sum.inr "soft", .ref so), (Sum.inr "touched", .ref to)]
def spLBrd : Sp := fun vs H Q _ => ∃ (im li : Addr) (ns : List Int), vs = [.ref im, .ref li] ∧ H im = some (.lst (ns.map V.int)) ∧ ns.length ≤ 512 ∧ H li = some (.lst []) ∧
  ∀ (H' : Hp) (d m ln se so to : Addr), Same H H' → H' d = some (.dK (lbD m ln se so to)) → H' m = some (.lst ((memOf ns).map V.int)) → H' se = some (.lst []) → H' so = some (.dK []) → H so = none → Q (.ref d) H'
section
variable {P : Program} {w : World} {K : PySem.W.Frag} {mg : Str → Option Value} {base : Heap} {CB CM CP CK CW CF CH CC CI CS CN CL : Addr}
abbrev sLbrd : Stmt := topS 103
def scLbrdN : List Str := ["_law_image", "_law_line", "_law_b"]
theorem scLbrd : FnScope scLbrdN ["_law_image", "_law_line"] (defScope sLbrd) := ⟨rfl, rfl, rfl, by decide +kernel, rfl, by decide +kernel, by decide +kernel⟩
theorem ok_Lbrd {f : Addr} {fd : FuncData} (F : Fun K "_law_board" "_law_board" sLbrd f fd) (T : Ty K mg CB CM CP CK CW CF CH CC CI CS)
    (z_dict : mg "dict" = none) : FnOk P w K mg base CX0 1 f fd ["_law_image", "_law_line"] (spLBrd) := by
  refine F.ok scLbrd (fun vs H Q E h => by obtain ⟨_, _, _, rfl, _⟩ := h; rfl) (fun cdv A outer s H vs Q E hr h => ?_)
  have hu := hu_of hr
  have z_len := T.z_len
  have z_list := T.z_list
  obtain ⟨im, li, ns, rfl, him, hl, hli, q⟩ := h
  refine ⟨_, (pss_cons (ps_set (i := 2) scLbrd.nd rfl (.inl rfl) (pe_disp (pps_cons pe_str (pe_op op_cat (pe_op op_cat (pe_callTy call_list_of (by rfl) z_list (by decide +kernel) (pa_cons (pv 0) pa_nil)) (pe_op op_rep (pe_lst (pa_cons pe_int pa_nil)) (pe_op op_sub pe_int (pe_callB call_len_seq (by rfl) z_len PySem.boot_len (pa_cons (pv 0) pa_nil))))) (pe_op op_rep (pe_lst (pa_cons pe_int pa_nil)) pe_int)) (pps_cons pe_str (pe_callTy (call_dictP rfl) (by rfl) z_dict (by decide +kernel) (pa_cons (pv 1) pa_nil)) (pps_cons pe_str pe_int (pps_cons pe_str pe_int (pps_cons pe_str pe_int pps_nil))))) rfl rfl (by intro h; cases h) (by decide)))
    (pss_cons (ps_expr (pe_bm PySem.F.plainAttrs_dict PySem.F.slot_dict_update PySem.F.type_dict_update mtd_update (pv 2) (pa_cons (pe_disp (pps_cons pe_str pe_int (pps_cons pe_str pe_bl (pps_cons pe_str pe_bl (pps_cons pe_str pe_bl (pps_cons pe_str pe_int (pps_cons pe_str pe_non (pps_cons pe_str (pe_lst pa_nil) pps_nil))))))) rfl rfl (by intro h; cases h) (by decide)) pa_nil)))
    (pss_cons (ps_dput hu (pv 2) pe_str pe_dnewK rfl)
    (pss_cons (ps_dput hu (pv 2) pe_str (pe_lst pa_nil) rfl)
    (pss_one (ps_ret (pv 2))))))), ?_⟩
  intro d nd
  have sm := same_upd' (o := .dK []) nd
  have hd : upd H d (.dK []) d = some (.dK []) := upd_same
  have him := sm _ _ him
  have hli := sm _ _ hli
  generalize upd H d (.dK []) = G0 at *
  refine ⟨_, rfl, im, _, rfl, .inl (SqL.of him), fun l1 n1 => ?_⟩
  have r1 := same_upd' (o := .lst (ns.map V.int)) n1
  have h1 : upd G0 l1 (.lst (ns.map V.int)) l1 = some (.lst (ns.map V.int)) := upd_same
  have hd := r1 _ _ hd
  have him := r1 _ _ him
  have hli := r1 _ _ hli
  have sm := sm.trans r1
  generalize upd G0 l1 (.lst (ns.map V.int)) = G1 at *
  refine ⟨(by show 1 ≤ sizeLine; decide), fun l2 n2 => ?_⟩
  have r2 := same_upd' (o := .lst [.int 65535]) n2
  have h2 : upd G1 l2 (.lst [.int 65535]) l2 = some (.lst [.int 65535]) := upd_same
  have hd := r2 _ _ hd
  have him := r2 _ _ him
  have hli := r2 _ _ hli
  have h1 := r2 _ _ h1
  have sm := sm.trans r2
  generalize upd G1 l2 (.lst [.int 65535]) = G2 at *
  refine ⟨_, rfl, im, _, rfl, .inl (SqL.of him), _, _, rfl, rfl, l2, _, _, rfl, rfl, h2, ?_, ?_, ?_, fun l3 n3 => ?_⟩
  · rw [List.length_map]; omega
  · rw [List.length_map]; omega
  · rw [List.length_map, List.length_singleton]; exact hsz (by omega)
  have e2 : (List.replicate (512 - ((ns.map V.int).length : Int)).toNat [V.int 65535]).flatten = (List.replicate (512 - ns.length) (65535 : Int)).map V.int := by
    rw [List.length_map, show (512 - (ns.length : Int)).toNat = 512 - ns.length by omega]
    exact flat_rep _ _
  rw [e2]
  have r3 := same_upd' (o := .lst ((List.replicate (512 - ns.length) (65535 : Int)).map V.int)) n3
  have h3 : upd G2 l3 (.lst ((List.replicate (512 - ns.length) (65535 : Int)).map V.int)) l3 = some (.lst ((List.replicate (512 - ns.length) (65535 : Int)).map V.int)) := upd_same
  have hd := r3 _ _ hd
  have hli := r3 _ _ hli
  have h1 := r3 _ _ h1
  have sm := sm.trans r3
  generalize upd G2 l3 (.lst ((List.replicate (512 - ns.length) (65535 : Int)).map V.int)) = G3 at *
  refine ⟨l1, l3, _, _, rfl, rfl, h1, h3, ?_, fun l4 n4 => ?_⟩
  · rw [List.length_map, List.length_map, List.length_replicate]; exact hsz (by omega)
  have r4 := same_upd' (o := .lst (ns.map V.int ++ (List.replicate (512 - ns.length) (65535 : Int)).map V.int)) n4
  have h4 : upd G3 l4 (.lst (ns.map V.int ++ (List.replicate (512 - ns.length) (65535 : Int)).map V.int)) l4 = some (.lst (ns.map V.int ++ (List.replicate (512 - ns.length) (65535 : Int)).map V.int)) := upd_same
  have hd := r4 _ _ hd
  have hli := r4 _ _ hli
  have sm := sm.trans r4
  generalize upd G3 l4 (.lst (ns.map V.int ++ (List.replicate (512 - ns.length) (65535 : Int)).map V.int)) = G4 at *
  refine ⟨(by show 1 ≤ sizeLine; decide), fun l5 n5 => ?_⟩
  have r5 := same_upd' (o := .lst [.int 0]) n5
  have h5 : upd G4 l5 (.lst [.int 0]) l5 = some (.lst [.int 0]) := upd_same
  have hd := r5 _ _ hd
  have hli := r5 _ _ hli
  have h4 := r5 _ _ h4
  have sm := sm.trans r5
  generalize upd G4 l5 (.lst [.int 0]) = G5 at *
  refine ⟨l5, _, _, rfl, rfl, h5, by decide, by decide, (by show 1 * 262 ≤ sizeLine; decide), fun l6 n6 => ?_⟩
  have e4 : (List.replicate (262 : Int).toNat [V.int 0]).flatten = (List.replicate 262 (0 : Int)).map V.int := flat_rep 262 0
  rw [e4]
  have r6 := same_upd' (o := .lst ((List.replicate 262 (0 : Int)).map V.int)) n6
  have h6 : upd G5 l6 (.lst ((List.replicate 262 (0 : Int)).map V.int)) l6 = some (.lst ((List.replicate 262 (0 : Int)).map V.int)) := upd_same
  have hd := r6 _ _ hd
  have hli := r6 _ _ hli
  have h4 := r6 _ _ h4
  have sm := sm.trans r6
  generalize upd G5 l6 (.lst ((List.replicate 262 (0 : Int)).map V.int)) = G6 at *
  refine ⟨l4, l6, _, _, rfl, rfl, h4, h6, ?_, fun l7 n7 => ?_⟩
  · rw [List.length_append, List.length_map, List.length_map, List.length_map, List.length_replicate, List.length_replicate]; exact hsz (by omega)
  have n7d : l7 ≠ d := (ne_of_none hd n7).symm
  have em : ns.map V.int ++ (List.replicate (512 - ns.length) (65535 : Int)).map V.int ++ (List.replicate 262 (0 : Int)).map V.int = (memOf ns).map V.int := by
    unfold memOf
    rw [List.map_append, List.map_append]
  rw [em]
  have r7 := same_upd' (o := .lst ((memOf ns).map V.int)) n7
  have h7 : upd G6 l7 (.lst ((memOf ns).map V.int)) l7 = some (.lst ((memOf ns).map V.int)) := upd_same
  have hd := r7 _ _ hd
  have hli := r7 _ _ hli
  have sm := sm.trans r7
  generalize upd G6 l7 (.lst ((memOf ns).map V.int)) = G7 at *
  refine ⟨_, rfl, li, [], [], rfl, SqL.of hli, .nil, fun l8 n8 => ?_⟩
  rw [show mergeK [] ([] : List (Key × V)) = [] from rfl]
  have r8 := same_upd' (o := .dK []) n8
  have h8 : upd G7 l8 (.dK []) l8 = some (.dK []) := upd_same
  have hd := r8 _ _ hd
  have h7 := r8 _ _ h7
  have sm := sm.trans r8
  generalize upd G7 l8 (.dK []) = G8 at *
  refine ⟨hd, [((Sum.inr "m" : Key), V.ref l7), (Sum.inr "line", .ref l8), (Sum.inr "a", .int 0), (Sum.inr "b", .int 0), (Sum.inr "pc", .int 0)], rfl, (by show 5 ≤ 15; decide), ?_⟩
  have em8 : mergeK [] ([((Sum.inr "m" : Key), V.ref l7), (Sum.inr "line", .ref l8), (Sum.inr "a", .int 0), (Sum.inr "b", .int 0), (Sum.inr "pc", .int 0)] : List (Key × V)) = [((Sum.inr "m" : Key), V.ref l7), (Sum.inr "line", .ref l8), (Sum.inr "a", .int 0), (Sum.inr "b", .int 0), (Sum.inr "pc", .int 0)] := by kernel_rfl
  rw [em8]
  have h7 : upd G8 d (.dK [((Sum.inr "m" : Key), V.ref l7), (Sum.inr "line", .ref l8), (Sum.inr "a", .int 0), (Sum.inr "b", .int 0), (Sum.inr "pc", .int 0)]) l7 = some (.lst ((memOf ns).map V.int)) := by rw [upd_ne n7d]; exact h7
  have h9 : upd G8 d (.dK [((Sum.inr "m" : Key), V.ref l7), (Sum.inr "line", .ref l8), (Sum.inr "a", .int 0), (Sum.inr "b", .int 0), (Sum.inr "pc", .int 0)]) d = some (.dK [((Sum.inr "m" : Key), V.ref l7), (Sum.inr "line", .ref l8), (Sum.inr "a", .int 0), (Sum.inr "b", .int 0), (Sum.inr "pc", .int 0)]) := upd_same
  have fd := nd
  have sm := same_of (o := .dK [((Sum.inr "m" : Key), V.ref l7), (Sum.inr "line", .ref l8), (Sum.inr "a", .int 0), (Sum.inr "b", .int 0), (Sum.inr "pc", .int 0)]) sm nd
  generalize upd G8 d (.dK [((Sum.inr "m" : Key), V.ref l7), (Sum.inr "line", .ref l8), (Sum.inr "a", .int 0), (Sum.inr "b", .int 0), (Sum.inr "pc", .int 0)]) = G9 at *
  refine ⟨_, rfl, .inr (.inr (.inl ⟨rfl, .inl ⟨_, h9⟩⟩)), ?_⟩
  intro e ne_
  have sm0 := sm
  have nde : d ≠ e := ne_of_none h9 ne_
  have r10 := same_upd' (o := .dK []) ne_
  have h10 : upd G9 e (.dK []) e = some (.dK []) := upd_same
  have h9 := r10 _ _ h9
  have h7 := r10 _ _ h7
  have sm := sm.trans r10
  generalize upd G9 e (.dK []) = G10 at *
  refine ⟨Nat.zero_le _, fun se nse => ?_⟩
  have r11 := same_upd' (o := .lst []) nse
  have hse : upd G10 se (.lst []) se = some (.lst []) := upd_same
  have h10 := r11 _ _ h10
  have h9 := r11 _ _ h9
  have h7 := r11 _ _ h7
  have sm := sm.trans r11
  generalize upd G10 se (.lst []) = G11 at *
  refine ⟨h10, [((Sum.inr "sp" : Key), V.int 767), (Sum.inr "zero", .bl false), (Sum.inr "lets", .bl false), (Sum.inr "asleep", .bl false), (Sum.inr "beat", .int 0), (Sum.inr "stop", .non), (Sum.inr "sent", .ref se)], rfl, (by show 7 ≤ 15; decide), ?_⟩
  have em2 : mergeK [] ([((Sum.inr "sp" : Key), V.int 767), (Sum.inr "zero", .bl false), (Sum.inr "lets", .bl false), (Sum.inr "asleep", .bl false), (Sum.inr "beat", .int 0), (Sum.inr "stop", .non), (Sum.inr "sent", .ref se)] : List (Key × V)) = [((Sum.inr "sp" : Key), V.int 767), (Sum.inr "zero", .bl false), (Sum.inr "lets", .bl false), (Sum.inr "asleep", .bl false), (Sum.inr "beat", .int 0), (Sum.inr "stop", .non), (Sum.inr "sent", .ref se)] := by kernel_rfl
  rw [em2]
  have k12 : ∀ b o, b ≠ e → G11 b = some o → upd G11 e (.dK [((Sum.inr "sp" : Key), V.int 767), (Sum.inr "zero", .bl false), (Sum.inr "lets", .bl false), (Sum.inr "asleep", .bl false), (Sum.inr "beat", .int 0), (Sum.inr "stop", .non), (Sum.inr "sent", .ref se)]) b = some o := fun b o n x => by rw [upd_ne n]; exact x
  have h9 := k12 _ _ nde h9
  have h7 := k12 _ _ (ne_of h7 h10 (by intro z; cases z)) h7
  have hse := k12 _ _ (ne_of hse h10 (by intro z; cases z)) hse
  have h10' : upd G11 e (.dK [((Sum.inr "sp" : Key), V.int 767), (Sum.inr "zero", .bl false), (Sum.inr "lets", .bl false), (Sum.inr "asleep", .bl false), (Sum.inr "beat", .int 0), (Sum.inr "stop", .non), (Sum.inr "sent", .ref se)]) e = some (.dK [((Sum.inr "sp" : Key), V.int 767), (Sum.inr "zero", .bl false), (Sum.inr "lets", .bl false), (Sum.inr "asleep", .bl false), (Sum.inr "beat", .int 0), (Sum.inr "stop", .non), (Sum.inr "sent", .ref se)]) := upd_same
  have fe : H e = none := sm0.free ne_
  have sm := same_of (o := .dK [((Sum.inr "sp" : Key), V.int 767), (Sum.inr "zero", .bl false), (Sum.inr "lets", .bl false), (Sum.inr "asleep", .bl false), (Sum.inr "beat", .int 0), (Sum.inr "stop", .non), (Sum.inr "sent", .ref se)]) sm fe
  generalize upd G11 e (.dK [((Sum.inr "sp" : Key), V.int 767), (Sum.inr "zero", .bl false), (Sum.inr "lets", .bl false), (Sum.inr "asleep", .bl false), (Sum.inr "beat", .int 0), (Sum.inr "stop", .non), (Sum.inr "sent", .ref se)]) = G12 at *
  refine ⟨d, e, _, _, rfl, rfl, nde, h9, h10', (by show 5 + 7 ≤ sizeLine; decide), ?_⟩
  have em3 : mergeK ([((Sum.inr "m" : Key), V.ref l7), (Sum.inr "line", .ref l8), (Sum.inr "a", .int 0), (Sum.inr "b", .int 0), (Sum.inr "pc", .int 0)] : List (Key × V)) [((Sum.inr "sp" : Key), V.int 767), (Sum.inr "zero", .bl false), (Sum.inr "lets", .bl false), (Sum.inr "asleep", .bl false), (Sum.inr "beat", .int 0), (Sum.inr "stop", .non), (Sum.inr "sent", .ref se)] = [((Sum.inr "m" : Key), V.ref l7), (Sum.inr "line", .ref l8), (Sum.inr "a", .int 0), (Sum.inr "b", .int 0), (Sum.inr "pc", .int 0)] ++ [((Sum.inr "sp" : Key), V.int 767), (Sum.inr "zero", .bl false), (Sum.inr "lets", .bl false), (Sum.inr "asleep", .bl false), (Sum.inr "beat", .int 0), (Sum.inr "stop", .non), (Sum.inr "sent", .ref se)] := by kernel_rfl
  rw [em3]
  have k13 : ∀ b o, b ≠ d → G12 b = some o → upd G12 d (.dK ([((Sum.inr "m" : Key), V.ref l7), (Sum.inr "line", .ref l8), (Sum.inr "a", .int 0), (Sum.inr "b", .int 0), (Sum.inr "pc", .int 0)] ++ [((Sum.inr "sp" : Key), V.int 767), (Sum.inr "zero", .bl false), (Sum.inr "lets", .bl false), (Sum.inr "asleep", .bl false), (Sum.inr "beat", .int 0), (Sum.inr "stop", .non), (Sum.inr "sent", .ref se)])) b = some o := fun b o n x => by rw [upd_ne n]; exact x
  have h7 := k13 _ _ (ne_of h7 h9 (by intro z; cases z)) h7
  have hse := k13 _ _ (ne_of hse h9 (by intro z; cases z)) hse
  have h9' : upd G12 d (.dK ([((Sum.inr "m" : Key), V.ref l7), (Sum.inr "line", .ref l8), (Sum.inr "a", .int 0), (Sum.inr "b", .int 0), (Sum.inr "pc", .int 0)] ++ [((Sum.inr "sp" : Key), V.int 767), (Sum.inr "zero", .bl false), (Sum.inr "lets", .bl false), (Sum.inr "asleep", .bl false), (Sum.inr "beat", .int 0), (Sum.inr "stop", .non), (Sum.inr "sent", .ref se)])) d = some (.dK ([((Sum.inr "m" : Key), V.ref l7), (Sum.inr "line", .ref l8), (Sum.inr "a", .int 0), (Sum.inr "b", .int 0), (Sum.inr "pc", .int 0)] ++ [((Sum.inr "sp" : Key), V.int 767), (Sum.inr "zero", .bl false), (Sum.inr "lets", .bl false), (Sum.inr "asleep", .bl false), (Sum.inr "beat", .int 0), (Sum.inr "stop", .non), (Sum.inr "sent", .ref se)])) := upd_same
  have sm := same_of (o := .dK ([((Sum.inr "m" : Key), V.ref l7), (Sum.inr "line", .ref l8), (Sum.inr "a", .int 0), (Sum.inr "b", .int 0), (Sum.inr "pc", .int 0)] ++ [((Sum.inr "sp" : Key), V.int 767), (Sum.inr "zero", .bl false), (Sum.inr "lets", .bl false), (Sum.inr "asleep", .bl false), (Sum.inr "beat", .int 0), (Sum.inr "stop", .non), (Sum.inr "sent", .ref se)])) sm fd
  generalize upd G12 d (.dK ([((Sum.inr "m" : Key), V.ref l7), (Sum.inr "line", .ref l8), (Sum.inr "a", .int 0), (Sum.inr "b", .int 0), (Sum.inr "pc", .int 0)] ++ [((Sum.inr "sp" : Key), V.int 767), (Sum.inr "zero", .bl false), (Sum.inr "lets", .bl false), (Sum.inr "asleep", .bl false), (Sum.inr "beat", .int 0), (Sum.inr "stop", .non), (Sum.inr "sent", .ref se)])) = G13 at *
  intro so nso
  have fso : H so = none := sm.free nso
  have r14 := same_upd' (o := .dK []) nso
  have hso : upd G13 so (.dK []) so = some (.dK []) := upd_same
  have nds : d ≠ so := ne_of_none h9' nso
  have h9' := r14 _ _ h9'
  have h7 := r14 _ _ h7
  have hse := r14 _ _ hse
  have sm := sm.trans r14
  generalize upd G13 so (.dK []) = G14 at *
  refine ⟨_, rfl, d, _, rfl, DPut.k (k := Sum.inr "soft") h9' (by show 12 < sizeLine; decide), ?_⟩
  have e15 : putK ([((Sum.inr "m" : Key), V.ref l7), (Sum.inr "line", .ref l8), (Sum.inr "a", .int 0), (Sum.inr "b", .int 0), (Sum.inr "pc", .int 0)] ++ [((Sum.inr "sp" : Key), V.int 767), (Sum.inr "zero", .bl false), (Sum.inr "lets", .bl false), (Sum.inr "asleep", .bl false), (Sum.inr "beat", .int 0), (Sum.inr "stop", .non), (Sum.inr "sent", .ref se)]) (Sum.inr "soft") (V.ref so) = [((Sum.inr "m" : Key), V.ref l7), (Sum.inr "line", .ref l8), (Sum.inr "a", .int 0), (Sum.inr "b", .int 0), (Sum.inr "pc", .int 0)] ++ [((Sum.inr "sp" : Key), V.int 767), (Sum.inr "zero", .bl false), (Sum.inr "lets", .bl false), (Sum.inr "asleep", .bl false), (Sum.inr "beat", .int 0), (Sum.inr "stop", .non), (Sum.inr "sent", .ref se)] ++ [((Sum.inr "soft" : Key), V.ref so)] := by kernel_rfl
  rw [e15]
  have k15 : ∀ b o, b ≠ d → G14 b = some o → upd G14 d (.dK ([((Sum.inr "m" : Key), V.ref l7), (Sum.inr "line", .ref l8), (Sum.inr "a", .int 0), (Sum.inr "b", .int 0), (Sum.inr "pc", .int 0)] ++ [((Sum.inr "sp" : Key), V.int 767), (Sum.inr "zero", .bl false), (Sum.inr "lets", .bl false), (Sum.inr "asleep", .bl false), (Sum.inr "beat", .int 0), (Sum.inr "stop", .non), (Sum.inr "sent", .ref se)] ++ [((Sum.inr "soft" : Key), V.ref so)])) b = some o := fun b o n x => by rw [upd_ne n]; exact x
  have h7 := k15 _ _ (ne_of h7 h9' (by intro z; cases z)) h7
  have hse := k15 _ _ (ne_of hse h9' (by intro z; cases z)) hse
  have hso := k15 _ _ nds.symm hso
  have h15 : upd G14 d (.dK ([((Sum.inr "m" : Key), V.ref l7), (Sum.inr "line", .ref l8), (Sum.inr "a", .int 0), (Sum.inr "b", .int 0), (Sum.inr "pc", .int 0)] ++ [((Sum.inr "sp" : Key), V.int 767), (Sum.inr "zero", .bl false), (Sum.inr "lets", .bl false), (Sum.inr "asleep", .bl false), (Sum.inr "beat", .int 0), (Sum.inr "stop", .non), (Sum.inr "sent", .ref se)] ++ [((Sum.inr "soft" : Key), V.ref so)])) d = some (.dK ([((Sum.inr "m" : Key), V.ref l7), (Sum.inr "line", .ref l8), (Sum.inr "a", .int 0), (Sum.inr "b", .int 0), (Sum.inr "pc", .int 0)] ++ [((Sum.inr "sp" : Key), V.int 767), (Sum.inr "zero", .bl false), (Sum.inr "lets", .bl false), (Sum.inr "asleep", .bl false), (Sum.inr "beat", .int 0), (Sum.inr "stop", .non), (Sum.inr "sent", .ref se)] ++ [((Sum.inr "soft" : Key), V.ref so)])) := upd_same
  have sm := same_of (o := .dK ([((Sum.inr "m" : Key), V.ref l7), (Sum.inr "line", .ref l8), (Sum.inr "a", .int 0), (Sum.inr "b", .int 0), (Sum.inr "pc", .int 0)] ++ [((Sum.inr "sp" : Key), V.int 767), (Sum.inr "zero", .bl false), (Sum.inr "lets", .bl false), (Sum.inr "asleep", .bl false), (Sum.inr "beat", .int 0), (Sum.inr "stop", .non), (Sum.inr "sent", .ref se)] ++ [((Sum.inr "soft" : Key), V.ref so)])) sm fd
  generalize upd G14 d (.dK ([((Sum.inr "m" : Key), V.ref l7), (Sum.inr "line", .ref l8), (Sum.inr "a", .int 0), (Sum.inr "b", .int 0), (Sum.inr "pc", .int 0)] ++ [((Sum.inr "sp" : Key), V.int 767), (Sum.inr "zero", .bl false), (Sum.inr "lets", .bl false), (Sum.inr "asleep", .bl false), (Sum.inr "beat", .int 0), (Sum.inr "stop", .non), (Sum.inr "sent", .ref se)] ++ [((Sum.inr "soft" : Key), V.ref so)])) = G15 at *
  refine ⟨Nat.zero_le _, fun to nto => ?_⟩
  have r16 := same_upd' (o := .lst []) nto
  have h15 := r16 _ _ h15
  have h7 := r16 _ _ h7
  have hse := r16 _ _ hse
  have hso := r16 _ _ hso
  have sm := sm.trans r16
  generalize upd G15 to (.lst []) = G16 at *
  refine ⟨_, rfl, d, _, rfl, DPut.k (k := Sum.inr "touched") h15 (by show 13 < sizeLine; decide), ?_⟩
  have e17 : putK ([((Sum.inr "m" : Key), V.ref l7), (Sum.inr "line", .ref l8), (Sum.inr "a", .int 0), (Sum.inr "b", .int 0), (Sum.inr "pc", .int 0)] ++ [((Sum.inr "sp" : Key), V.int 767), (Sum.inr "zero", .bl false), (Sum.inr "lets", .bl false), (Sum.inr "asleep", .bl false), (Sum.inr "beat", .int 0), (Sum.inr "stop", .non), (Sum.inr "sent", .ref se)] ++ [((Sum.inr "soft" : Key), V.ref so)]) (Sum.inr "touched") (V.ref to) = lbD l7 l8 se so to := by kernel_rfl
  rw [e17]
  have k17 : ∀ b o, b ≠ d → G16 b = some o → upd G16 d (.dK (lbD l7 l8 se so to)) b = some o := fun b o n x => by rw [upd_ne n]; exact x
  refine ⟨_, rfl, q _ d l7 l8 se so to (same_of sm fd) upd_same (k17 _ _ (ne_of h7 h15 (by intro z; cases z)) h7) (k17 _ _ (ne_of hse h15 (by intro z; cases z)) hse) (k17 _ _ nds.symm hso) fso⟩
end
end Bh

/-! The law's own probe. -/
namespace Bh
open PySem PySem.Spec PyProof.Rows L2
def lpD (b hd lw wo : Addr) : List (Key × V) := [(Sum.inr "b", .ref b), (Sum.inr "hard", .ref hd), (Sum.inr "windows", .ref lw), (Sum.inr "worn", .ref wo), (Sum.inr "gone", .int 0)]
/-- the law's own probe, but the list of its windows -/
structure LpAt (H : Hp) (d b m ln se so to hd lw wo : Addr) (ns : List Int) : Prop where
  hd_ : H d = some (.dK (lpD b hd lw wo))
  hb : H b = some (.dK (lbD m ln se so to))
  hm : H m = some (.lst ((memOf ns).map V.int))
  hse : H se = some (.lst [])
  hso : H so = some (.dK [])
  hhd : H hd = some (.dK [])
  hwo : H wo = some (.lst ((List.replicate 16 (0 : Int)).map V.int))
def spLPrb : Sp := fun vs H Q _ => ∃ (im li : Addr) (ns : List Int), vs = [.ref im, .ref li] ∧ H im = some (.lst (ns.map V.int)) ∧ ns.length ≤ 512 ∧ H li = some (.lst []) ∧
  ∀ (H' : Hp) (d b m ln se so to hd lw wo : Addr), Same H H' → LpAt H' d b m ln se so to hd lw wo ns → H' lw = some (.lst [.non, .non]) → H lw = none → m ≠ lw → se ≠ lw → wo ≠ lw → Q (.ref d) H'
section
variable {P : Program} {w : World} {K : PySem.W.Frag} {mg : Str → Option Value} {base : Heap} {CB CM CP CK CW CF CH CC CI CS CN CL : Addr}
abbrev sLprb : Stmt := topS 104
def scLprbN : List Str := ["_law_image", "_law_line"]
theorem scLprb : FnScope scLprbN ["_law_image", "_law_line"] (defScope sLprb) := ⟨rfl, rfl, rfl, by decide +kernel, rfl, by decide +kernel, by decide +kernel⟩
theorem ok_Lprb {f : Addr} {fd : FuncData} {fL_brd : Addr} {dL_brd : FuncData} (F : Fun K "_law_probe" "_law_probe" sLprb f fd) (T : Ty K mg CB CM CP CK CW CF CH CC CI CS)
    (L_brd : CalF P w K mg base 1 "_law_board" ["_law_image", "_law_line"] (spLBrd) fL_brd dL_brd) : FnOk P w K mg base CX0 2 f fd ["_law_image", "_law_line"] (spLPrb) := by
  refine F.ok scLprb (fun vs H Q E h => by obtain ⟨_, _, _, rfl, _⟩ := h; rfl) (fun cdv A outer s H vs Q E hr h => ?_)
  have hu := hu_of hr
  obtain ⟨im, li, ns, rfl, him, hl, hli, q⟩ := h
  refine ⟨_, (pss_one (ps_ret (pe_disp (pps_cons pe_str (pe_call L_brd.G (hr.mono (by decide)) (by rfl) L_brd.g L_brd.kp L_brd.b .nil pass0 (pa_cons (pv 0) (pa_cons (pv 1) pa_nil))) (pps_cons pe_str pe_dnewK (pps_cons pe_str (pe_lst (pa_cons pe_non (pa_cons pe_non pa_nil))) (pps_cons pe_str (pe_op op_rep (pe_lst (pa_cons pe_int pa_nil)) pe_int) (pps_cons pe_str pe_int pps_nil))))) rfl rfl (by intro h; cases h) (by decide)))), ?_⟩
  intro d nd
  have sm := same_upd' (o := .dK []) nd
  have hd : upd H d (.dK []) d = some (.dK []) := upd_same
  have him := sm _ _ him
  have hli := sm _ _ hli
  generalize upd H d (.dK []) = G0 at *
  refine ⟨_, rfl, _, rfl, im, li, ns, rfl, him, hl, hli, fun G1 b m ln se so to s1 hb hm hse hso fso => ?_⟩
  have nsd : so ≠ d := (ne_of_none hd fso).symm
  have sm := sm.trans s1
  have hd := s1 _ _ hd
  intro hh nhh
  have r2 := same_upd' (o := .dK []) nhh
  have hhh : upd G1 hh (.dK []) hh = some (.dK []) := upd_same
  have ndh : d ≠ hh := ne_of_none hd nhh
  have nbh : b ≠ hh := ne_of_none hb nhh
  have bigger : Same G1 (upd G1 hh (.dK [])) := r2
  have hd := r2 _ _ hd
  have hb := r2 _ _ hb
  have hm := r2 _ _ hm
  have hse := r2 _ _ hse
  have hso := r2 _ _ hso
  have sm := sm.trans r2
  generalize upd G1 hh (.dK []) = G2 at *
  refine ⟨(by show 2 ≤ sizeLine; decide), fun lw nlw => ?_⟩
  have flw : H lw = none := sm.free nlw
  have mlw : m ≠ lw := ne_of_none hm nlw
  have slw : se ≠ lw := ne_of_none hse nlw
  have r3 := same_upd' (o := .lst [V.non, V.non]) nlw
  have hlw : upd G2 lw (.lst [V.non, V.non]) lw = some (.lst [V.non, V.non]) := upd_same
  have hd := r3 _ _ hd
  have hb := r3 _ _ hb
  have hm := r3 _ _ hm
  have hse := r3 _ _ hse
  have hso := r3 _ _ hso
  have hhh := r3 _ _ hhh
  have sm := sm.trans r3
  generalize upd G2 lw (.lst [V.non, V.non]) = G3 at *
  refine ⟨(by show 1 ≤ sizeLine; decide), fun l4 n4 => ?_⟩
  have r4 := same_upd' (o := .lst [V.int 0]) n4
  have h4 : upd G3 l4 (.lst [V.int 0]) l4 = some (.lst [V.int 0]) := upd_same
  refine ⟨l4, _, _, rfl, rfl, h4, by decide, by decide, (by show 1 * 16 ≤ sizeLine; decide), fun wo nwo => ?_⟩
  rw [flat_r16]
  have nwl : wo ≠ lw := (ne_of_none (r4 _ _ hlw) nwo).symm
  have r5 := r4.trans (same_upd' (o := .lst ((List.replicate 16 (0 : Int)).map V.int)) nwo)
  have hwo : upd (upd G3 l4 (.lst [V.int 0])) wo (.lst ((List.replicate 16 (0 : Int)).map V.int)) wo = some (.lst ((List.replicate 16 (0 : Int)).map V.int)) := upd_same
  have hd := r5 _ _ hd
  have hb := r5 _ _ hb
  have hm := r5 _ _ hm
  have hse := r5 _ _ hse
  have hso := r5 _ _ hso
  have hhh := r5 _ _ hhh
  have hlw := r5 _ _ hlw
  have sm := sm.trans r5
  generalize upd (upd G3 l4 (.lst [V.int 0])) wo (.lst ((List.replicate 16 (0 : Int)).map V.int)) = G5 at *
  refine ⟨hd, [((Sum.inr "b" : Key), V.ref b), (Sum.inr "hard", .ref hh), (Sum.inr "windows", .ref lw), (Sum.inr "worn", .ref wo), (Sum.inr "gone", .int 0)], rfl, (by show 5 ≤ 15; decide), ?_⟩
  have em8 : mergeK [] ([((Sum.inr "b" : Key), V.ref b), (Sum.inr "hard", .ref hh), (Sum.inr "windows", .ref lw), (Sum.inr "worn", .ref wo), (Sum.inr "gone", .int 0)] : List (Key × V)) = lpD b hh lw wo := by kernel_rfl
  rw [em8]
  have k6 : ∀ a o, a ≠ d → G5 a = some o → upd G5 d (.dK (lpD b hh lw wo)) a = some o := fun a o n x => by rw [upd_ne n]; exact x
  have nbd : b ≠ d := fun z => by
    rw [z, hd] at hb
    have q := HO.dK.inj (Option.some.inj hb)
    cases q
  exact q _ d b m ln se so to hh lw wo (same_of sm nd) ⟨upd_same, k6 _ _ nbd hb, k6 _ _ (ne_of hm hd (by intro z; cases z)) hm, k6 _ _ (ne_of hse hd (by intro z; cases z)) hse, k6 _ _ nsd hso, k6 _ _ ndh.symm hhh, k6 _ _ (ne_of hwo hd (by intro z; cases z)) hwo⟩ (k6 _ _ (ne_of hlw hd (by intro z; cases z)) hlw) flw mlw slw nwl
end
end Bh

/-! What is told of both probes. -/
namespace Bh
open PySem PySem.Spec PyProof.Rows L2
theorem tk_snoc {α : Type} {l : List α} {v : α} {j : Nat} (h : l[j]? = some v) : l.take j ++ [v] = l.take (j + 1) := by
  rw [List.take_succ, h]
  rfl
section
variable {b hd lw wo m ln se so to : Addr}
theorem lpG_b : valV (lpD b hd lw wo) (Sum.inr "b") = some (.ref b) := by kernel_rfl
theorem lpG_hard : valV (lpD b hd lw wo) (Sum.inr "hard") = some (.ref hd) := by kernel_rfl
theorem lpG_windows : valV (lpD b hd lw wo) (Sum.inr "windows") = some (.ref lw) := by kernel_rfl
theorem lpG_worn : valV (lpD b hd lw wo) (Sum.inr "worn") = some (.ref wo) := by kernel_rfl
theorem lpG_gone : valV (lpD b hd lw wo) (Sum.inr "gone") = some (.int 0) := by kernel_rfl
theorem lbG_m : valV (lbD m ln se so to) (Sum.inr "m") = some (.ref m) := by kernel_rfl
theorem lbG_soft : valV (lbD m ln se so to) (Sum.inr "soft") = some (.ref so) := by kernel_rfl
theorem lbG_stop : valV (lbD m ln se so to) (Sum.inr "stop") = some .non := by kernel_rfl
theorem lbG_sent : valV (lbD m ln se so to) (Sum.inr "sent") = some (.ref se) := by kernel_rfl
end
def nmL : List Str := ["a", "b", "pc", "sp", "zero", "lets", "asleep", "beat"]
def winD : Option (Int × Int × Str) → PyData
  | none => .none
  | some u => .tuple [.int u.1, .int u.2.1, .str u.2.2]
def reg0D : List PyData := [.int 0, .int 0, .int 0, .int 767, .bool false, .bool false, .bool false, .int 0]
def reg0V : List V := [.int 0, .int 0, .int 0, .int 767, .bl false, .bl false, .bl false, .int 0]
def stD (mem : List Int) (u0 u1 : Option (Int × Int × Str)) : PyData := .list [.list (mem.map PyData.int), .list reg0D, .none, .list [], .int 0, .list [], .list ((List.replicate 16 (0 : Int)).map PyData.int), .list [winD u0, winD u1]]
theorem dp_ints2 {K : PySem.W.Frag} {H : Hp} : ∀ ns : List Int, DpAll K H (ns.map V.int) (ns.map PyData.int)
  | [] => .nil
  | _ :: r => .cons (.int _) (dp_ints2 r)
theorem dp_win {K : PySem.W.Frag} {H : Hp} {v : V} : ∀ {u : Option (Int × Int × Str)}, WinAt H v u → Dp K H v (winD u)
  | none, h => by cases h; exact .non
  | some u, h => by
    obtain ⟨t, rfl, e⟩ := h
    exact .tup (SqT.of e) (.cons (.int _) (.cons (.int _) (.cons (.str _) .nil)))
theorem dp_reg0 {K : PySem.W.Frag} {H : Hp} : DpAll K H reg0V reg0D := .cons (.int _) (.cons (.int _) (.cons (.int _) (.cons (.int _) (.cons (.bl _) (.cons (.bl _) (.cons (.bl _) (.cons (.int _) .nil)))))))
section
variable {CB CM CP CK CW p wr : Addr} {H0 H H' : Hp} {v0 v1 : V} {x : Bd}
theorem Pb.same (R : Pb CB CM CP CK CW H0 H p wr v0 v1 x) (s : Same H H') : Pb CB CM CP CK CW H0 H' p wr v0 v1 x := by
  obtain ⟨Hf, b, A, ts, ls, st, hd, er, wa, dx, dk, dw, fr, hi, co, mi, sd, F, s0, s1, hw⟩ := R
  exact ⟨Hf, b, A, ts, ls, st, hd, er, wa, dx, dk, dw, fr, hi, co, mi, sd, F, s0, s1.trans s, s _ _ hw⟩
theorem Pb.ins (R : Pb CB CM CP CK CW H0 H p wr v0 v1 x) : ∃ dx b st wa fr hi co mi sd, H p = some (.ins CP dx (prF b st wa fr hi co mi sd 0 .non)) := by
  obtain ⟨Hf, b, A, ts, ls, st, hd, er, wa, dx, dk, dw, fr, hi, co, mi, sd, F, s0, s1, hw⟩ := R
  exact ⟨dx, b, st, wa, fr, hi, co, mi, sd, s1 _ _ F.hp⟩
theorem Pb.lwr (R : Pb CB CM CP CK CW H0 H p wr v0 v1 x) : H wr = some (.lst [v0, v1]) := by
  obtain ⟨Hf, b, A, ts, ls, st, hd, er, wa, dx, dk, dw, fr, hi, co, mi, sd, F, s0, s1, hw⟩ := R
  exact hw
end
def spLTold (K : PySem.W.Frag) (CB CM CP CK CW : Addr) : Sp := fun vs H Q _ => ∃ (H0 : Hp) (p wr : Addr) (v0 v1 : V) (u0 u1 : Option (Int × Int × Str)) (ns : List Int), vs = [.ref p] ∧ Pb CB CM CP CK CW H0 H p wr v0 v1 (newBd ns []) ∧ WinAt H v0 u0 ∧ WinAt H v1 u1 ∧
  ∀ H' l, Same H H' → Dp K H' (.ref l) (stD (memOf ns) u0 u1) → Q (.ref l) H'
def spLShown (K : PySem.W.Frag) : Sp := fun vs H Q _ => ∃ (d b m ln se so to hd lw wo : Addr) (v0 v1 : V) (u0 u1 : Option (Int × Int × Str)) (ns : List Int), vs = [.ref d] ∧ LpAt H d b m ln se so to hd lw wo ns ∧ H lw = some (.lst [v0, v1]) ∧ WinAt H v0 u0 ∧ WinAt H v1 u1 ∧
  ∀ H' l, Same H H' → Dp K H' (.ref l) (stD (memOf ns) u0 u1) → Q (.ref l) H'
section
variable {P : Program} {w : World} {K : PySem.W.Frag} {mg : Str → Option Value} {base : Heap} {CB CM CP CK CW CF CH CC CI CS CN CL : Addr}
abbrev sLtold : Stmt := topS 106
def scLtoldN : List Str := ["_law_probe_here", "_law_names", "_law_found", "_law_name"]
theorem scLtold : FnScope scLtoldN ["_law_probe_here"] (defScope sLtold) := ⟨rfl, rfl, rfl, by decide +kernel, rfl, by decide +kernel, by decide +kernel⟩
theorem ok_Ltold {f : Addr} {fd : FuncData} {fM_look : Addr} {dM_look : FuncData} {fM_mks : Addr} {dM_mks : FuncData} {fM_out : Addr} {dM_out : FuncData} {fM_reg : Addr} {dM_reg : FuncData} {fM_stp : Addr} {dM_stp : FuncData} {fM_tns : Addr} {dM_tns : FuncData} {fM_wer : Addr} {dM_wer : FuncData} {fM_wts : Addr} {dM_wts : FuncData} (F : Fun K "_law_told" "_law_told" sLtold f fd) (T : Ty K mg CB CM CP CK CW CF CH CC CI CS)
    (M_look : CalM P w K mg base CP 3 "look" ["self", "address", "many"] (spLook CB CM CP CK CW) fM_look dM_look)
    (M_mks : CalM P w K mg base CP 2 "marks" ["self"] (spLst CB CM CP CK CW (fun _ _ => [])) fM_mks dM_mks)
    (M_out : CalM P w K mg base CP 1 "out" ["self"] (spOut CB CM CP CK CW) fM_out dM_out)
    (M_reg : CalM P w K mg base CP 1 "register_of" ["self", "name"] (spReg CB CM CP CK CW) fM_reg dM_reg)
    (M_stp : CalM P w K mg base CP 1 "stop_told" ["self"] (spStp CB CM CP CK CW) fM_stp dM_stp)
    (M_tns : CalM P w K mg base CP 1 "turns" ["self"] (spTurns CB CM CP CK CW) fM_tns dM_tns)
    (M_wer : CalM P w K mg base CP 1 "wear" ["self"] (spLst CB CM CP CK CW (fun _ _ => (List.replicate 16 (0 : Int)).map V.int)) fM_wer dM_wer)
    (M_wts : CalM P w K mg base CP 1 "watches" ["self"] (spLst CB CM CP CK CW (fun v0 v1 => [v0, v1])) fM_wts dM_wts) : FnOk P w K mg base CX0 4 f fd ["_law_probe_here"] (spLTold K CB CM CP CK CW) := by
  refine F.ok scLtold (fun vs H Q E h => by obtain ⟨_, _, _, _, _, _, _, _, rfl, _⟩ := h; rfl) (fun cdv A outer s H vs Q E hr h => ?_)
  have hu := hu_of hr
  obtain ⟨H0, p, wr, v0, v1, u0, u1, ns, rfl, R, w0, w1, q⟩ := h
  refine ⟨_, (pss_cons (ps_set (i := 1) scLtold.nd rfl (.inl rfl) (pe_lst (pa_cons pe_str (pa_cons pe_str (pa_cons pe_str (pa_cons pe_str (pa_cons pe_str (pa_cons pe_str (pa_cons pe_str (pa_cons pe_str pa_nil))))))))))
    (pss_cons (ps_set (i := 2) scLtold.nd rfl (.inl rfl) (pe_lst (pa_cons (pe_meth (pv 0) M_look.c M_look.m M_look.G (hr.mono (by decide)) M_look.b .nil pass0 (pa_cons pe_int (pa_cons pe_int pa_nil))) (pa_cons (pe_lc (own := [("_law_name", 3)]) (g := gName 3) (tt := tYes) (by rfl) scLtold.nd (pi_list (pv 1)) (blkOk_by (own := [("_law_name", 3)]) (N := scLtoldN) (sc := defScope sLtold) (by decide +kernel)) (fun _ _ _ _ _ => (pg_name (i := 3) scLtold.nd rfl (.inl rfl))) (fun _ _ _ _ _ => pts_nil) (fun _ _ _ _ _ => (pe_meth (pv 0) M_reg.c M_reg.m M_reg.G (hr.mono (by decide)) M_reg.b .nil pass0 (pa_cons (pv 3) pa_nil)))) (pa_cons (pe_meth0 (pv 0) M_stp.c M_stp.m M_stp.G (hr.mono (by decide)) M_stp.b .nil pass0) (pa_cons (pe_meth0 (pv 0) M_out.c M_out.m M_out.G (hr.mono (by decide)) M_out.b .nil pass0) pa_nil))))))
    (pss_one (ps_ret (pe_op op_cat (pv 2) (pe_lst (pa_cons (pe_meth0 (pv 0) M_tns.c M_tns.m M_tns.G (hr.mono (by decide)) M_tns.b .nil pass0) (pa_cons (pe_meth0 (pv 0) M_mks.c M_mks.m M_mks.G (hr.mono (by decide)) M_mks.b .nil pass0) (pa_cons (pe_meth0 (pv 0) M_wer.c M_wer.m M_wer.G (hr.mono (by decide)) M_wer.b .nil pass0) (pa_cons (pe_meth0 (pv 0) M_wts.c M_wts.m M_wts.G (hr.mono (by decide)) M_wts.b .nil pass0) pa_nil)))))))))), ?_⟩
  refine ⟨(by show 8 ≤ sizeLine; decide), fun l1 n1 => ?_⟩
  have R := R.same (same_upd' (o := .lst ([V.str "a", V.str "b", V.str "pc", V.str "sp", V.str "zero", V.str "lets", V.str "asleep", V.str "beat"])) n1)
  have r1 := same_upd' (o := .lst ([V.str "a", V.str "b", V.str "pc", V.str "sp", V.str "zero", V.str "lets", V.str "asleep", V.str "beat"])) n1
  have h1 : upd H l1 (.lst ([V.str "a", V.str "b", V.str "pc", V.str "sp", V.str "zero", V.str "lets", V.str "asleep", V.str "beat"])) l1 = some (.lst ([V.str "a", V.str "b", V.str "pc", V.str "sp", V.str "zero", V.str "lets", V.str "asleep", V.str "beat"])) := upd_same
  generalize upd H l1 (.lst ([V.str "a", V.str "b", V.str "pc", V.str "sp", V.str "zero", V.str "lets", V.str "asleep", V.str "beat"])) = G1 at *
  obtain ⟨dx, bd, st, wa, fr, hi, co, mi, sd, hp⟩ := R.ins
  refine ⟨_, rfl, p, dx, _, rfl, hp, pN_look, H0, p, wr, v0, v1, _, rfl, R, fun G2 la s2 nla hla => ?_⟩
  have R := R.same s2
  have hp := s2 _ _ hp
  have h1 := s2 _ _ h1
  refine ⟨_, rfl, l1, rfl, ⟨_, SqL.of h1⟩, fun D nD => ?_⟩
  refine lc_list (K := K) (a := l1) (xs := [V.str "a", V.str "b", V.str "pc", V.str "sp", V.str "zero", V.str "lets", V.str "asleep", V.str "beat"]) (fun i H' => Same G2 H' ∧ H' D = some (.lst (reg0V.take i))) ⟨same_upd' nD, upd_same⟩ (fun i H' _ h => SqL.of (h.1 _ _ h1)) ?_ ?_
  · rintro j v H' hv ⟨sm, hD⟩
    have R := R.same sm
    have hp := sm _ _ hp
    have hj : j < 8 := (List.getElem?_eq_some_iff.mp hv).1
    obtain ⟨nm, rv, rfl, hrv, hin⟩ : ∃ nm rv, v = .str nm ∧ reg0V[j]? = some rv ∧ (nm, rv) ∈ regsL (newBd ns []) := by
      have : j = 0 ∨ j = 1 ∨ j = 2 ∨ j = 3 ∨ j = 4 ∨ j = 5 ∨ j = 6 ∨ j = 7 := by omega
      rcases this with rfl | rfl | rfl | rfl | rfl | rfl | rfl | rfl <;> (cases hv; exact ⟨_, _, rfl, rfl, by simp [regsL, newBd]⟩)
    refine ⟨rfl, ?_⟩
    refine ⟨_, rfl, p, dx, _, rfl, hp, pN_register_of, _, rfl, H0, p, wr, v0, v1, _, nm, rv, rfl, R, hin, ?_⟩
    refine ⟨_, hD, ?_, same_of sm nD, ?_⟩
    · rw [List.length_take]
      exact small1000 (by have : reg0V.length = 8 := rfl; omega)
    · rw [upd_same, tk_snoc hrv]
  rintro G3 ⟨s3, hD⟩
  have hD : G3 D = some (.lst reg0V) := hD
  have R := R.same s3
  have hp := s3 _ _ hp
  have hla := s3 _ _ hla
  refine ⟨_, rfl, p, dx, _, rfl, hp, pN_stop_told, H0, p, wr, v0, v1, _, rfl, R, fun sv hsv => ?_⟩
  have hsv : sv = .non := hsv
  subst hsv
  refine ⟨_, rfl, p, dx, _, rfl, hp, pN_out, H0, p, wr, v0, v1, _, rfl, R, fun G4 lo us s4 nlo hlo hus => ?_⟩
  have hus : us = [] := by cases hus; rfl
  subst hus
  have R := R.same s4
  have hp := s4 _ _ hp
  have hla := s4 _ _ hla
  have hD := s4 _ _ hD
  refine ⟨(by show 4 ≤ sizeLine; decide), fun l5 n5 => ?_⟩
  have R := R.same (same_upd' (o := .lst [.ref la, .ref D, .non, .ref lo]) n5)
  have r5 := same_upd' (o := .lst [.ref la, .ref D, .non, .ref lo]) n5
  have h5 : upd G4 l5 (.lst [.ref la, .ref D, .non, .ref lo]) l5 = some (.lst [.ref la, .ref D, .non, .ref lo]) := upd_same
  have hp := r5 _ _ hp
  have hla := r5 _ _ hla
  have hD := r5 _ _ hD
  have hlo := r5 _ _ hlo
  generalize upd G4 l5 (.lst [.ref la, .ref D, .non, .ref lo]) = G5 at *
  refine ⟨_, rfl, ?_⟩
  refine ⟨_, rfl, p, dx, _, rfl, hp, pN_turns, H0, p, wr, v0, v1, _, rfl, R, ?_⟩
  refine ⟨_, rfl, p, dx, _, rfl, hp, pN_marks, H0, p, wr, v0, v1, _, rfl, R, fun G6 lm s6 nlm hlm => ?_⟩
  have R := R.same s6
  have hp := s6 _ _ hp
  refine ⟨_, rfl, p, dx, _, rfl, hp, pN_wear, H0, p, wr, v0, v1, _, rfl, R, fun G7 le s7 nle hle => ?_⟩
  have R := R.same s7
  have hp := s7 _ _ hp
  have hlm := s7 _ _ hlm
  refine ⟨_, rfl, p, dx, _, rfl, hp, pN_watches, H0, p, wr, v0, v1, _, rfl, R, fun G8 lv s8 nlv hlv => ?_⟩
  have hle := s8 _ _ hle
  have hlm := s8 _ _ hlm
  have R := R.same s8
  have s58 := (s6.trans s7).trans s8
  have hla := s58 _ _ hla
  have hD := s58 _ _ hD
  have hlo := s58 _ _ hlo
  have h5 := s58 _ _ h5
  refine ⟨(by show 4 ≤ sizeLine; decide), fun l9 n9 => ?_⟩
  have r9 := same_upd' (o := .lst [.int 0, .ref lm, .ref le, .ref lv]) n9
  have h9 : upd G8 l9 (.lst [.int 0, .ref lm, .ref le, .ref lv]) l9 = some (.lst [.int 0, .ref lm, .ref le, .ref lv]) := upd_same
  have h5 := r9 _ _ h5
  have hla := r9 _ _ hla
  have hD := r9 _ _ hD
  have hlo := r9 _ _ hlo
  have hlm := r9 _ _ hlm
  have hle := r9 _ _ hle
  have hlv := r9 _ _ hlv
  generalize upd G8 l9 (.lst [.int 0, .ref lm, .ref le, .ref lv]) = G9 at *
  refine ⟨l5, l9, _, _, rfl, rfl, h5, h9, (by show 4 + 4 ≤ sizeLine; decide), fun lz nz => ?_⟩
  have rz := same_upd' (o := .lst [.ref la, .ref D, .non, .ref lo, .int 0, .ref lm, .ref le, .ref lv]) nz
  have sall : Same H (upd G9 lz (.lst [.ref la, .ref D, .non, .ref lo, .int 0, .ref lm, .ref le, .ref lv])) := (((((((r1.trans s2).trans s3).trans s4).trans r5).trans s58).trans r9).trans rz)
  have w0 := w0.mono (fun t xs e => sall _ _ e)
  have w1 := w1.mono (fun t xs e => sall _ _ e)
  refine q _ lz sall ?_
  exact .lst (SqL.of upd_same) (.cons (.lst (SqL.of (rz _ _ hla)) (dp_ints2 _)) (.cons (.lst (SqL.of (rz _ _ hD)) dp_reg0) (.cons .non (.cons (.lst (SqL.of (rz _ _ hlo)) .nil) (.cons (.int _) (.cons (.lst (SqL.of (rz _ _ hlm)) .nil) (.cons (.lst (SqL.of (rz _ _ hle)) (dp_ints2 _)) (.cons (.lst (SqL.of (rz _ _ hlv)) (.cons (dp_win w0) (.cons (dp_win w1) .nil))) .nil))))))))
end
end Bh

/-! What is told of the law's own probe. -/
namespace Bh
open PySem PySem.Spec PyProof.Rows L2
section
variable {P : Program} {w : World} {K : PySem.W.Frag} {mg : Str → Option Value} {base : Heap} {CB CM CP CK CW CF CH CC CI CS CN CL : Addr}
abbrev sLshown : Stmt := topS 105
def scLshownN : List Str := ["_law_p", "_law_b", "_law_marks", "_law_names", "_law_found", "_law_address", "_law_name"]
theorem scLshown : FnScope scLshownN ["_law_p"] (defScope sLshown) := ⟨rfl, rfl, rfl, by decide +kernel, rfl, by decide +kernel, by decide +kernel⟩
theorem ok_Lshown {f : Addr} {fd : FuncData} (F : Fun K "_law_shown" "_law_shown" sLshown f fd) (T : Ty K mg CB CM CP CK CW CF CH CC CI CS)
    (z_sorted : mg "sorted" = none) : FnOk P w K mg base CX0 1 f fd ["_law_p"] (spLShown K) := by
  refine F.ok scLshown (fun vs H Q E h => by obtain ⟨_, _, _, _, _, _, _, _, _, _, _, _, _, _, _, rfl, _⟩ := h; rfl) (fun cdv A outer s H vs Q E hr h => ?_)
  have hu := hu_of hr
  obtain ⟨d, b, m, ln, se, so, to, hd, lw, wo, v0, v1, u0, u1, ns, rfl, L, hlw, w0, w1, q⟩ := h
  refine ⟨_, (pss_cons (ps_set (i := 1) scLshown.nd rfl (.inr rfl) (pe_dget hu (pv 0) pe_str (fun _ _ => rfl)))
    (pss_cons (ps_set (i := 2) scLshown.nd rfl (.inl rfl) (pe_op op_cat (pe_lock (pe_lc (own := [("_law_address", 5)]) (g := gName 5) (tt := tYes) (by rfl) scLshown.nd (pi_keys (pe_dget hu (pv 0) pe_str (fun _ _ => rfl))) (blkOk_by (own := [("_law_address", 5)]) (N := scLshownN) (sc := defScope sLshown) (by decide +kernel)) (fun _ _ _ _ _ => (pg_name (i := 5) scLshown.nd rfl (.inl rfl))) (fun _ _ _ _ _ => pts_nil) (fun _ _ _ _ _ => (pe_tup (pa_cons (pv 5) (pa_cons pe_str pa_nil)))))) (pe_lock (pe_lc (own := [("_law_address", 5)]) (g := gName 5) (tt := tYes) (by rfl) scLshown.nd (pi_keys (pe_dget hu (pv 1) pe_str (fun _ _ => rfl))) (blkOk_by (own := [("_law_address", 5)]) (N := scLshownN) (sc := defScope sLshown) (by decide +kernel)) (fun _ _ _ _ _ => (pg_name (i := 5) scLshown.nd rfl (.inl rfl))) (fun _ _ _ _ _ => pts_nil) (fun _ _ _ _ _ => (pe_tup (pa_cons (pv 5) (pa_cons pe_str pa_nil))))))))
    (pss_cons (ps_set (i := 3) scLshown.nd rfl (.inl rfl) (pe_lst (pa_cons pe_str (pa_cons pe_str (pa_cons pe_str (pa_cons pe_str (pa_cons pe_str (pa_cons pe_str (pa_cons pe_str (pa_cons pe_str pa_nil))))))))))
    (pss_cons (ps_set (i := 4) scLshown.nd rfl (.inl rfl) (pe_lst (pa_cons (pe_dget hu (pv 1) pe_str (fun _ _ => rfl)) (pa_cons (pe_lc (own := [("_law_name", 6)]) (g := gName 6) (tt := tYes) (by rfl) scLshown.nd (pi_list (pv 3)) (blkOk_by (own := [("_law_name", 6)]) (N := scLshownN) (sc := defScope sLshown) (by decide +kernel)) (fun _ _ _ _ _ => (pg_name (i := 6) scLshown.nd rfl (.inl rfl))) (fun _ _ _ _ _ => pts_nil) (fun _ _ _ _ _ => (pe_dget hu (pv 1) (pv 6) (fun _ _ => rfl)))) (pa_cons (pe_dget hu (pv 1) pe_str (fun _ _ => rfl)) (pa_cons (pe_dget hu (pv 1) pe_str (fun _ _ => rfl)) (pa_cons (pe_dget hu (pv 0) pe_str (fun _ _ => rfl)) (pa_cons (pe_callB cr_sorted (by rfl) z_sorted (by decide +kernel) (pa_cons (pv 2) pa_nil)) (pa_cons (pe_dget hu (pv 0) pe_str (fun _ _ => rfl)) pa_nil)))))))))
    (pss_one (ps_ret (pe_op op_cat (pv 4) (pe_lst (pa_cons (pe_dget hu (pv 0) pe_str (fun _ _ => rfl)) pa_nil))))))))), ?_⟩
  obtain ⟨hd_, hb, hm, hse, hso, hhd, hwo⟩ := L
  have ndh : d ≠ hd := fun z => by
    rw [z, hhd] at hd_
    have q := HO.dK.inj (Option.some.inj hd_)
    cases q
  have nbs : b ≠ so := fun z => by
    rw [z, hso] at hb
    have q := HO.dK.inj (Option.some.inj hb)
    cases q
  refine ⟨_, rfl, d, _, rfl, dg (k := Sum.inr "b") hd_ lpG_b, ?_⟩
  refine ⟨hd, .dK [], hhd, trivial, fun od => ?_⟩
  refine ⟨_, rfl, d, _, rfl, dg (k := Sum.inr "hard") (by rw [upd_ne ndh]; exact hd_) lpG_hard, hd, od, rfl, .inl ⟨[], upd_same, fun D1 nD1 => ?_⟩⟩
  refine lc_it walk_keys (fun _ H' => H' = upd (upd H hd (.frz od (.dK []))) D1 (.lst [])) rfl (fun _ _ _ h => by rw [h, upd_ne (fun z => by rw [← z, upd_same] at nD1; cases nD1)]; exact upd_same) (fun i _ _ _ hi _ _ => absurd hi (Nat.not_lt_zero _)) ?_
  rintro _ rfl
  refine ⟨by rw [upd_ne (fun z => by rw [← z, upd_same] at nD1; cases nD1)]; exact upd_same, ?_⟩
  obtain ⟨eu, nn⟩ := unlock (o := .lst []) hhd nD1
  rw [eu]
  have s1 := same_upd' (o := .lst []) nn
  have h1 : upd H D1 (.lst []) D1 = some (.lst []) := upd_same
  generalize upd H D1 (.lst []) = G1 at *
  have hd_ := s1 _ _ hd_
  have hb := s1 _ _ hb
  have hm := s1 _ _ hm
  have hse := s1 _ _ hse
  have hso := s1 _ _ hso
  have hwo := s1 _ _ hwo
  have hlw := s1 _ _ hlw
  refine ⟨so, .dK [], hso, trivial, fun od2 => ?_⟩
  refine ⟨_, rfl, b, _, rfl, dg (k := Sum.inr "soft") (by rw [upd_ne nbs]; exact hb) lbG_soft, so, od2, rfl, .inl ⟨[], upd_same, fun D2 nD2 => ?_⟩⟩
  refine lc_it walk_keys (fun _ H' => H' = upd (upd G1 so (.frz od2 (.dK []))) D2 (.lst [])) rfl (fun _ _ _ h => by rw [h, upd_ne (fun z => by rw [← z, upd_same] at nD2; cases nD2)]; exact upd_same) (fun i _ _ _ hi _ _ => absurd hi (Nat.not_lt_zero _)) ?_
  rintro _ rfl
  refine ⟨by rw [upd_ne (fun z => by rw [← z, upd_same] at nD2; cases nD2)]; exact upd_same, ?_⟩
  obtain ⟨eu, nn⟩ := unlock (o := .lst []) hso nD2
  rw [eu]
  have s2 := same_upd' (o := .lst []) nn
  have h2 : upd G1 D2 (.lst []) D2 = some (.lst []) := upd_same
  generalize upd G1 D2 (.lst []) = G2 at *
  have hd_ := s2 _ _ hd_
  have hb := s2 _ _ hb
  have hm := s2 _ _ hm
  have hse := s2 _ _ hse
  have hso := s2 _ _ hso
  have hwo := s2 _ _ hwo
  have hlw := s2 _ _ hlw
  have h1 := s2 _ _ h1
  refine ⟨D1, D2, _, _, rfl, rfl, h1, h2, (by decide), fun l3 n3 => ?_⟩
  rw [show ([] ++ [] : List V) = [] from rfl]
  have r3 := same_upd' (o := .lst []) n3
  have h3 : upd G2 l3 (.lst []) l3 = some (.lst []) := upd_same
  have hd_ := r3 _ _ hd_
  have hb := r3 _ _ hb
  have hm := r3 _ _ hm
  have hse := r3 _ _ hse
  have hso := r3 _ _ hso
  have hwo := r3 _ _ hwo
  have hlw := r3 _ _ hlw
  generalize upd G2 l3 (.lst []) = G3 at *
  refine ⟨(by show 8 ≤ sizeLine; decide), fun l4 n4 => ?_⟩
  have r4 := same_upd' (o := .lst ([V.str "a", V.str "b", V.str "pc", V.str "sp", V.str "zero", V.str "lets", V.str "asleep", V.str "beat"])) n4
  have h4 : upd G3 l4 (.lst ([V.str "a", V.str "b", V.str "pc", V.str "sp", V.str "zero", V.str "lets", V.str "asleep", V.str "beat"])) l4 = some (.lst ([V.str "a", V.str "b", V.str "pc", V.str "sp", V.str "zero", V.str "lets", V.str "asleep", V.str "beat"])) := upd_same
  have hd_ := r4 _ _ hd_
  have hb := r4 _ _ hb
  have hm := r4 _ _ hm
  have hse := r4 _ _ hse
  have hso := r4 _ _ hso
  have hwo := r4 _ _ hwo
  have hlw := r4 _ _ hlw
  have h3 := r4 _ _ h3
  generalize upd G3 l4 (.lst ([V.str "a", V.str "b", V.str "pc", V.str "sp", V.str "zero", V.str "lets", V.str "asleep", V.str "beat"])) = G4 at *
  refine ⟨_, rfl, b, _, rfl, dg (k := Sum.inr "m") hb lbG_m, ?_⟩
  refine ⟨_, rfl, l4, rfl, ⟨_, SqL.of h4⟩, fun D nD => ?_⟩
  refine lc_list (K := K) (a := l4) (xs := [V.str "a", V.str "b", V.str "pc", V.str "sp", V.str "zero", V.str "lets", V.str "asleep", V.str "beat"]) (fun i H' => Same G4 H' ∧ H' D = some (.lst (reg0V.take i))) ⟨same_upd' nD, upd_same⟩ (fun i H' _ h => SqL.of (h.1 _ _ h4)) ?_ ?_
  · rintro j v H' hv ⟨sm, hD⟩
    have hb := sm _ _ hb
    have hj : j < 8 := (List.getElem?_eq_some_iff.mp hv).1
    obtain ⟨nm, rv, rfl, hrv, hin⟩ : ∃ nm rv, v = .str nm ∧ reg0V[j]? = some rv ∧ valV (lbD m ln se so to) (Sum.inr nm) = some rv := by
      have : j = 0 ∨ j = 1 ∨ j = 2 ∨ j = 3 ∨ j = 4 ∨ j = 5 ∨ j = 6 ∨ j = 7 := by omega
      rcases this with rfl | rfl | rfl | rfl | rfl | rfl | rfl | rfl <;> (cases hv; exact ⟨_, _, rfl, rfl, by kernel_rfl⟩)
    refine ⟨rfl, ?_⟩
    refine ⟨_, rfl, _, rfl, b, _, rfl, dg (k := Sum.inr nm) hb hin, ?_⟩
    refine ⟨_, hD, ?_, same_of sm nD, ?_⟩
    · rw [List.length_take]
      exact small1000 (by have : reg0V.length = 8 := rfl; omega)
    · rw [upd_same, tk_snoc hrv]
  rintro G5 ⟨s5, hD⟩
  have hD : G5 D = some (.lst reg0V) := hD
  have hd_ := s5 _ _ hd_
  have hb := s5 _ _ hb
  have hm := s5 _ _ hm
  have hse := s5 _ _ hse
  have hso := s5 _ _ hso
  have hwo := s5 _ _ hwo
  have hlw := s5 _ _ hlw
  have h3 := s5 _ _ h3
  refine ⟨_, rfl, b, _, rfl, dg (k := Sum.inr "stop") hb lbG_stop, ?_⟩
  refine ⟨_, rfl, b, _, rfl, dg (k := Sum.inr "sent") hb lbG_sent, ?_⟩
  refine ⟨_, rfl, d, _, rfl, dg (k := Sum.inr "gone") hd_ lpG_gone, ?_⟩
  refine ⟨_, rfl, l3, [], rfl, SqL.of h3, by decide, fun ns' l6 perm _ n6 => ?_⟩
  have en : ns' = [] := List.Perm.eq_nil perm
  subst en
  rw [show ([] : List Int).map V.int = [] from rfl]
  have r6 := same_upd' (o := .lst []) n6
  have h6 : upd G5 l6 (.lst []) l6 = some (.lst []) := upd_same
  have hd_ := r6 _ _ hd_
  have hb := r6 _ _ hb
  have hm := r6 _ _ hm
  have hse := r6 _ _ hse
  have hso := r6 _ _ hso
  have hwo := r6 _ _ hwo
  have hlw := r6 _ _ hlw
  have hD := r6 _ _ hD
  generalize upd G5 l6 (.lst []) = G6 at *
  refine ⟨_, rfl, d, _, rfl, dg (k := Sum.inr "worn") hd_ lpG_worn, ?_⟩
  refine ⟨(by show 7 ≤ sizeLine; decide), fun l7 n7 => ?_⟩
  have r7 := same_upd' (o := .lst [.ref m, .ref D, .non, .ref se, .int 0, .ref l6, .ref wo]) n7
  have h7 : upd G6 l7 (.lst [.ref m, .ref D, .non, .ref se, .int 0, .ref l6, .ref wo]) l7 = some (.lst [.ref m, .ref D, .non, .ref se, .int 0, .ref l6, .ref wo]) := upd_same
  have hd_ := r7 _ _ hd_
  have hb := r7 _ _ hb
  have hm := r7 _ _ hm
  have hse := r7 _ _ hse
  have hso := r7 _ _ hso
  have hwo := r7 _ _ hwo
  have hlw := r7 _ _ hlw
  have hD := r7 _ _ hD
  have h6 := r7 _ _ h6
  generalize upd G6 l7 (.lst [.ref m, .ref D, .non, .ref se, .int 0, .ref l6, .ref wo]) = G7 at *
  refine ⟨_, rfl, ?_⟩
  refine ⟨_, rfl, d, _, rfl, dg (k := Sum.inr "windows") hd_ lpG_windows, ?_⟩
  refine ⟨(by show 1 ≤ sizeLine; decide), fun l8 n8 => ?_⟩
  have r8 := same_upd' (o := .lst [.ref lw]) n8
  have h8 : upd G7 l8 (.lst [.ref lw]) l8 = some (.lst [.ref lw]) := upd_same
  have hd_ := r8 _ _ hd_
  have hb := r8 _ _ hb
  have hm := r8 _ _ hm
  have hse := r8 _ _ hse
  have hso := r8 _ _ hso
  have hwo := r8 _ _ hwo
  have hlw := r8 _ _ hlw
  have hD := r8 _ _ hD
  have h6 := r8 _ _ h6
  have h7 := r8 _ _ h7
  generalize upd G7 l8 (.lst [.ref lw]) = G8 at *
  refine ⟨l7, l8, _, _, rfl, rfl, h7, h8, (by show 7 + 1 ≤ sizeLine; decide), fun lz nz => ?_⟩
  have rz := same_upd' (o := .lst [.ref m, .ref D, .non, .ref se, .int 0, .ref l6, .ref wo, .ref lw]) nz
  have sall : Same H (upd G8 lz (.lst [.ref m, .ref D, .non, .ref se, .int 0, .ref l6, .ref wo, .ref lw])) := ((((((((s1.trans s2).trans r3).trans r4).trans s5).trans r6).trans r7).trans r8).trans rz)
  have w0 := w0.mono (fun t xs e => sall _ _ e)
  have w1 := w1.mono (fun t xs e => sall _ _ e)
  refine q _ lz sall ?_
  exact .lst (SqL.of upd_same) (.cons (.lst (SqL.of (rz _ _ hm)) (dp_ints2 _)) (.cons (.lst (SqL.of (rz _ _ hD)) dp_reg0) (.cons .non (.cons (.lst (SqL.of (rz _ _ hse)) .nil) (.cons (.int _) (.cons (.lst (SqL.of (rz _ _ h6)) .nil) (.cons (.lst (SqL.of (rz _ _ hwo)) (dp_ints2 _)) (.cons (.lst (SqL.of (rz _ _ hlw)) (.cons (dp_win w0) (.cons (dp_win w1) .nil))) .nil))))))))
end
end Bh

/-! Watches of the law's own. -/
namespace Bh
open PySem PySem.Spec PyProof.Rows L2
section
variable {X : Cx} {a b c d : Expr} {pos : Pos} {ta tb tc td : TE}
/-- four things held against each other, one behind the other -/
theorem pt_chain3 {o1 o2 o3 : CmpOp} {r1 r2 r3 : R2} (h1 : OpR X (compareOp o1) r1) (h2 : OpR X (compareOp o2) r2) (h3 : OpR X (compareOp o3) r3) (ha : PE X a ta) (hb : PE X b tb) (hc : PE X c tc) (hd : PE X d td)
    (hm : lastMarks [o1, o2, o3] [b, c, d] = false := by with_unfolding_all rfl) :
    PT X (.Compare a [o1, o2, o3] [b, c, d] pos) (tTest fun σ H Q => ta σ H fun x G1 => tb σ G1 fun y G2 => r1 x y G2 fun z G3 => ∃ k, z = .bl k ∧ (if k = true then (tc σ G3 fun y2 G4 => r2 y y2 G4 fun z2 G5 => ∃ k2, z2 = .bl k2 ∧ (if k2 = true then td σ G5 fun y3 G6 => r3 y2 y3 G6 Q else Q (.bl false) G5)) else Q (.bl false) G3)) := by
  refine ⟨fun pins s σ H Q I h => ?_⟩
  refine isTrue_chain (thn (ha.run pins s σ H _ I h) fun va s1 ⟨x, G1, I1, k1, q1⟩ => test_link (thn (hb.run pins s1 σ G1 _ I1 q1) fun vb s2 ⟨y, G2, I2, k2, q2⟩ =>
    thn (h1 pins s2 σ G2 x y va vb _ I2 k1 k2 q2) fun v1 s3 ⟨z, G3, I3, k3, k, ek, q3⟩ => ?_)) hm
  subst ek
  cases k3
  refine wpAny_truthy_bool ?_
  cases k with
  | false =>
    obtain ⟨_, e', q'⟩ := q3
    cases e'
    exact ite_ff ⟨G3, I3, q'⟩
  | true =>
    refine ite_tt (test_link (thn (hc.run pins s3 σ G3 _ I3 q3) fun vc s4 ⟨y2, G4, I4, k4, q4⟩ => thn (h2 pins s4 σ G4 y y2 vb vc _ I4 k2 k4 q4) fun v2 s5 ⟨z2, G5, I5, k5, kk, ek2, q5⟩ => ?_))
    subst ek2
    cases k5
    refine wpAny_truthy_bool ?_
    cases kk with
    | false =>
      obtain ⟨_, e', q'⟩ := q5
      cases e'
      exact ite_ff ⟨G5, I5, q'⟩
    | true =>
      refine ite_tt (test_last (thn (hd.run pins s5 σ G5 _ I5 q5) fun vd s6 ⟨y3, G6, I6, k6, q6⟩ => thn (h3 pins s6 σ G6 y2 y3 vc vd _ I6 k4 k6 q6) fun v3 s7 ⟨z3, G7, I7, k7, k9, ek3, q7⟩ => ?_))
      subst ek3
      cases k7
      exact wpAny_truthy_bool ⟨G7, I7, q7⟩
end
abbrev Wn := Option (Int × Int × Str)
inductive Act where
  | unw (n : Int)
  | wat (n lo hi : Int) (kd : Str)
inductive Out where
  | word | none | told
def Act.num : Act → Int
  | .unw n => n
  | .wat n _ _ _ => n
def Act.win : Act → Wn
  | .unw _ => .none
  | .wat _ lo hi kd => some (lo, hi, kd)
def Act.vs : Act → List V
  | .unw n => [.str "unwatch", .int n]
  | .wat n lo hi kd => [.str "watch", .int n, .int lo, .int hi, .str kd]
def ActAt (H : Hp) (t : Addr) (a : Act) : Prop := H t = some (.tup a.vs)
def outM : Act → Wn → Wn → Out
  | .unw n, u0, u1 => if 0 ≤ n ∧ n ≤ 1 then (if (if n = 0 then u0 else u1) = none then .none else .told) else .word
  | .wat n lo hi kd, _, _ => if LayOk n lo hi kd then .told else .word
def new0 (a : Act) (u0 u1 : Wn) : Wn := match outM a u0 u1 with
  | .told => if a.num = 0 then a.win else u0
  | _ => u0
def new1 (a : Act) (u0 u1 : Wn) : Wn := match outM a u0 u1 with
  | .told => if a.num = 0 then u1 else a.win
  | _ => u1
def Out.vs : Out → List V
  | .word => [.str "word"]
  | .none => [.str "none"]
  | .told => [.str "told", .non]
def Out.ds : Out → List PyData
  | .word => [.str "word"]
  | .none => [.str "none"]
  | .told => [.str "told", .none]
theorem dp_out {K : PySem.W.Frag} {H : Hp} : ∀ o : Out, DpAll K H o.vs o.ds
  | .word => .cons (.str _) .nil
  | .none => .cons (.str _) .nil
  | .told => .cons (.str _) (.cons .non .nil)
theorem win_non {H : Hp} {v : V} : ∀ {u : Wn}, WinAt H v u → (v = .non ↔ u = none)
  | none, h => by cases h; exact ⟨fun _ => rfl, fun _ => rfl⟩
  | some u, h => by
    obtain ⟨t, rfl, e⟩ := h
    exact ⟨fun z => (by cases z), fun z => (by cases z)⟩
theorem win_w0 {H : Hp} {n : Int} {v v0 : V} {u u0 : Wn} (h : WinAt H v u) (h0 : WinAt H v0 u0) : WinAt H (w0 n v v0) (if n = 0 then u else u0) := by
  unfold w0
  split
  · exact h
  · exact h0
theorem win_w1 {H : Hp} {n : Int} {v v1 : V} {u u1 : Wn} (h : WinAt H v u) (h1 : WinAt H v1 u1) : WinAt H (w1 n v v1) (if n = 0 then u1 else u) := by
  unfold w1
  split
  · exact h1
  · exact h
theorem new_told {a : Act} {u0 u1 : Wn} (h : outM a u0 u1 = .told) : new0 a u0 u1 = (if a.num = 0 then a.win else u0) ∧ new1 a u0 u1 = (if a.num = 0 then u1 else a.win) := by
  unfold new0 new1
  rw [h]
  exact ⟨rfl, rfl⟩
theorem new_not {a : Act} {u0 u1 : Wn} (h : outM a u0 u1 ≠ .told) : new0 a u0 u1 = u0 ∧ new1 a u0 u1 = u1 := by
  unfold new0 new1
  cases e : outM a u0 u1
  · exact ⟨rfl, rfl⟩
  · exact ⟨rfl, rfl⟩
  · exact absurd e h
def spLOwn : Sp := fun vs H Q _ => ∃ (d b m ln se so to hd lw wo t : Addr) (v0 v1 : V) (u0 u1 : Wn) (ns : List Int) (a : Act), vs = [.ref d, .ref t] ∧ LpAt H d b m ln se so to hd lw wo ns ∧ H lw = some (.lst [v0, v1]) ∧ WinAt H v0 u0 ∧ WinAt H v1 u1 ∧ ActAt H t a ∧
  ∀ H' l v0' v1', But lw H H' → H' l = some (.tup (outM a u0 u1).vs) → H' lw = some (.lst [v0', v1']) → WinAt H' v0' (new0 a u0 u1) → WinAt H' v1' (new1 a u0 u1) → Q (.ref l) H'
section
variable {P : Program} {w : World} {K : PySem.W.Frag} {mg : Str → Option Value} {base : Heap} {CB CM CP CK CW CF CH CC CI CS CN CL : Addr}
abbrev sLown : Stmt := topS 108
def scLownN : List Str := ["_law_p", "_law_act"]
theorem scLown : FnScope scLownN ["_law_p", "_law_act"] (defScope sLown) := ⟨rfl, rfl, rfl, by decide +kernel, rfl, by decide +kernel, by decide +kernel⟩
theorem ok_Lown {f : Addr} {fd : FuncData} (F : Fun K "_law_own_watch" "_law_own_watch" sLown f fd) (T : Ty K mg CB CM CP CK CW CF CH CC CI CS) : FnOk P w K mg base CX0 1 f fd ["_law_p", "_law_act"] (spLOwn) := by
  refine F.ok scLown (fun vs H Q E h => by obtain ⟨_, _, _, _, _, _, _, _, _, _, _, _, _, _, _, _, _, rfl, _⟩ := h; rfl) (fun cdv A outer s H vs Q E hr h => ?_)
  have hu := hu_of hr
  obtain ⟨d, b, m, ln, se, so, to, hd, lw, wo, t, v0, v1, u0, u1, ns, a, rfl, L, hlw, z0, z1, ha, q⟩ := h
  refine ⟨_, (pss_cons (ps_if (pt_not (pt_chain op_le op_lt pe_int (pe_ix ix_tup (pv 1) pe_int (fun _ _ => rfl)) pe_int)) (pss_one (ps_ret (pe_tup (pa_cons pe_str pa_nil)))) pss_nil)
    (pss_cons (ps_if (pt_cmpR op_eq (pe_ix ix_tup (pv 1) pe_int (fun _ _ => rfl)) pe_str (nomark _)) (pss_cons (ps_if (pt_cmp (pc_isN (pe_ix ix_list (pe_dget hu (pv 0) pe_str (fun _ _ => rfl)) (pe_ix ix_tup (pv 1) pe_int (fun _ _ => rfl)) (fun _ _ => rfl)))) (pss_one (ps_ret (pe_tup (pa_cons pe_str pa_nil)))) pss_nil)
    (pss_cons (ps_asg pe_non (pg_sub (pe_dget hu (pv 0) pe_str (fun _ _ => rfl)) (pe_ix ix_tup (pv 1) pe_int (fun _ _ => rfl)) set_list))
    (pss_one (ps_ret (pe_tup (pa_cons pe_str (pa_cons pe_non pa_nil))))))) pss_nil)
    (pss_cons (ps_if (PW.pt (pw_or (pt_not (pt_chain3 op_le op_le op_le pe_int (pe_ix ix_tup (pv 1) pe_int (fun _ _ => rfl)) (pe_ix ix_tup (pv 1) pe_int (fun _ _ => rfl)) pe_int)) (pw_or1 (pt_cmpR op_notIn_seq (pe_ix ix_tup (pv 1) pe_int (fun _ _ => rfl)) (pe_lst (pa_cons pe_str (pa_cons pe_str (pa_cons pe_str pa_nil)))) (by rfl))))) (pss_one (ps_ret (pe_tup (pa_cons pe_str pa_nil)))) pss_nil)
    (pss_cons (ps_asg (pe_slice sl_tup (pv 1) (po_some pe_int) po_none) (pg_sub (pe_dget hu (pv 0) pe_str (fun _ _ => rfl)) (pe_ix ix_tup (pv 1) pe_int (fun _ _ => rfl)) set_list))
    (pss_one (ps_ret (pe_tup (pa_cons pe_str (pa_cons pe_non pa_nil))))))))), ?_⟩
  have hd_ := L.hd_
  cases a with
  | unw n =>
    have ht : H t = some (.tup [.str "unwatch", .int n]) := ha
    have word : ¬ (0 ≤ n ∧ n ≤ 1) → (∀ l, H l = none → Q (.ref l) (upd H l (.tup [.str "word"]))) := fun h l nl => by
      have ho : outM (.unw n) u0 u1 = .word := if_neg h
      have sm := same_upd' (o := .tup [.str "word"]) nl
      obtain ⟨e0, e1⟩ := new_not (a := .unw n) (u0 := u0) (u1 := u1) (by rw [ho]; exact fun z => by cases z)
      refine q _ l v0 v1 (But.of sm) (by rw [ho]; exact upd_same) (sm _ _ hlw) ?_ ?_
      · rw [e0]; exact z0.mono (fun t xs e => sm _ _ e)
      · rw [e1]; exact z1.mono (fun t xs e => sm _ _ e)
    refine ⟨_, rfl, t, _, 1, _, rfl, rfl, SqT.of ht, atI_nat (j := 1) rfl, _, _, rfl, rfl, _, rfl, ifB (fun t0 => ?_) (fun t0 => ⟨_, rfl, (by show 1 ≤ sizeLine; decide), word fun z => absurd z.1 (of_decide_eq_false t0)⟩)⟩
    refine ⟨_, _, rfl, rfl, _, rfl, ifN (fun t1 => ⟨(by show 1 ≤ sizeLine; decide), word fun z => absurd z.2 (by have := of_decide_eq_false t1; omega)⟩) (fun t1 => ?_)⟩
    have t0 := of_decide_eq_true t0
    have t1 := of_decide_eq_true t1
    have hn : 0 ≤ n ∧ n ≤ 1 := ⟨t0, by omega⟩
    refine ⟨_, rfl, t, _, 0, _, rfl, rfl, SqT.of ht, atI_nat (j := 0) rfl, rfl, _, rfl, ifB (fun _ => ?_) (fun h => absurd rfl (of_decide_eq_false h))⟩
    refine ⟨_, rfl, d, _, rfl, dg (k := Sum.inr "windows") hd_ lpG_windows, _, rfl, t, _, 1, _, rfl, rfl, SqT.of ht, atI_nat (j := 1) rfl, lw, _, _, _, rfl, rfl, SqL.of hlw, at2 hn v0 v1, _, rfl, ?_⟩
    have ezz : ((if n = 0 then v0 else v1) = .non) ↔ ((if n = 0 then u0 else u1) = none) := by
      split
      · exact win_non z0
      · exact win_non z1
    refine ifB (fun h => ?_) (fun h => ?_)
    · have h := ezz.mp (of_decide_eq_true h)
      have ho : outM (.unw n) u0 u1 = .none := by
        show (if 0 ≤ n ∧ n ≤ 1 then _ else _) = _
        rw [if_pos hn, if_pos h]
      refine ⟨(by show 1 ≤ sizeLine; decide), fun l nl => ?_⟩
      have sm := same_upd' (o := .tup [.str "none"]) nl
      obtain ⟨e0, e1⟩ := new_not (a := .unw n) (u0 := u0) (u1 := u1) (by rw [ho]; exact fun z => by cases z)
      refine q _ l v0 v1 (But.of sm) (by rw [ho]; exact upd_same) (sm _ _ hlw) ?_ ?_
      · rw [e0]; exact z0.mono (fun t xs e => sm _ _ e)
      · rw [e1]; exact z1.mono (fun t xs e => sm _ _ e)
    · have h := (not_congr ezz).mp (of_decide_eq_false h)
      have ho : outM (.unw n) u0 u1 = .told := by
        show (if 0 ≤ n ∧ n ≤ 1 then _ else _) = _
        rw [if_pos hn, if_neg h]
      obtain ⟨e0, e1⟩ := new_told ho
      refine ⟨_, rfl, d, _, rfl, dg (k := Sum.inr "windows") hd_ lpG_windows, _, rfl, t, _, 1, _, rfl, rfl, SqT.of ht, atI_nat (j := 1) rfl, lw, _, _, _, rfl, rfl, hlw, ixN_in hn.1 (by show n < 2; omega), ?_⟩
      rw [setW_set hn, setW_eq]
      have k1 : But lw H (upd H lw (.lst [w0 n .non v0, w1 n .non v1])) := fun b o n e => by rw [upd_ne n]; exact e
      have h1 : upd H lw (.lst [w0 n .non v0, w1 n .non v1]) lw = some (.lst [w0 n .non v0, w1 n .non v1]) := upd_same
      have z0 := z0.mono (H' := upd H lw (.lst [w0 n .non v0, w1 n .non v1])) (fun t xs e => k1 _ _ (ne_of e hlw (by intro z; cases z)) e)
      have z1 := z1.mono (H' := upd H lw (.lst [w0 n .non v0, w1 n .non v1])) (fun t xs e => k1 _ _ (ne_of e hlw (by intro z; cases z)) e)
      generalize upd H lw (.lst [w0 n .non v0, w1 n .non v1]) = G1 at *
      refine ⟨(by show 2 ≤ sizeLine; decide), fun l nl => ?_⟩
      have sm := same_upd' (o := .tup [.str "told", .non]) nl
      refine q _ l _ _ (k1.trans (But.of sm)) (by rw [ho]; exact upd_same) (sm _ _ h1) ?_ ?_
      · rw [e0]; exact win_w0 (u := none) rfl (z0.mono (fun t xs e => sm _ _ e))
      · rw [e1]; exact win_w1 (u := none) rfl (z1.mono (fun t xs e => sm _ _ e))
  | wat n lo hi kd =>
    have ht : H t = some (.tup [.str "watch", .int n, .int lo, .int hi, .str kd]) := ha
    have word : ¬ LayOk n lo hi kd → ∀ G, Same H G → (∀ l, G l = none → Q (.ref l) (upd G l (.tup [.str "word"]))) := fun h G s1 l nl => by
      have ho : outM (.wat n lo hi kd) u0 u1 = .word := if_neg h
      have sm := s1.trans (same_upd' (o := .tup [.str "word"]) nl)
      obtain ⟨e0, e1⟩ := new_not (a := .wat n lo hi kd) (u0 := u0) (u1 := u1) (by rw [ho]; exact fun z => by cases z)
      refine q _ l v0 v1 (But.of sm) (by rw [ho]; exact upd_same) (sm _ _ hlw) ?_ ?_
      · rw [e0]; exact z0.mono (fun t xs e => sm _ _ e)
      · rw [e1]; exact z1.mono (fun t xs e => sm _ _ e)
    refine ⟨_, rfl, t, _, 1, _, rfl, rfl, SqT.of ht, atI_nat (j := 1) rfl, _, _, rfl, rfl, _, rfl, ifB (fun t0 => ?_) (fun t0 => ⟨_, rfl, (by show 1 ≤ sizeLine; decide), word (fun z => absurd z.1.1 (of_decide_eq_false t0)) _ (Same.refl _)⟩)⟩
    refine ⟨_, _, rfl, rfl, _, rfl, ifN (fun t1 => ⟨(by show 1 ≤ sizeLine; decide), word (fun z => absurd z.1.2 (by have := of_decide_eq_false t1; omega)) _ (Same.refl _)⟩) (fun t1 => ?_)⟩
    have t0 := of_decide_eq_true t0
    have t1 := of_decide_eq_true t1
    have hn : 0 ≤ n ∧ n ≤ 1 := ⟨t0, by omega⟩
    refine ⟨_, rfl, t, _, 0, _, rfl, rfl, SqT.of ht, atI_nat (j := 0) rfl, rfl, _, rfl, ifB (fun h => absurd (V.str.inj (of_decide_eq_true h)) (by decide +kernel)) (fun _ => ?_)⟩
    refine ⟨_, rfl, t, _, 2, _, rfl, rfl, SqT.of ht, atI_nat (j := 2) rfl, _, _, rfl, rfl, _, rfl, ifB (fun a0 => ?_) (fun a0 => ⟨_, rfl, ⟨(by show 1 ≤ sizeLine; decide), word (fun z => absurd z.2.2.1.1 (of_decide_eq_false a0)) _ (Same.refl _)⟩⟩)⟩
    refine ⟨_, rfl, t, _, 3, _, rfl, rfl, SqT.of ht, atI_nat (j := 3) rfl, _, _, rfl, rfl, _, rfl, ifB (fun a1 => ?_) (fun a1 => ⟨_, rfl, ⟨(by show 1 ≤ sizeLine; decide), word (fun z => absurd z.2.2.1.2 (of_decide_eq_false a1)) _ (Same.refl _)⟩⟩)⟩
    refine ⟨_, _, rfl, rfl, _, rfl, ifN (fun a2 => ⟨(by show 1 ≤ sizeLine; decide), word (fun z => absurd z.2.1.2 (of_decide_eq_false a2)) _ (Same.refl _)⟩) (fun a2 => ?_)⟩
    have a0 := of_decide_eq_true a0
    have a1 := of_decide_eq_true a1
    have a2 := of_decide_eq_true a2
    refine ⟨_, rfl, t, _, 4, _, rfl, rfl, SqT.of ht, atI_nat (j := 4) rfl, (by show 3 ≤ sizeLine; decide), fun l1 n1 => ?_⟩
    have r1 := same_upd' (o := .lst [V.str "r", V.str "w", V.str "rw"]) n1
    have h1 : upd H l1 (.lst [V.str "r", V.str "w", V.str "rw"]) l1 = some (.lst [V.str "r", V.str "w", V.str "rw"]) := upd_same
    have hd_ := r1 _ _ hd_
    have hlw := r1 _ _ hlw
    have ht := r1 _ _ ht
    generalize upd H l1 (.lst [V.str "r", V.str "w", V.str "rw"]) = G1 at *
    have h1 : G1 l1 = some (.lst (kdN.map V.str)) := h1
    refine ⟨l1, _, rfl, .inl (SqL.of h1), rfl, rfl, _, rfl, ?_⟩
    rw [show (if true = true then !inV (V.str kd) (kdN.map V.str) else inV (V.str kd) (kdN.map V.str)) = !inV (V.str kd) (kdN.map V.str) from rfl, in_strs]
    refine ifN (fun h => ⟨(by show 1 ≤ sizeLine; decide), word (fun z => of_decide_eq_false h z.2.2.2) _ r1⟩) (fun h4 => ?_)
    have h4 := of_decide_eq_true h4
    have ok : LayOk n lo hi kd := ⟨hn, ⟨by omega, a2⟩, ⟨a0, a1⟩, h4⟩
    have ho : outM (.wat n lo hi kd) u0 u1 = .told := if_pos ok
    obtain ⟨e0, e1⟩ := new_told ho
    refine ⟨_, rfl, 2, rfl, t, _, rfl, SqT.of ht, (fun z => by cases z.1), fun l2 n2 => ?_⟩
    have cv : cutV [V.str "watch", .int n, .int lo, .int hi, .str kd] (some 2) none = [.int lo, .int hi, .str kd] := rfl
    rw [cv]
    have r2 := same_upd' (o := .tup [.int lo, .int hi, .str kd]) n2
    have h2 : upd G1 l2 (.tup [.int lo, .int hi, .str kd]) l2 = some (.tup [.int lo, .int hi, .str kd]) := upd_same
    have hd_ := r2 _ _ hd_
    have hlw := r2 _ _ hlw
    have ht := r2 _ _ ht
    generalize upd G1 l2 (.tup [.int lo, .int hi, .str kd]) = G2 at *
    refine ⟨_, rfl, d, _, rfl, dg (k := Sum.inr "windows") hd_ lpG_windows, _, rfl, t, _, 1, _, rfl, rfl, SqT.of ht, atI_nat (j := 1) rfl, lw, _, _, _, rfl, rfl, hlw, ixN_in hn.1 (by show n < 2; omega), ?_⟩
    rw [setW_set hn, setW_eq]
    have s2 := r1.trans r2
    have k1 : But lw G2 (upd G2 lw (.lst [w0 n (.ref l2) v0, w1 n (.ref l2) v1])) := fun b o n e => by rw [upd_ne n]; exact e
    have h3 : upd G2 lw (.lst [w0 n (.ref l2) v0, w1 n (.ref l2) v1]) lw = some (.lst [w0 n (.ref l2) v0, w1 n (.ref l2) v1]) := upd_same
    have z0 := (z0.mono (fun t xs e => s2 _ _ e)).mono (H' := upd G2 lw (.lst [w0 n (.ref l2) v0, w1 n (.ref l2) v1])) (fun t xs e => k1 _ _ (ne_of e hlw (by intro z; cases z)) e)
    have z1 := (z1.mono (fun t xs e => s2 _ _ e)).mono (H' := upd G2 lw (.lst [w0 n (.ref l2) v0, w1 n (.ref l2) v1])) (fun t xs e => k1 _ _ (ne_of e hlw (by intro z; cases z)) e)
    have h2 := k1 _ _ (ne_of h2 hlw (by intro z; cases z)) h2
    generalize upd G2 lw (.lst [w0 n (.ref l2) v0, w1 n (.ref l2) v1]) = G3 at *
    refine ⟨(by show 2 ≤ sizeLine; decide), fun l nl => ?_⟩
    have sm := same_upd' (o := .tup [.str "told", .non]) nl
    have zw : WinAt (upd G3 l (.tup [.str "told", .non])) (.ref l2) (some (lo, hi, kd)) := ⟨l2, rfl, sm _ _ h2⟩
    refine q _ l _ _ ((But.of s2).trans (k1.trans (But.of sm))) (by rw [ho]; exact upd_same) (sm _ _ h3) ?_ ?_
    · rw [e0]; exact win_w0 zw (z0.mono (fun t xs e => sm _ _ e))
    · rw [e1]; exact win_w1 zw (z1.mono (fun t xs e => sm _ _ e))
end
end Bh

/-! An act asked of the program, and what it says. -/
namespace Bh
open PySem PySem.Spec PyProof.Rows L2
section
variable {X : Cx}
/-- how often a thing stands in a list -/
def rCntD (K : PySem.W.Frag) : V → List V → Hp → VK → Prop := fun x xs H Q => ∃ (p : Addr) (y : V) (d : PyData) (vs : List V) (ds : List PyData), x = .ref p ∧ xs = [y] ∧ SqL K H p vs ∧ DpAll K H vs ds ∧ Dp K H y d ∧ PyData.plainAll ds = true ∧ d.plain = true ∧ d.depth ≤ 64 ∧ Q (.int (ds.countP fun z => PyData.eqv z d : Nat)) H
theorem mt_lcountD (hu : X.A.units + 65 < cLine) : MtR X "list.count" (rCntD X.K) := by
  intro pins s σ H x xs v us Q I rx rxs h
  obtain ⟨p, y, d, vs, ds, rfl, rfl, hs, hds, hy, pl, pd, dd, q⟩ := h
  cases rx
  cases rxs with
  | cons ry rt =>
    rename_i uy ut
    cases rt
    obtain ⟨bs, r1⟩ := Dp.reads I d y uy hy ry
    obtain ⟨its, rv, ⟨o, n, ho, hc, hdn, hdt⟩, hlen⟩ := I.list hs
    obtain ⟨as, h4⟩ := Dp.readsAll I ds _ its hds rv
    have hroom : X.A.units + 1 + min (PyData.depthAll ds) d.depth < cLine := by
      have := Nat.min_le_right (PyData.depthAll ds) d.depth
      omega
    exact SeqAt.count_list_data (vs := its.toArray) ⟨o, ho, hc, n, hdt⟩ (by simpa using h4) r1 pl pd hroom ⟨.int _, H, I.tok _, ⟨s.toks, rfl⟩, q⟩
theorem room65 {k : Nat} {A : Around} (r : Room k A) : A.units + 65 < cLine := by
  have := r.un
  omega
/-- isinstance(e, c), e any error that has no dict of its own -/
def rIsN (K : PySem.W.Frag) (a : Addr) (cls : Value) (d : Option Addr) : List V → Hp → VK → Prop := fun xs H Q => ∃ D, cls = .ref D ∧ d = none ∧ ExcC K D ∧ rIsE K D a xs H Q
theorem call_isN {a : Addr} {oe : Obj} {cls : Value} {d : Option Addr} {pn : List (Addr × Obj)} (hz : Zc cls d oe) (hf : ∃ vs, oe.data = .fields vs) : CallR (X.suite a ((a, oe) :: pn)) (.builtin "isinstance") (rIsN X.K a cls d) := by
  intro pins s σ H xs us Q I r h
  obtain ⟨D, rfl, rfl, C, h⟩ := h
  exact call_isE C hz hf pins s σ H xs us Q I r h
/-! the same with the written part named, for use within an except suite -/
theorem call_isNK {K : PySem.W.Frag} {a : Addr} {oe : Obj} {cls : Value} {d : Option Addr} {pn : List (Addr × Obj)} (hK : X.K = K) (hz : Zc cls d oe) (hf : ∃ vs, oe.data = .fields vs) : CallR (X.suite a ((a, oe) :: pn)) (.builtin "isinstance") (rIsN K a cls d) := by
  subst hK
  exact call_isN hz hf
theorem mt_lcountDK {K : PySem.W.Frag} (hK : X.K = K) (hu : X.A.units + 65 < cLine) : MtR X "list.count" (rCntD K) := by
  subst hK
  exact mt_lcountD hu
theorem mt_indexK {K : PySem.W.Frag} (hK : X.K = K) : MtR X "list.index" (rIndex K) := by
  subst hK
  exact mt_index
theorem op_notInK {K : PySem.W.Frag} (hK : X.K = K) : OpR X (compareOp .NotIn) (rIn K true) := by
  subst hK
  exact op_notIn_seq
theorem pe_bmK {K : PySem.W.Frag} {e : Expr} {T : String} {r : V → List V → Hp → VK → Prop} {to : TE} {t : TA} (hK : X.K = K) (h : PE X e (tBM X.K T r to t)) : PE X e (tBM K T r to t) := by
  subst hK
  exact h
end
/-- the other classes of error -/
structure Tg (K : PySem.W.Frag) (mg : Str → Option Value) (CN CL CT CO CR CE : Addr) : Prop where
  gT : mg "Taken" = some (.ref CT)
  gO : mg "TooMany" = some (.ref CO)
  gR : mg "Barred" = some (.ref CR)
  gE : mg "BoardError" = some (.ref CE)
  exN : ExcC K CN
  exL : ExcC K CL
  kNN : PySem.W.kitOne K (.ref CN) (.ref CN) = some true
  kNT : PySem.W.kitOne K (.ref CN) (.ref CT) = some false
  kNO : PySem.W.kitOne K (.ref CN) (.ref CO) = some false
  kNL : PySem.W.kitOne K (.ref CN) (.ref CL) = some false
  kNR : PySem.W.kitOne K (.ref CN) (.ref CR) = some false
  kLN : PySem.W.kitOne K (.ref CL) (.ref CN) = some false
  kLT : PySem.W.kitOne K (.ref CL) (.ref CT) = some false
  kLO : PySem.W.kitOne K (.ref CL) (.ref CO) = some false
  kLL : PySem.W.kitOne K (.ref CL) (.ref CL) = some true
  kLR : PySem.W.kitOne K (.ref CL) (.ref CR) = some false
  eN : PySem.W.exmOne K (.ref CN) (.ref CE) = some true
  eL : PySem.W.exmOne K (.ref CL) (.ref CE) = some true
section
variable (CB CM CP CK CW CN CL : Addr)
def spLAsk : Sp := fun vs H Q E => ∃ (H0 : Hp) (p wr t : Addr) (v0 v1 : V) (u0 u1 : Wn) (x : Bd) (a : Act), vs = [.ref p, .ref t] ∧ Pb CB CM CP CK CW H0 H p wr v0 v1 x ∧ WinAt H v0 u0 ∧ WinAt H v1 u1 ∧ ActAt H t a ∧
  (outM a u0 u1 = .told → ∀ H' v0' v1', But wr H H' → Pb CB CM CP CK CW H0 H' p wr v0' v1' x → WinAt H' v0' (new0 a u0 u1) → WinAt H' v1' (new1 a u0 u1) → Q .non H') ∧ (outM a u0 u1 = .word → E (.ref CN) none H) ∧ (outM a u0 u1 = .none → E (.ref CL) none H)
def spLSaid : Sp := fun vs H Q _ => ∃ (H0 : Hp) (p wr t : Addr) (v0 v1 : V) (u0 u1 : Wn) (x : Bd) (a : Act), vs = [.ref p, .ref t] ∧ Pb CB CM CP CK CW H0 H p wr v0 v1 x ∧ WinAt H v0 u0 ∧ WinAt H v1 u1 ∧ ActAt H t a ∧
  ∀ H' l v0' v1', But wr H H' → H' l = some (.tup (outM a u0 u1).vs) → Pb CB CM CP CK CW H0 H' p wr v0' v1' x → WinAt H' v0' (new0 a u0 u1) → WinAt H' v1' (new1 a u0 u1) → Q (.ref l) H'
end
section
variable {P : Program} {w : World} {K : PySem.W.Frag} {mg : Str → Option Value} {base : Heap} {CB CM CP CK CW CF CH CC CI CS CN CL CT CO CR CE : Addr}
abbrev sLask : Stmt := topS 110
def scLaskN : List Str := ["_law_probe_here", "_law_act"]
theorem scLask : FnScope scLaskN ["_law_probe_here", "_law_act"] (defScope sLask) := ⟨rfl, rfl, rfl, by decide +kernel, rfl, by decide +kernel, by decide +kernel⟩
theorem ok_Lask {f : Addr} {fd : FuncData} {fM_unw : Addr} {dM_unw : FuncData} {fM_watch : Addr} {dM_watch : FuncData} (F : Fun K "_law_asked" "_law_asked" sLask f fd) (T : Ty K mg CB CM CP CK CW CF CH CC CI CS)
    (M_unw : CalX P w K mg base CP 5 "unwatch" ["self", "number"] (spUnw CB CM CP CK CW CN CL) fM_unw dM_unw)
    (M_watch : CalX P w K mg base CP 5 "watch" ["self", "number", "low", "high", "kind"] (spWatch CB CM CP CK CW CN) fM_watch dM_watch)
    (TE : Te K mg CN CL) : FnOk P w K mg base (L2.CX P w) 6 f fd ["_law_probe_here", "_law_act"] (spLAsk CB CM CP CK CW CN CL) := by
  refine F.okX scLask (fun vs H Q E h => by obtain ⟨_, _, _, _, _, _, _, _, _, _, rfl, _⟩ := h; rfl) (fun cdv A outer s H vs Q E hr h => ?_)
  have hu := hu_of hr
  obtain ⟨H0, p, wr, t, v0, v1, u0, u1, x, a, rfl, R, z0, z1, ha, q, qw, ql⟩ := h
  refine ⟨_, (pss_cons (ps_if (pt_cmpR op_eq (pe_ix ix_tup (pv 1) pe_int (fun _ _ => rfl)) pe_str (nomark _)) (pss_one (ps_ret (pe_meth (pv 0) M_watch.c M_watch.m M_watch.G (hr.mono (by decide)) M_watch.b .nil (E := E) (passes_call (W := fun cls d _ H => E cls d H) (takes_of rfl rfl rfl rfl) (fun _ _ _ _ h => h)) (pa_cons (pe_ix ix_tup (pv 1) pe_int (fun _ _ => rfl)) (pa_cons (pe_ix ix_tup (pv 1) pe_int (fun _ _ => rfl)) (pa_cons (pe_ix ix_tup (pv 1) pe_int (fun _ _ => rfl)) (pa_cons (pe_ix ix_tup (pv 1) pe_int (fun _ _ => rfl)) pa_nil))))))) pss_nil)
    (pss_one (ps_ret (pe_meth (pv 0) M_unw.c M_unw.m M_unw.G (hr.mono (by decide)) M_unw.b .nil (E := E) (passes_call (W := fun cls d _ H => E cls d H) (takes_of rfl rfl rfl rfl) (fun _ _ _ _ h => h)) (pa_cons (pe_ix ix_tup (pv 1) pe_int (fun _ _ => rfl)) pa_nil))))), ?_⟩
  obtain ⟨dx, bd, st, wa, fr, hi_, co, mi, sd, hp⟩ := R.ins
  have hwr := R.lwr
  cases a with
  | unw n =>
    have ht : H t = some (.tup [.str "unwatch", .int n]) := ha
    refine ⟨_, rfl, t, _, 0, _, rfl, rfl, SqT.of ht, atI_nat (j := 0) rfl, rfl, _, rfl, ifB (fun h => absurd (V.str.inj (of_decide_eq_true h)) (by decide +kernel)) (fun _ => ?_)⟩
    have ezz : ((if n = 0 then v0 else v1) = .non) ↔ ((if n = 0 then u0 else u1) = none) := by
      split
      · exact win_non z0
      · exact win_non z1
    refine ⟨_, rfl, p, dx, _, rfl, hp, pN_unwatch, _, rfl, t, _, 1, _, rfl, rfl, SqT.of ht, atI_nat (j := 1) rfl, H0, p, wr, v0, v1, x, n, rfl, R, fun hn h H' k R' => ?_, fun hn h => ql ?_, fun h => qw (if_neg h)⟩
    · have ho : outM (.unw n) u0 u1 = .told := by
        show (if 0 ≤ n ∧ n ≤ 1 then _ else _) = _
        rw [if_pos hn, if_neg ((not_congr ezz).mp h)]
      obtain ⟨e0, e1⟩ := new_told ho
      have z0 := z0.mono (H' := H') (fun t xs e => k _ _ (ne_of e hwr (by intro z; cases z)) e)
      have z1 := z1.mono (H' := H') (fun t xs e => k _ _ (ne_of e hwr (by intro z; cases z)) e)
      refine q ho H' _ _ k R' ?_ ?_
      · rw [e0]; exact win_w0 (u := none) rfl z0
      · rw [e1]; exact win_w1 (u := none) rfl z1
    · show (if 0 ≤ n ∧ n ≤ 1 then _ else _) = _
      rw [if_pos hn, if_pos (ezz.mp h)]
  | wat n lo hi kd =>
    have ht : H t = some (.tup [.str "watch", .int n, .int lo, .int hi, .str kd]) := ha
    refine ⟨_, rfl, t, _, 0, _, rfl, rfl, SqT.of ht, atI_nat (j := 0) rfl, rfl, _, rfl, ifB (fun _ => ?_) (fun h => absurd rfl (of_decide_eq_false h))⟩
    refine ⟨_, rfl, p, dx, _, rfl, hp, pN_watch, _, rfl, t, _, 1, _, rfl, rfl, SqT.of ht, atI_nat (j := 1) rfl, _, rfl, t, _, 2, _, rfl, rfl, SqT.of ht, atI_nat (j := 2) rfl, _, rfl, t, _, 3, _, rfl, rfl, SqT.of ht, atI_nat (j := 3) rfl, _, rfl, t, _, 4, _, rfl, rfl, SqT.of ht, atI_nat (j := 4) rfl, H0, p, wr, v0, v1, x, n, lo, hi, kd, rfl, R, fun ok H' t' nt ht' k R' => ?_, fun h => qw (if_neg h)⟩
    have ho : outM (.wat n lo hi kd) u0 u1 = .told := if_pos ok
    obtain ⟨e0, e1⟩ := new_told ho
    have z0 := z0.mono (H' := H') (fun t xs e => k _ _ (ne_of e hwr (by intro z; cases z)) e)
    have z1 := z1.mono (H' := H') (fun t xs e => k _ _ (ne_of e hwr (by intro z; cases z)) e)
    have zw : WinAt H' (.ref t') (some (lo, hi, kd)) := ⟨t', rfl, ht'⟩
    refine q ho H' _ _ k R' ?_ ?_
    · rw [e0]; exact win_w0 zw z0
    · rw [e1]; exact win_w1 zw z1
abbrev sLsaid : Stmt := topS 109
def scLsaidN : List Str := ["_law_probe_here", "_law_act", "_law_found", "e", "_law_marks"]
theorem scLsaid : FnScope scLsaidN ["_law_probe_here", "_law_act"] (defScope sLsaid) := ⟨rfl, rfl, rfl, by decide +kernel, rfl, by decide +kernel, by decide +kernel⟩
theorem ok_Lsaid {f : Addr} {fd : FuncData} {fA : Addr} {dA : FuncData} (F : Fun K "_law_said" "_law_said" sLsaid f fd) (T : Ty K mg CB CM CP CK CW CF CH CC CI CS) (TE : Te K mg CN CL) (TG : Tg K mg CN CL CT CO CR CE)
    (gA : mg "_law_asked" = some (.ref fA)) (kA : PySem.W.keepIn K (.ref fA) = true) (bA : Binds K dA ["_law_probe_here", "_law_act"] []) (GA : FnOk P w K mg base (L2.CX P w) 6 fA dA ["_law_probe_here", "_law_act"] (spLAsk CB CM CP CK CW CN CL)) : FnOk P w K mg base CX0 7 f fd ["_law_probe_here", "_law_act"] (spLSaid CB CM CP CK CW) := by
  refine F.ok scLsaid (fun vs H Q E h => by obtain ⟨_, _, _, _, _, _, _, _, _, _, rfl, _⟩ := h; rfl) (fun cdv A outer s H vs Q E hr h => ?_)
  have hu := hu_of hr
  have hu65 := room65 hr
  have z_isinstance := T.z_isinstance
  obtain ⟨H0, p, wr, t, v0, v1, u0, u1, x, a, rfl, R, z0, z1, ha, q⟩ := h
  refine ⟨_, pss_cons (ps_set (i := 2) scLsaid.nd rfl (.inl rfl) (pe_tup (pa_cons pe_str pa_nil))) (pss_cons (ps_try_as (i := 3) rfl rfl scLsaid.nd rfl rfl ⟨rfl, by decide, Or.inl TG.gE⟩ takes0
        (fun W pn xe tk _ => pss_one (ps_set (i := 2) scLsaid.nd rfl (.inl rfl) (pe_tup (pa_cons pe_str (pa_cons (by exact (pe_callS GA (hr.mono (by decide)) rfl gA kA bA (fun σ => passAt tk σ) (by exact (pa_cons (pv 0) (pa_cons (pv 1) pa_nil))))) pa_nil)))))
        (fun a oe cls d pn hz hf => pss_cons (ps_set (i := 4) scLsaid.nd rfl (.inl rfl) (pe_lst (pa_cons (pe_callB (call_isNK (K := K) (by rfl) hz hf) (by rfl) z_isinstance (by decide +kernel) (pa_cons (pv 3) (pa_cons (pgR TE.gN) pa_nil))) (pa_cons (pe_callB (call_isNK (K := K) (by rfl) hz hf) (by rfl) z_isinstance (by decide +kernel) (pa_cons (pv 3) (pa_cons (pgR TG.gT) pa_nil))) (pa_cons (pe_callB (call_isNK (K := K) (by rfl) hz hf) (by rfl) z_isinstance (by decide +kernel) (pa_cons (pv 3) (pa_cons (pgR TG.gO) pa_nil))) (pa_cons (pe_callB (call_isNK (K := K) (by rfl) hz hf) (by rfl) z_isinstance (by decide +kernel) (pa_cons (pv 3) (pa_cons (pgR TE.gL) pa_nil))) pa_nil))))))
          (pss_one (ps_if (PW.pt (pw_and (pt_val (pe_callB (call_isNK (K := K) (by rfl) hz hf) (by rfl) z_isinstance (by decide +kernel) (pa_cons (pv 3) (pa_cons (pgR TG.gR) pa_nil)))) (pw_and1 (pt_cmpR (op_notInK (K := K) (by rfl)) pe_bl (pv 4) (by rfl))))) (pss_one ps_never)
            (pss_one (ps_if (PW.pt (pw_and (pt_cmpR op_eq (by exact (pe_bmK (K := K) (by rfl) (pe_bm PySem.F.plainAttrs_list PySem.F.slot_list_count PySem.F.type_list_count (mt_lcountDK (K := K) (by rfl) (by exact hu65)) (pv 4) (pa_cons pe_bl pa_nil)))) pe_int (nomark _)) (pw_and1 (pt_not (pt_val (pe_callB (call_isNK (K := K) (by rfl) hz hf) (by rfl) z_isinstance (by decide +kernel) (pa_cons (pv 3) (pa_cons (pgR TG.gR) pa_nil)))))))) (pss_one (ps_set (i := 2) scLsaid.nd rfl (.inl rfl) (pe_tup (pa_cons (pe_ix (ix_listK (K := K)) (pe_lst (pa_cons pe_str (pa_cons pe_str (pa_cons pe_str (pa_cons pe_str pa_nil))))) (by exact (pe_bmK (K := K) (by rfl) (pe_bm PySem.F.plainAttrs_list PySem.F.slot_list_index PySem.F.type_list_index (mt_indexK (K := K) (by rfl)) (pv 4) (pa_cons pe_bl pa_nil)))) (fun _ _ => rfl)) pa_nil)))) pss_nil))))))
    (pss_one (ps_ret (pv 2)))), ?_⟩
  refine ⟨(by show 1 ≤ sizeLine; decide), fun l1 n1 => ?_⟩
  have s1 := same_upd' (o := .tup [V.str "other"]) n1
  have R := R.same s1
  have z0 := z0.mono (fun t xs e => s1 _ _ e)
  have z1 := z1.mono (fun t xs e => s1 _ _ e)
  have ha := s1 _ _ ha
  generalize upd H l1 (.tup [V.str "other"]) = G1 at *
  refine ⟨_, rfl, _, rfl, H0, p, wr, t, v0, v1, u0, u1, x, a, rfl, R, z0, z1, ha, fun ho H2 v0' v1' k R2 y0 y1 => ?_, fun ho => ?_, fun ho => ?_⟩
  · refine ⟨(by show 2 ≤ sizeLine; decide), fun l2 n2 => ?_⟩
    have s2 := same_upd' (o := .tup [V.str "told", V.non]) n2
    refine ⟨_, rfl, q _ l2 v0' v1' ((But.of s1).trans (k.trans (But.of s2))) ?_ (R2.same s2) (y0.mono (fun t xs e => s2 _ _ e)) (y1.mono (fun t xs e => s2 _ _ e))⟩
    rw [ho]
    exact upd_same
  · refine ⟨true, TG.eN, fun _ a' _ => ?_, fun z => nomatch z⟩
    refine ⟨_, rfl, CN, rfl, rfl, TG.exN, .ref CN, .ref CN, true, rfl, (fun u r => r), TG.kNN, _, rfl, CN, rfl, rfl, TG.exN, .ref CT, .ref CT, false, rfl, (fun u r => r), TG.kNT, _, rfl, CN, rfl, rfl, TG.exN, .ref CO, .ref CO, false, rfl, (fun u r => r), TG.kNO, _, rfl, CN, rfl, rfl, TG.exN, .ref CL, .ref CL, false, rfl, (fun u r => r), TG.kNL, (by show 4 ≤ sizeLine; decide), fun l2 n2 => ?_⟩
    have s2 := same_upd' (o := .lst [V.bl true, V.bl false, V.bl false, V.bl false]) n2
    have h2 : upd G1 l2 (.lst [V.bl true, V.bl false, V.bl false, V.bl false]) l2 = some (.lst [V.bl true, V.bl false, V.bl false, V.bl false]) := upd_same
    generalize upd G1 l2 (.lst [V.bl true, V.bl false, V.bl false, V.bl false]) = G2 at *
    refine ⟨_, rfl, CN, rfl, rfl, TG.exN, .ref CR, .ref CR, false, rfl, (fun u r => r), TG.kNR, _, rfl, ifB (fun h => by cases h) (fun _ => ?_)⟩
    refine ⟨_, rfl, .inl ⟨rfl, _, SqL.of h2⟩, l2, .bl true, .bool true, _, [.bool true, .bool false, .bool false, .bool false], rfl, rfl, SqL.of h2, .cons (.bl _) (.cons (.bl _) (.cons (.bl _) (.cons (.bl _) .nil))), .bl true, rfl, rfl, by decide, rfl, _, rfl, ifB (fun _ => ?_) (fun h => absurd rfl (of_decide_eq_false h))⟩
    refine ⟨_, rfl, CN, rfl, rfl, TG.exN, .ref CR, .ref CR, false, rfl, (fun u r => r), TG.kNR, _, rfl, ifN (fun _ => ?_) (fun h => by cases h)⟩
    refine ⟨(by show 4 ≤ sizeLine; decide), fun l3 n3 => ?_⟩
    have s3 := same_upd' (o := .lst [V.str "word", V.str "taken", V.str "many", V.str "none"]) n3
    have h3 : upd G2 l3 (.lst [V.str "word", V.str "taken", V.str "many", V.str "none"]) l3 = some (.lst [V.str "word", V.str "taken", V.str "many", V.str "none"]) := upd_same
    have h2 := s3 _ _ h2
    generalize upd G2 l3 (.lst [V.str "word", V.str "taken", V.str "many", V.str "none"]) = G3 at *
    refine ⟨_, rfl, .inl ⟨rfl, _, SqL.of h2⟩, l2, _, .bl true, 0, .bl true, rfl, rfl, SqL.of h2, rfl, rfl, rfl, rfl, ?_, l3, _, 0, _, rfl, rfl, SqL.of h3, rfl, (by show 1 ≤ sizeLine; decide), fun l4 n4 => ?_⟩
    · intro m z' hm hz
      have hm3 : m = 0 ∨ m = 1 ∨ m = 2 := by omega
      rcases hm3 with rfl | rfl | rfl <;> first | (exact absurd hm (by decide)) | (cases hz; rfl)
    have s4 := same_upd' (o := .tup [V.str "word"]) n4
    have sm := ((s1.trans s2).trans s3).trans s4
    have t4 := (s2.trans s3).trans s4
    obtain ⟨e0, e1⟩ := new_not (a := a) (u0 := u0) (u1 := u1) (by rw [ho]; exact fun z => by cases z)
    refine ⟨_, rfl, q _ l4 v0 v1 (But.of sm) ?_ (R.same t4) ?_ ?_⟩
    · rw [ho]; exact upd_same
    · rw [e0]; exact z0.mono (fun t xs e => t4 _ _ e)
    · rw [e1]; exact z1.mono (fun t xs e => t4 _ _ e)
  · refine ⟨true, TG.eL, fun _ a' _ => ?_, fun z => nomatch z⟩
    refine ⟨_, rfl, CL, rfl, rfl, TG.exL, .ref CN, .ref CN, false, rfl, (fun u r => r), TG.kLN, _, rfl, CL, rfl, rfl, TG.exL, .ref CT, .ref CT, false, rfl, (fun u r => r), TG.kLT, _, rfl, CL, rfl, rfl, TG.exL, .ref CO, .ref CO, false, rfl, (fun u r => r), TG.kLO, _, rfl, CL, rfl, rfl, TG.exL, .ref CL, .ref CL, true, rfl, (fun u r => r), TG.kLL, (by show 4 ≤ sizeLine; decide), fun l2 n2 => ?_⟩
    have s2 := same_upd' (o := .lst [V.bl false, V.bl false, V.bl false, V.bl true]) n2
    have h2 : upd G1 l2 (.lst [V.bl false, V.bl false, V.bl false, V.bl true]) l2 = some (.lst [V.bl false, V.bl false, V.bl false, V.bl true]) := upd_same
    generalize upd G1 l2 (.lst [V.bl false, V.bl false, V.bl false, V.bl true]) = G2 at *
    refine ⟨_, rfl, CL, rfl, rfl, TG.exL, .ref CR, .ref CR, false, rfl, (fun u r => r), TG.kLR, _, rfl, ifB (fun h => by cases h) (fun _ => ?_)⟩
    refine ⟨_, rfl, .inl ⟨rfl, _, SqL.of h2⟩, l2, .bl true, .bool true, _, [.bool false, .bool false, .bool false, .bool true], rfl, rfl, SqL.of h2, .cons (.bl _) (.cons (.bl _) (.cons (.bl _) (.cons (.bl _) .nil))), .bl true, rfl, rfl, by decide, rfl, _, rfl, ifB (fun _ => ?_) (fun h => absurd rfl (of_decide_eq_false h))⟩
    refine ⟨_, rfl, CL, rfl, rfl, TG.exL, .ref CR, .ref CR, false, rfl, (fun u r => r), TG.kLR, _, rfl, ifN (fun _ => ?_) (fun h => by cases h)⟩
    refine ⟨(by show 4 ≤ sizeLine; decide), fun l3 n3 => ?_⟩
    have s3 := same_upd' (o := .lst [V.str "word", V.str "taken", V.str "many", V.str "none"]) n3
    have h3 : upd G2 l3 (.lst [V.str "word", V.str "taken", V.str "many", V.str "none"]) l3 = some (.lst [V.str "word", V.str "taken", V.str "many", V.str "none"]) := upd_same
    have h2 := s3 _ _ h2
    generalize upd G2 l3 (.lst [V.str "word", V.str "taken", V.str "many", V.str "none"]) = G3 at *
    refine ⟨_, rfl, .inl ⟨rfl, _, SqL.of h2⟩, l2, _, .bl true, 3, .bl true, rfl, rfl, SqL.of h2, rfl, rfl, rfl, rfl, ?_, l3, _, 3, _, rfl, rfl, SqL.of h3, rfl, (by show 1 ≤ sizeLine; decide), fun l4 n4 => ?_⟩
    · intro m z' hm hz
      have hm3 : m = 0 ∨ m = 1 ∨ m = 2 := by omega
      rcases hm3 with rfl | rfl | rfl <;> first | (exact absurd hm (by decide)) | (cases hz; rfl)
    have s4 := same_upd' (o := .tup [V.str "none"]) n4
    have sm := ((s1.trans s2).trans s3).trans s4
    have t4 := (s2.trans s3).trans s4
    obtain ⟨e0, e1⟩ := new_not (a := a) (u0 := u0) (u1 := u1) (by rw [ho]; exact fun z => by cases z)
    refine ⟨_, rfl, q _ l4 v0 v1 (But.of sm) ?_ (R.same t4) ?_ ?_⟩
    · rw [ho]; exact upd_same
    · rw [e0]; exact z0.mono (fun t xs e => t4 _ _ e)
    · rw [e1]; exact z1.mono (fun t xs e => t4 _ _ e)
end
end Bh

/-! The law. -/
namespace Bh
open PySem PySem.Spec PyProof.Rows L2
theorem all_shape : ∀ (ds : List PyData) (n : Nat), (∀ d ∈ ds, d.canLay0 = true ∧ d.depth ≤ n) → PyData.canLayAll0 ds = true ∧ PyData.depthAll ds ≤ n
  | [], n, _ => ⟨rfl, Nat.zero_le _⟩
  | d :: r, n, h => by
    have h1 := h d List.mem_cons_self
    have h2 := all_shape r n fun e he => h e (List.mem_cons_of_mem _ he)
    refine ⟨?_, Nat.max_le.mpr ⟨h1.2, h2.2⟩⟩
    show (PyData.canLay0 d && PyData.canLayAll0 r) = true
    rw [h1.1, h2.1]
    rfl
theorem int_shape (i : Int) : (PyData.int i).canLay0 = true ∧ (PyData.int i).depth ≤ 1 := ⟨rfl, Nat.zero_le _⟩
theorem tup_shape {ds : List PyData} {n : Nat} (h : ∀ d ∈ ds, d.canLay0 = true ∧ d.depth ≤ n) : (PyData.tuple ds).canLay0 = true ∧ (PyData.tuple ds).depth ≤ n + 1 := by
  have h2 := all_shape ds n h
  exact ⟨h2.1, Nat.succ_le_succ h2.2⟩
theorem lst_shape {ds : List PyData} {n : Nat} (h : ∀ d ∈ ds, d.canLay0 = true ∧ d.depth ≤ n) : (PyData.list ds).canLay0 = true ∧ (PyData.list ds).depth ≤ n + 1 := by
  have h2 := all_shape ds n h
  exact ⟨h2.1, Nat.succ_le_succ h2.2⟩
theorem shaped_of {d : PyData} {n : Nat} (h : d.canLay0 = true ∧ d.depth ≤ n) (hn : n ≤ 64) : SeqAt.shaped d = true := by
  show (d.canLay0 && decide (d.depth ≤ 64)) = true
  rw [h.1, decide_eq_true (Nat.le_trans h.2 hn)]
  rfl
theorem dep_ints : ∀ ns : List Int, PyData.depthAll (ns.map PyData.int) ≤ 1
  | [] => by decide
  | n :: r => by
    have ih := dep_ints r
    show max (PyData.depth (.int n)) (PyData.depthAll (r.map PyData.int)) ≤ 1
    exact Nat.max_le.mpr ⟨Nat.zero_le _, ih⟩
theorem cut_ints (ns : List Int) (lo hi : Option Int) : ∃ ms : List Int, cutV (ns.map V.int) lo hi = ms.map V.int ∧ ms.length ≤ ns.length := by
  unfold cutV
  rw [← List.map_drop, ← List.map_take]
  refine ⟨_, rfl, ?_⟩
  rw [List.length_take, List.length_drop]
  omega

def spLaw (K : PySem.W.Frag) : Sp := fun vs H Q _ => ∃ (a : Addr) (ns : List Int), vs = [.ref a] ∧ SqL K H a (ns.map V.int) ∧ ns.length ≤ 63 ∧ ∀ H', Q (.bl true) H'
theorem getI {L : List Int} {j : Nat} {v : V} (h : (L.map V.int)[j]? = some v) : ∃ a, L[j]? = some a ∧ v = .int a := by
  rw [List.getElem?_map] at h
  cases e : L[j]? with
  | none => rw [e] at h; cases h
  | some a => rw [e] at h; exact ⟨a, rfl, (Option.some.inj h).symm⟩


theorem tup_up {K : PySem.W.Frag} {H H' : Hp} {a : Addr} {xs : List V} (e : Same H H') (h : SqT K H a xs) : SqT K H' a xs := by
  rcases h with (h | ⟨o, h⟩) | h
  · exact .inl (.inl (e _ _ h))
  · exact .inl (.inr ⟨o, e _ _ h⟩)
  · exact .inr h
mutual
theorem dp_up {K : PySem.W.Frag} {H H' : Hp} (s : Same H H') : ∀ (d : PyData) (v : V), Dp K H v d → Dp K H' v d
  | .none, _, h => by cases h; exact .non
  | .bool b, _, h => by cases h; exact .bl b
  | .int i, _, h => by cases h; exact .int i
  | .str x, _, h => by cases h; exact .str x
  | .list ds, _, h => by
    cases h with
    | lst hs ha => exact .lst (s.seq hs) (dp_upAll s ds _ ha)
  | .tuple ds, _, h => by
    cases h with
    | tup hs ha => exact .tup (tup_up s hs) (dp_upAll s ds _ ha)
  | .dict _, _, h => by cases h
theorem dp_upAll {K : PySem.W.Frag} {H H' : Hp} (s : Same H H') : ∀ (ds : List PyData) (vs : List V), DpAll K H vs ds → DpAll K H' vs ds
  | [], _, h => by cases h; exact .nil
  | d :: ds, _, h => by
    cases h with
    | cons h1 h2 => exact .cons (dp_up s d _ h1) (dp_upAll s ds _ h2)
end
def WnOk (u : Wn) : Prop := ∀ x, u = some x → x.2.2 ∈ kdN
theorem new_ok {a : Act} {u0 u1 : Wn} (h0 : WnOk u0) (h1 : WnOk u1) : WnOk (new0 a u0 u1) ∧ WnOk (new1 a u0 u1) := by
  by_cases h : outM a u0 u1 = .told
  · obtain ⟨e0, e1⟩ := new_told h
    have wk : WnOk a.win := by
      cases a with
      | unw n => exact fun x e => (by cases e)
      | wat n lo hi kd =>
        have ok : LayOk n lo hi kd := by
          by_cases z : LayOk n lo hi kd
          · exact z
          · have : outM (.wat n lo hi kd) u0 u1 = .word := if_neg z
            rw [this] at h
            cases h
        intro x e
        cases e
        exact ok.2.2.2
    rw [e0, e1]
    constructor <;> split <;> assumption
  · obtain ⟨e0, e1⟩ := new_not h
    rw [e0, e1]
    exact ⟨h0, h1⟩
theorem small1000' {n : Nat} (h : n ≤ 900) : n ≤ sizeLine := Nat.le_of_lt (small1000 (by omega))
theorem win_shape {u : Wn} (h : WnOk u) : (winD u).canLay0 = true ∧ (winD u).depth ≤ 2 := by
  cases u with
  | none => exact ⟨rfl, Nat.zero_le _⟩
  | some x =>
    obtain ⟨lo, hi, kd⟩ := x
    have hk : kd ∈ kdN := h _ rfl
    have : kd = "r" ∨ kd = "w" ∨ kd = "rw" := by
      simpa [kdN] using hk
    refine tup_shape (n := 1) fun d hd => ?_
    simp only [List.mem_cons, List.not_mem_nil, or_false] at hd
    rcases hd with rfl | rfl | rfl
    · exact int_shape _
    · exact int_shape _
    · rcases this with rfl | rfl | rfl <;> exact ⟨by decide +kernel, by decide +kernel⟩
theorem st_shape {ns : List Int} {u0 u1 : Wn} (h0 : WnOk u0) (h1 : WnOk u1) : SeqAt.shaped (stD ns u0 u1) = true := by
  refine shaped_of (n := 4) (lst_shape fun d hd => ?_) (by decide)
  simp only [List.mem_cons, List.not_mem_nil, or_false] at hd
  have alli : ∀ ms : List Int, (PyData.list (ms.map PyData.int)).canLay0 = true ∧ (PyData.list (ms.map PyData.int)).depth ≤ 3 := fun ms => ⟨can_ints ms, by
    have := dep_ints ms
    show PyData.depthAll (ms.map PyData.int) + 1 ≤ 3
    omega⟩
  rcases hd with rfl | rfl | rfl | rfl | rfl | rfl | rfl | rfl
  · exact alli _
  · exact ⟨by decide +kernel, by decide +kernel⟩
  · exact ⟨rfl, Nat.zero_le _⟩
  · exact ⟨by decide +kernel, by decide +kernel⟩
  · exact ⟨rfl, Nat.zero_le _⟩
  · exact ⟨by decide +kernel, by decide +kernel⟩
  · exact alli _
  · refine lst_shape (n := 2) fun d hd => ?_
    simp only [List.mem_cons, List.not_mem_nil, or_false] at hd
    rcases hd with rfl | rfl
    · exact win_shape h0
    · exact win_shape h1
theorem out_shape (o : Out) : SeqAt.shaped (.tuple o.ds) = true := by cases o <;> decide +kernel
/-- a probe of which some addresses were free when its parts were whole -/
def PbL (CB CM CP CK CW : Addr) (H : Hp) (lw : Addr) (fr : List Addr) (p wr : Addr) (v0 v1 : V) (x : Bd) : Prop := ∃ Hf b A ts ls st hd er wa dx dk dw frm hi co mi sd, PbF CB CM CP CK CW Hf p b A ts ls st hd er wa wr dx dk dw frm hi co mi sd x ∧ Same Hf H ∧ H wr = some (.lst [v0, v1]) ∧ Hf lw = none ∧ ∀ a ∈ fr, Hf a = none
section
variable {CB CM CP CK CW p lw wr : Addr} {H0 H H' : Hp} {v0 v1 w0 w1 : V} {x : Bd} {fr : List Addr}
theorem PbL.pb (R : PbL CB CM CP CK CW H lw fr p wr v0 v1 x) : Pb CB CM CP CK CW (fun _ => none) H p wr v0 v1 x := by
  obtain ⟨Hf, b, A, ts, ls, st, hd, er, wa, dx, dk, dw, frm, hi, co, mi, sd, F, s1, hw, f1, f2⟩ := R
  exact ⟨Hf, b, A, ts, ls, st, hd, er, wa, dx, dk, dw, frm, hi, co, mi, sd, F, fun _ _ e => (by cases e), s1, hw⟩
theorem PbL.mk (R : Pb CB CM CP CK CW H0 H p wr v0 v1 x) (f : H lw = none) : PbL CB CM CP CK CW H lw [] p wr v0 v1 x := by
  obtain ⟨Hf, b, A, ts, ls, st, hd, er, wa, dx, dk, dw, frm, hi, co, mi, sd, F, s0, s1, hw⟩ := R
  exact ⟨Hf, b, A, ts, ls, st, hd, er, wa, dx, dk, dw, frm, hi, co, mi, sd, F, s1, hw, s1.free f, fun a h => (by cases h)⟩
theorem PbL.same (R : PbL CB CM CP CK CW H lw fr p wr v0 v1 x) (s : Same H H') : PbL CB CM CP CK CW H' lw fr p wr v0 v1 x := by
  obtain ⟨Hf, b, A, ts, ls, st, hd, er, wa, dx, dk, dw, frm, hi, co, mi, sd, F, s1, hw, f1, f2⟩ := R
  exact ⟨Hf, b, A, ts, ls, st, hd, er, wa, dx, dk, dw, frm, hi, co, mi, sd, F, s1.trans s, s _ _ hw, f1, f2⟩
theorem PbL.add (R : PbL CB CM CP CK CW H lw fr p wr v0 v1 x) {l : Addr} (f : H l = none) : PbL CB CM CP CK CW H lw (l :: fr) p wr v0 v1 x := by
  obtain ⟨Hf, b, A, ts, ls, st, hd, er, wa, dx, dk, dw, frm, hi, co, mi, sd, F, s1, hw, f1, f2⟩ := R
  refine ⟨Hf, b, A, ts, ls, st, hd, er, wa, dx, dk, dw, frm, hi, co, mi, sd, F, s1, hw, f1, fun a h => ?_⟩
  rcases List.mem_cons.mp h with rfl | h
  · exact s1.free f
  · exact f2 a h
theorem PbL.drop (R : PbL CB CM CP CK CW H lw fr p wr v0 v1 x) : PbL CB CM CP CK CW H lw [] p wr v0 v1 x := by
  obtain ⟨Hf, b, A, ts, ls, st, hd, er, wa, dx, dk, dw, frm, hi, co, mi, sd, F, s1, hw, f1, f2⟩ := R
  exact ⟨Hf, b, A, ts, ls, st, hd, er, wa, dx, dk, dw, frm, hi, co, mi, sd, F, s1, hw, f1, fun a h => (by cases h)⟩
theorem PbL.off (R : PbL CB CM CP CK CW H lw fr p wr v0 v1 x) {l : Addr} (hl : l ∈ fr) (n : wr ≠ l) (k : But l H H') : PbL CB CM CP CK CW H' lw fr p wr v0 v1 x := by
  obtain ⟨Hf, b, A, ts, ls, st, hd, er, wa, dx, dk, dw, frm, hi, co, mi, sd, F, s1, hw, f1, f2⟩ := R
  exact ⟨Hf, b, A, ts, ls, st, hd, er, wa, dx, dk, dw, frm, hi, co, mi, sd, F, fun c o e => k c o (ne_of_none e (f2 l hl)) (s1 _ _ e), k _ _ n hw, f1, f2⟩
theorem PbL.offl (R : PbL CB CM CP CK CW H lw fr p wr v0 v1 x) (n : wr ≠ lw) (k : But lw H H') : PbL CB CM CP CK CW H' lw fr p wr v0 v1 x := by
  obtain ⟨Hf, b, A, ts, ls, st, hd, er, wa, dx, dk, dw, frm, hi, co, mi, sd, F, s1, hw, f1, f2⟩ := R
  exact ⟨Hf, b, A, ts, ls, st, hd, er, wa, dx, dk, dw, frm, hi, co, mi, sd, F, fun c o e => k c o (ne_of_none e f1) (s1 _ _ e), k _ _ n hw, f1, f2⟩
theorem PbL.onw (R : PbL CB CM CP CK CW H lw fr p wr v0 v1 x) (k : But wr H H') (hw : H' wr = some (.lst [w0, w1])) : PbL CB CM CP CK CW H' lw fr p wr w0 w1 x := by
  obtain ⟨Hf, b, A, ts, ls, st, hd, er, wa, dx, dk, dw, frm, hi, co, mi, sd, F, s1, _, f1, f2⟩ := R
  exact ⟨Hf, b, A, ts, ls, st, hd, er, wa, dx, dk, dw, frm, hi, co, mi, sd, F, fun c o e => k c o (ne_of_none e F.fw) (s1 _ _ e), hw, f1, f2⟩
end
theorem lp_off {H H' : Hp} {l d b m ln se so to hd lw wo : Addr} {ns : List Int} (L : LpAt H d b m ln se so to hd lw wo ns) (k : But l H H') (n1 : d ≠ l) (n2 : b ≠ l) (n3 : m ≠ l) (n4 : se ≠ l) (n5 : so ≠ l) (n6 : hd ≠ l) (n7 : wo ≠ l) : LpAt H' d b m ln se so to hd lw wo ns :=
  ⟨k _ _ n1 L.hd_, k _ _ n2 L.hb, k _ _ n3 L.hm, k _ _ n4 L.hse, k _ _ n5 L.hso, k _ _ n6 L.hhd, k _ _ n7 L.hwo⟩
theorem lp_same {H H' : Hp} {d b m ln se so to hd lw wo : Addr} {ns : List Int} (L : LpAt H d b m ln se so to hd lw wo ns) (s : Same H H') : LpAt H' d b m ln se so to hd lw wo ns :=
  ⟨s _ _ L.hd_, s _ _ L.hb, s _ _ L.hm, s _ _ L.hse, s _ _ L.hso, s _ _ L.hhd, s _ _ L.hwo⟩
/-- both probes, held against each other -/
structure LA (CB CM CP CK CW : Addr) (fr : List Addr) (H : Hp) (p wr d b m ln se so to hd lw wo : Addr) (im : List Int) (v0 v1 y0 y1 : V) (u0 u1 : Wn) : Prop where
  R : PbL CB CM CP CK CW H lw fr p wr v0 v1 (newBd im [])
  L : LpAt H d b m ln se so to hd lw wo im
  hlw : H lw = some (.lst [y0, y1])
  z0 : WinAt H v0 u0
  z1 : WinAt H v1 u1
  t0 : WinAt H y0 u0
  t1 : WinAt H y1 u1
  k0 : WnOk u0
  k1 : WnOk u1
  nw : wr ≠ lw
  n1 : m ≠ lw
  n2 : se ≠ lw
  n3 : wo ≠ lw
  n4 : m ≠ wr
  n5 : se ≠ wr
  n6 : wo ≠ wr
/-- none of the two probes' things lies at an address -/
structure Nin (l wr d b m se so hd lw wo : Addr) : Prop where
  n0 : wr ≠ l
  n1 : d ≠ l
  n2 : b ≠ l
  n3 : m ≠ l
  n4 : se ≠ l
  n5 : so ≠ l
  n6 : hd ≠ l
  n7 : wo ≠ l
  n8 : lw ≠ l
section
variable {CB CM CP CK CW : Addr} {fr : List Addr} {H H' : Hp} {p wr d b m ln se so to hd lw wo l : Addr} {im : List Int} {v0 v1 y0 y1 : V} {u0 u1 : Wn}
theorem LA.hwr (I : LA CB CM CP CK CW fr H p wr d b m ln se so to hd lw wo im v0 v1 y0 y1 u0 u1) : H wr = some (.lst [v0, v1]) := I.R.pb.lwr
theorem LA.same (I : LA CB CM CP CK CW fr H p wr d b m ln se so to hd lw wo im v0 v1 y0 y1 u0 u1) (s : Same H H') : LA CB CM CP CK CW fr H' p wr d b m ln se so to hd lw wo im v0 v1 y0 y1 u0 u1 :=
  { I with R := I.R.same s, L := lp_same I.L s, hlw := s _ _ I.hlw, z0 := I.z0.mono fun t xs e => s _ _ e, z1 := I.z1.mono fun t xs e => s _ _ e, t0 := I.t0.mono fun t xs e => s _ _ e, t1 := I.t1.mono fun t xs e => s _ _ e }
theorem LA.nin (I : LA CB CM CP CK CW fr H p wr d b m ln se so to hd lw wo im v0 v1 y0 y1 u0 u1) (f : H l = none) : Nin l wr d b m se so hd lw wo :=
  ⟨ne_of_none I.hwr f, ne_of_none I.L.hd_ f, ne_of_none I.L.hb f, ne_of_none I.L.hm f, ne_of_none I.L.hse f, ne_of_none I.L.hso f, ne_of_none I.L.hhd f, ne_of_none I.L.hwo f, ne_of_none I.hlw f⟩
theorem LA.add (I : LA CB CM CP CK CW [] H p wr d b m ln se so to hd lw wo im v0 v1 y0 y1 u0 u1) (f : H l = none) : LA CB CM CP CK CW [l] H p wr d b m ln se so to hd lw wo im v0 v1 y0 y1 u0 u1 := { I with R := I.R.add f }
theorem LA.drop (I : LA CB CM CP CK CW fr H p wr d b m ln se so to hd lw wo im v0 v1 y0 y1 u0 u1) : LA CB CM CP CK CW [] H p wr d b m ln se so to hd lw wo im v0 v1 y0 y1 u0 u1 := { I with R := I.R.drop }
theorem LA.off (I : LA CB CM CP CK CW [l] H p wr d b m ln se so to hd lw wo im v0 v1 y0 y1 u0 u1) (N : Nin l wr d b m se so hd lw wo) (W : WellAt H l) (k : But l H H') : LA CB CM CP CK CW [l] H' p wr d b m ln se so to hd lw wo im v0 v1 y0 y1 u0 u1 := by
  obtain ⟨a1, a2, a3, hl⟩ := W
  have kt : ∀ t xs, H t = some (.tup xs) → H' t = some (.tup xs) := fun t xs e => k _ _ (ne_of e hl (by intro z; cases z)) e
  exact { I with R := I.R.off (List.mem_singleton.mpr rfl) N.n0 k, L := lp_off I.L k N.n1 N.n2 N.n3 N.n4 N.n5 N.n6 N.n7, hlw := k _ _ N.n8 I.hlw, z0 := I.z0.mono kt, z1 := I.z1.mono kt, t0 := I.t0.mono kt, t1 := I.t1.mono kt }
theorem LA.mid {G : Hp} (I : LA CB CM CP CK CW fr H p wr d b m ln se so to hd lw wo im v0 v1 y0 y1 u0 u1) (k : But wr H G) : LpAt G d b m ln se so to hd lw wo im ∧ G lw = some (.lst [y0, y1]) ∧ WinAt G y0 u0 ∧ WinAt G y1 u1 := by
  have kt : ∀ t xs, H t = some (.tup xs) → G t = some (.tup xs) := fun t xs e => k _ _ (ne_of e I.hwr (by intro z; cases z)) e
  have dw : ∀ {q : Addr} {kv : List (Key × V)}, H q = some (.dK kv) → q ≠ wr := fun e => ne_of e I.hwr (by intro z; cases z)
  exact ⟨lp_off I.L k (dw I.L.hd_) (dw I.L.hb) I.n4 I.n5 (dw I.L.hso) (dw I.L.hhd) I.n6, k _ _ I.nw.symm I.hlw, I.t0.mono kt, I.t1.mono kt⟩
theorem well_up {H G : Hp} {l : Addr} (w : WellAt H l) (s : Same H G) : WellAt G l := by
  obtain ⟨a1, a2, a3, e⟩ := w
  exact ⟨a1, a2, a3, s _ _ e⟩
theorem LA.step {w0 w1 x0 x1 : V} {a : Act} {G : Hp} (I : LA CB CM CP CK CW fr H p wr d b m ln se so to hd lw wo im v0 v1 y0 y1 u0 u1) (k : But wr H G) (hw : G wr = some (.lst [w0, w1])) (z0 : WinAt G w0 (new0 a u0 u1)) (z1 : WinAt G w1 (new1 a u0 u1))
    (k2 : But lw G H') (hl : H' lw = some (.lst [x0, x1])) (t0 : WinAt H' x0 (new0 a u0 u1)) (t1 : WinAt H' x1 (new1 a u0 u1)) : LA CB CM CP CK CW fr H' p wr d b m ln se so to hd lw wo im w0 w1 x0 x1 (new0 a u0 u1) (new1 a u0 u1) := by
  have hlG : G lw = some (.lst [y0, y1]) := k _ _ I.nw.symm I.hlw
  have kt : ∀ t xs, G t = some (.tup xs) → H' t = some (.tup xs) := fun t xs e => k2 _ _ (ne_of e hlG (by intro z; cases z)) e
  have dw : ∀ {q : Addr} {kv : List (Key × V)}, H q = some (.dK kv) → q ≠ wr := fun e => ne_of e I.hwr (by intro z; cases z)
  have dl : ∀ {q : Addr} {kv : List (Key × V)}, G q = some (.dK kv) → q ≠ lw := fun e => ne_of e hlG (by intro z; cases z)
  have L1 := lp_off I.L k (dw I.L.hd_) (dw I.L.hb) I.n4 I.n5 (dw I.L.hso) (dw I.L.hhd) I.n6
  have L2 := lp_off L1 k2 (dl L1.hd_) (dl L1.hb) I.n1 I.n2 (dl L1.hso) (dl L1.hhd) I.n3
  obtain ⟨o0, o1⟩ := new_ok (a := a) I.k0 I.k1
  exact { R := (I.R.onw k hw).offl I.nw k2, L := L2, hlw := hl, z0 := z0.mono kt, z1 := z1.mono kt, t0 := t0, t1 := t1, k0 := o0, k1 := o1, nw := I.nw, n1 := I.n1, n2 := I.n2, n3 := I.n3, n4 := I.n4, n5 := I.n5, n6 := I.n6 }
end
section
variable {P : Program} {w : World} {K : PySem.W.Frag} {mg : Str → Option Value} {base : Heap} {CB CM CP CK CW CF CH CC CI CS CN CL CT CO CR CE : Addr}
abbrev sLaw : Stmt := topS 111
def scLlawN : List Str := ["_law_script", "_law_well_here", "_law_image", "_law_probe_here", "_law_p", "_law_cell", "_law_turn", "_law_act", "_law_low", "_law_high", "_law_kind", "_law_seen"]
theorem scLlaw : FnScope scLlawN ["_law_script"] (defScope sLaw) := ⟨rfl, rfl, rfl, by decide +kernel, rfl, by decide +kernel, by decide +kernel⟩
theorem ok_Llaw {f : Addr} {fd : FuncData} {fC_prb : Addr} {dC_prb : FuncData} {fL_cell : Addr} {dL_cell : FuncData} {fL_draw : Addr} {dL_draw : FuncData} {fL_one : Addr} {dL_one : FuncData} {fL_own : Addr} {dL_own : FuncData} {fL_prb : Addr} {dL_prb : FuncData} {fL_prog : Addr} {dL_prog : FuncData} {fL_said : Addr} {dL_said : FuncData} {fL_shown : Addr} {dL_shown : FuncData} {fL_told : Addr} {dL_told : FuncData} {fL_well : Addr} {dL_well : FuncData} {fM_wts : Addr} {dM_wts : FuncData} (F : Fun K "law" "law" sLaw f fd) (T : Ty K mg CB CM CP CK CW CF CH CC CI CS)
    (C_prb : CalC P w K mg base CP 8 "Probe" ["self", "image", "line"] (spPrI CB CM CP CK CW) fC_prb dC_prb)
    (L_cell : CalF P w K mg base 1 "_law_cell_at" ["_law_script", "_law_k"] (spCellAt K) fL_cell dL_cell)
    (L_draw : CalF P w K mg base 1 "_law_draw" ["_law_well_here", "_law_wide"] (spDraw) fL_draw dL_draw)
    (L_one : CalF P w K mg base 2 "_law_one" ["_law_well_here", "_law_some"] (spOne) fL_one dL_one)
    (L_own : CalF P w K mg base 1 "_law_own_watch" ["_law_p", "_law_act"] (spLOwn) fL_own dL_own)
    (L_prb : CalF P w K mg base 2 "_law_probe" ["_law_image", "_law_line"] (spLPrb) fL_prb dL_prb)
    (L_prog : CalF P w K mg base 3 "_law_program" ["_law_well_here", "_law_many"] (spProg) fL_prog dL_prog)
    (L_said : CalF P w K mg base 7 "_law_said" ["_law_probe_here", "_law_act"] (spLSaid CB CM CP CK CW) fL_said dL_said)
    (L_shown : CalF P w K mg base 1 "_law_shown" ["_law_p"] (spLShown K) fL_shown dL_shown)
    (L_told : CalF P w K mg base 4 "_law_told" ["_law_probe_here"] (spLTold K CB CM CP CK CW) fL_told dL_told)
    (L_well : CalF P w K mg base 1 "_law_well" ["_law_cell"] (spWell) fL_well dL_well)
    (M_wts : CalM P w K mg base CP 1 "watches" ["self"] (spLst CB CM CP CK CW (fun v0 v1 => [v0, v1])) fM_wts dM_wts) : FnOk P w K mg base CX0 10 f fd ["_law_script"] (spLaw K) := by
  refine F.ok scLlaw (fun vs H Q E h => by obtain ⟨_, _, rfl, _⟩ := h; rfl) (fun cdv A outer s H vs Q E hr h => ?_)
  have hu := hu_of hr
  have z_list := T.z_list
  have z_range := T.z_range
  obtain ⟨a, ns, rfl, hS, hn, q⟩ := h
  have hu64 := hr.units
  refine ⟨_, (pss_cons (ps_set (i := 1) scLlaw.nd rfl (.inl rfl) (pe_call L_well.G (hr.mono (by decide)) (by rfl) L_well.g L_well.kp L_well.b .nil pass0 (pa_cons (pe_call L_cell.G (hr.mono (by decide)) (by rfl) L_cell.g L_cell.kp L_cell.b .nil pass0 (pa_cons (pv 0) (pa_cons pe_int pa_nil))) pa_nil)))
    (pss_cons (ps_set (i := 2) scLlaw.nd rfl (.inl rfl) (pe_call L_prog.G (hr.mono (by decide)) (by rfl) L_prog.g L_prog.kp L_prog.b .nil pass0 (pa_cons (pv 1) (pa_cons (pe_op op_add pe_int (pe_call L_draw.G (hr.mono (by decide)) (by rfl) L_draw.g L_draw.kp L_draw.b .nil pass0 (pa_cons (pv 1) (pa_cons pe_int pa_nil)))) pa_nil))))
    (pss_cons (ps_set (i := 3) scLlaw.nd rfl (.inl rfl) (pe_make C_prb.M C_prb.I (hr.mono (by decide)) rfl C_prb.g C_prb.b .nil pass0 (pa_cons (pe_callTy call_list_of (by rfl) z_list (by decide +kernel) (pa_cons (pv 2) pa_nil)) (pa_cons (pe_lst pa_nil) pa_nil))))
    (pss_cons (ps_set (i := 4) scLlaw.nd rfl (.inl rfl) (pe_call L_prb.G (hr.mono (by decide)) (by rfl) L_prb.g L_prb.kp L_prb.b .nil pass0 (pa_cons (pv 2) (pa_cons (pe_lst pa_nil) pa_nil))))
    (pss_cons (ps_for PassesOwn.never rfl (pi_list (pe_op op_cat (pe_lst (pa_cons (pe_call L_cell.G (hr.mono (by decide)) (by rfl) L_cell.g L_cell.kp L_cell.b .nil pass0 (pa_cons (pv 0) (pa_cons pe_int pa_nil))) pa_nil)) (pe_slice sl_list (pv 0) (po_some pe_int) (po_some pe_int)))) (pg_name (i := 5) scLlaw.nd rfl (.inl rfl))
      (pss_cons (ps_set (i := 1) scLlaw.nd rfl (.inl rfl) (pe_call L_well.G (hr.mono (by decide)) (by rfl) L_well.g L_well.kp L_well.b .nil pass0 (pa_cons (pv 5) pa_nil)))
    (pss_one (ps_for PassesOwn.never rfl (pi_range1 (by rfl) z_range (pa_cons pe_int pa_nil)) (pg_name (i := 6) scLlaw.nd rfl (.inl rfl))
      (pss_cons (ps_set (i := 7) scLlaw.nd rfl (.inl rfl) (pe_tup (pa_cons pe_str (pa_cons (pe_call L_one.G (hr.mono (by decide)) (by rfl) L_one.g L_one.kp L_one.b .nil pass0 (pa_cons (pv 1) (pa_cons (pe_lst (pa_cons pe_int (pa_cons pe_int (pa_cons pe_int (pa_cons (pe_un un_neg pe_int) pa_nil))))) pa_nil))) pa_nil))))
    (pss_cons (ps_if (pt_cmpR op_gt (pe_call L_draw.G (hr.mono (by decide)) (by rfl) L_draw.g L_draw.kp L_draw.b .nil pass0 (pa_cons (pv 1) (pa_cons pe_int pa_nil))) pe_int (nomark _)) (pss_cons (ps_set (i := 8) scLlaw.nd rfl (.inl rfl) (pe_call L_one.G (hr.mono (by decide)) (by rfl) L_one.g L_one.kp L_one.b .nil pass0 (pa_cons (pv 1) (pa_cons (pe_lst (pa_cons pe_int (pa_cons pe_int (pa_cons pe_int (pa_cons (pe_un un_neg pe_int) (pa_cons (pe_call L_draw.G (hr.mono (by decide)) (by rfl) L_draw.g L_draw.kp L_draw.b .nil pass0 (pa_cons (pv 1) (pa_cons pe_int pa_nil))) pa_nil)))))) pa_nil))))
    (pss_cons (ps_set (i := 9) scLlaw.nd rfl (.inl rfl) (pe_call L_one.G (hr.mono (by decide)) (by rfl) L_one.g L_one.kp L_one.b .nil pass0 (pa_cons (pv 1) (pa_cons (pe_lst (pa_cons (pv 8) (pa_cons (pe_op op_add (pv 8) pe_int) (pa_cons pe_int (pa_cons pe_int (pa_cons (pe_op op_sub (pv 8) pe_int) (pa_cons (pe_op op_add (pv 8) (pe_call L_draw.G (hr.mono (by decide)) (by rfl) L_draw.g L_draw.kp L_draw.b .nil pass0 (pa_cons (pv 1) (pa_cons pe_int pa_nil)))) pa_nil))))))) pa_nil))))
    (pss_cons (ps_set (i := 10) scLlaw.nd rfl (.inl rfl) (pe_call L_one.G (hr.mono (by decide)) (by rfl) L_one.g L_one.kp L_one.b .nil pass0 (pa_cons (pv 1) (pa_cons (pe_lst (pa_cons pe_str (pa_cons pe_str (pa_cons pe_str (pa_cons pe_str (pa_cons pe_str (pa_cons pe_str (pa_cons pe_str (pa_cons pe_str (pa_cons pe_str (pa_cons pe_str pa_nil))))))))))) pa_nil))))
    (pss_one (ps_set (i := 7) scLlaw.nd rfl (.inl rfl) (pe_tup (pa_cons pe_str (pa_cons (pe_call L_one.G (hr.mono (by decide)) (by rfl) L_one.g L_one.kp L_one.b .nil pass0 (pa_cons (pv 1) (pa_cons (pe_lst (pa_cons pe_int (pa_cons pe_int (pa_cons pe_int (pa_cons pe_int (pa_cons pe_int (pa_cons pe_int (pa_cons pe_int (pa_cons (pe_un un_neg pe_int) pa_nil))))))))) pa_nil))) (pa_cons (pv 8) (pa_cons (pv 9) (pa_cons (pv 10) pa_nil))))))))))) pss_nil)
    (pss_cons (ps_if (PW.pt (pw_or (pt_cmpR (op_neD hu64) (pe_call L_said.G (hr.mono (by decide)) (by rfl) L_said.g L_said.kp L_said.b .nil pass0 (pa_cons (pv 3) (pa_cons (pv 7) pa_nil))) (pe_call L_own.G (hr.mono (by decide)) (by rfl) L_own.g L_own.kp L_own.b .nil pass0 (pa_cons (pv 4) (pa_cons (pv 7) pa_nil))) (nomark _)) (pw_or1 (pt_cmpR (op_neD hu64) (pe_call L_told.G (hr.mono (by decide)) (by rfl) L_told.g L_told.kp L_told.b .nil pass0 (pa_cons (pv 3) pa_nil)) (pe_call L_shown.G (hr.mono (by decide)) (by rfl) L_shown.g L_shown.kp L_shown.b .nil pass0 (pa_cons (pv 4) pa_nil)) (nomark _))))) (pss_one (ps_ret pe_bl)) pss_nil)
    (pss_cons (ps_expr (pe_bm PySem.F.plainAttrs_list PySem.F.slot_list_append PySem.F.type_list_append mt_append (pe_meth0 (pv 3) M_wts.c M_wts.m M_wts.G (hr.mono (by decide)) M_wts.b .nil pass0) (pa_cons pe_non pa_nil)))
    (pss_cons (ps_set (i := 11) scLlaw.nd rfl (.inl rfl) (pe_meth0 (pv 3) M_wts.c M_wts.m M_wts.G (hr.mono (by decide)) M_wts.b .nil pass0))
    (pss_one (ps_asg (pe_tup (pa_cons pe_int (pa_cons pe_int (pa_cons pe_str pa_nil)))) (pg_sub (pv 11) pe_int set_list))))))))))))
    (pss_one (ps_ret pe_bl))))))), ?_⟩
  refine ⟨_, rfl, a, ns, 0, rfl, hS, fun z1 => ⟨z1, rfl, fun G1 l s1 f1 w1 => ?_⟩⟩
  refine ⟨_, rfl, _, rfl, l, 30, rfl, w1, by decide, by decide, fun G2 d2 k2 w2 d0 d1 => ⟨_, _, rfl, rfl, l, _, rfl, w2, by omega, by omega, fun G3 im ims k3 w3 nim him hil hiw => ?_⟩⟩
  have sH : Same H G3 := fun b o e => k3 b o (ne_of_none e f1) (k2 b o (ne_of_none e f1) (s1 _ _ e))
  have hS := sH.seq hS
  refine ⟨_, rfl, im, _, rfl, .inl (SqL.of him), fun l4 n4 => ?_⟩
  have r4 := same_upd' (o := .lst (ims.map V.int)) n4
  have h4 : upd G3 l4 (.lst (ims.map V.int)) l4 = some (.lst (ims.map V.int)) := upd_same
  have him := r4 _ _ him
  generalize upd G3 l4 (.lst (ims.map V.int)) = G4 at *
  refine ⟨Nat.zero_le _, fun l5 n5 => ?_⟩
  have r5 := same_upd' (o := .lst []) n5
  have h5 : upd G4 l5 (.lst []) l5 = some (.lst []) := upd_same
  have him := r5 _ _ him
  have h4 := r5 _ _ h4
  generalize upd G4 l5 (.lst []) = G5 at *
  intro p dx np ndx hdx
  have sq : Same G5 (upd (upd G5 dx (.own p)) p (.ins CP dx [])) := fun z o ez => by
    rw [upd_ne (ne_of_none ez np), upd_ne (ne_of_none ez ndx)]
    exact ez
  refine ⟨G5, p, dx, l4, l5, [], ims, [], rfl, sq, np, upd_same, sq _ _ h4, by omega, hiw, sq _ _ h5, .nil, trivial, fun G6 wr R => ⟨rfl, ?_⟩⟩
  have s6 : Same G5 G6 := by
    obtain ⟨Hf, b, A, ts, ls, st, hd, er, wa, dx, dk, dw, fr, hi, co, mi, sd, F, s0, s1, hw⟩ := R
    exact s0.trans s1
  have hS := ((r4.trans r5).trans s6).seq hS
  have him := s6 _ _ him
  clear sq sH w1 w2 w3 k2 k3 s1
  refine ⟨_, rfl, Nat.zero_le _, fun l7 n7 => ?_⟩
  have R := R.same (same_upd' (o := .lst []) n7)
  have r7 := same_upd' (o := .lst []) n7
  have h7 : upd G6 l7 (.lst []) l7 = some (.lst []) := upd_same
  have him := r7 _ _ him
  generalize upd G6 l7 (.lst []) = G7 at *
  refine ⟨im, l7, ims, rfl, him, by omega, h7, fun G8 d b m ln se so to hd lw wo s8 L hlw flw nm nse nwo => ?_⟩
  have hwr7 := R.lwr
  have hwr8 := s8 _ _ hwr7
  have n4 : m ≠ wr := fun z => by
    have e := L.hm
    rw [z, hwr8] at e
    have q := congrArg List.length (HO.lst.inj (Option.some.inj e))
    rw [List.length_map] at q
    unfold memOf at q
    simp only [List.length_append, List.length_replicate, List.length_cons, List.length_nil] at q
    omega
  have n5 : se ≠ wr := fun z => by
    have e := L.hse
    rw [z, hwr8] at e
    cases e
  have n6 : wo ≠ wr := fun z => by
    have e := L.hwo
    rw [z, hwr8] at e
    cases e
  have I : LA CB CM CP CK CW [] G8 p wr d b m ln se so to hd lw wo ims .non .non .non .non none none :=
    { R := (PbL.mk R flw).same s8, L := L, hlw := hlw, z0 := rfl, z1 := rfl, t0 := rfl, t1 := rfl, k0 := fun _ e => (by cases e), k1 := fun _ e => (by cases e), nw := ne_of_none hwr7 flw, n1 := nm, n2 := nse, n3 := nwo, n4 := n4, n5 := n5, n6 := n6 }
  have hS := (r7.trans s8).seq hS
  clear L hlw flw R him hwr7 hwr8 s8 r7 h7 n7
  refine ⟨_, rfl, a, ns, 1, rfl, hS, fun z => ⟨(by show 1 ≤ sizeLine; decide), fun l9 n9 => ?_⟩⟩
  have I := I.same (same_upd' (o := .lst [.int z]) n9)
  have r9 := same_upd' (o := .lst [.int z]) n9
  have h9 : upd G8 l9 (.lst [.int z]) l9 = some (.lst [.int z]) := upd_same
  generalize upd G8 l9 (.lst [.int z]) = G9 at *
  have hS := r9.seq hS
  obtain ⟨ms, ems, hms⟩ := cut_ints ns (some 2) (some 9)
  refine ⟨_, rfl, _, rfl, _, rfl, a, _, rfl, hS, fun l10 n10 => ?_⟩
  rw [ems]
  have I := I.same (same_upd' (o := .lst (ms.map V.int)) n10)
  have r10 := same_upd' (o := .lst (ms.map V.int)) n10
  have h10 : upd G9 l10 (.lst (ms.map V.int)) l10 = some (.lst (ms.map V.int)) := upd_same
  have h9 := r10 _ _ h9
  generalize upd G9 l10 (.lst (ms.map V.int)) = G10 at *
  refine ⟨l9, l10, _, _, rfl, rfl, h9, h10, ?_, fun ca nca => ?_⟩
  · rw [List.length_map, List.length_singleton]
    exact small1000' (by omega)
  have hca0 : upd G10 ca (.lst ([V.int z] ++ ms.map V.int)) ca = some (.lst ((z :: ms).map V.int)) := upd_same
  have N := I.nin nca
  have I := I.same (same_upd' (o := .lst ([V.int z] ++ ms.map V.int)) nca)
  generalize upd G10 ca (.lst ([V.int z] ++ ms.map V.int)) = G11 at *
  have caw : ca ≠ wr := N.n0.symm
  have cal : ca ≠ lw := N.n8.symm
  clear N
  refine ⟨ca, rfl, ⟨_, SqL.of hca0⟩, ?_⟩
  refine for_list (K := K) (a := ca) (xs := (z :: ms).map V.int) (fun i σ H' => H' ca = some (.lst ((z :: ms).map V.int)) ∧ ∃ (v0 v1 y0 y1 : V) (u0 u1 : Wn) (y5 y6 y7 y8 y9 y10 y11 x1 : Option V), LA CB CM CP CK CW [] H' p wr d b m ln se so to hd lw wo ims v0 v1 y0 y1 u0 u1 ∧ σ = [some (.ref a), x1, some (.ref im), some (.ref p), some (.ref d), y5, y6, y7, y8, y9, y10, y11]) ⟨hca0, _, _, _, _, _, _, none, none, none, none, none, none, none, _, I, rfl⟩ (fun _ _ _ _ h => SqL.of h.1) ?_ ?_
  · rintro i v σ H1 hi ⟨hca, v0, v1, y0, y1, u0, u1, y5, y6, y7, y8, y9, y10, y11, x1, I, rfl⟩
    obtain ⟨cell, _, rfl⟩ := getI hi
    clear hca0
    refine ⟨_, rfl, cell, rfl, fun H2 l s2 f2 w2 => ?_⟩
    have N := I.nin f2
    have nca := ne_of_none hca f2
    have I := (I.add f2).same s2
    have hca := s2 _ _ hca
    clear s2 f2
    refine ⟨5, rfl, by decide, by decide, ?_⟩
    refine for_range (lo := 0) (n := 5) (fun i σ H' => H' ca = some (.lst ((z :: ms).map V.int)) ∧ WellAt H' l ∧ ∃ (v0 v1 y0 y1 : V) (u0 u1 : Wn) (y6 y7 y8 y9 y10 y11 : Option V), LA CB CM CP CK CW [l] H' p wr d b m ln se so to hd lw wo ims v0 v1 y0 y1 u0 u1 ∧ σ = [some (.ref a), some (.ref l), some (.ref im), some (.ref p), some (.ref d), some (.int cell), y6, y7, y8, y9, y10, y11]) ⟨hca, w2, _, _, _, _, _, _, y6, y7, y8, y9, y10, y11, I, rfl⟩ ?_ ?_
    · rintro i σ H3 hi3 ⟨hca, w3, v0, v1, y0, y1, u0, u1, y6, y7, y8, y9, y10, y11, I, rfl⟩
      refine ⟨_, rfl, _, rfl, (by show 4 ≤ sizeLine; decide), fun a1 m1 => ?_⟩
      have w3o := w3
      have I := I.same (same_upd' (o := .lst [V.int 0, V.int 1, V.int 2, V.int (-1)]) m1)
      have hca := same_upd' (o := .lst [V.int 0, V.int 1, V.int 2, V.int (-1)]) m1 _ _ hca
      have w3 : WellAt (upd H3 a1 (.lst [V.int 0, V.int 1, V.int 2, V.int (-1)])) l := by obtain ⟨a1, a2, a3, e⟩ := w3; exact ⟨a1, a2, a3, same_upd' m1 _ _ e⟩
      have h_a1 : upd H3 a1 (.lst [V.int 0, V.int 1, V.int 2, V.int (-1)]) a1 = some (.lst [V.int 0, V.int 1, V.int 2, V.int (-1)]) := upd_same
      have q_a1 : a1 ≠ l := well_ne w3o m1
      generalize upd H3 a1 (.lst [V.int 0, V.int 1, V.int 2, V.int (-1)]) = K11 at *
      clear w3o
      refine ⟨l, a1, _, rfl, w3, q_a1, h_a1, by simp, (by simp), fun J1 x kx wx hx => ?_⟩
      have I := I.off N w3 kx
      have hca := kx _ _ nca hca
      clear w3
      have w3 := wx
      clear wx
      clear kx h_a1 q_a1 m1
      obtain ⟨n_x, rfl⟩ : ∃ n : Int, x = .int n := by
        simp only [List.mem_cons, List.not_mem_nil, or_false] at hx
        rcases hx with rfl | rfl | rfl | rfl <;> exact ⟨_, rfl⟩
      refine ⟨(by show 2 ≤ sizeLine; decide), fun t nt => ?_⟩
      have w3o := w3
      have I := I.same (same_upd' (o := .tup [V.str "unwatch", V.int n_x]) nt)
      have hca := same_upd' (o := .tup [V.str "unwatch", V.int n_x]) nt _ _ hca
      have w3 : WellAt (upd J1 t (.tup [V.str "unwatch", V.int n_x])) l := by obtain ⟨a1, a2, a3, e⟩ := w3; exact ⟨a1, a2, a3, same_upd' nt _ _ e⟩
      have h_t : upd J1 t (.tup [V.str "unwatch", V.int n_x]) t = some (.tup [V.str "unwatch", V.int n_x]) := upd_same
      have q_t : t ≠ l := well_ne w3o nt
      generalize upd J1 t (.tup [V.str "unwatch", V.int n_x]) = K12 at *
      clear w3o
      clear nt
      refine ⟨_, rfl, l, 4, rfl, w3, by decide, by decide, fun J2 dd k2 w2 c0 c1 => ?_⟩
      have I := I.off N w3 k2
      have hca := k2 _ _ nca hca
      have h_t := k2 _ _ q_t h_t
      clear w3
      have w3 := w2
      clear w2
      clear k2 q_t
      refine ⟨_, _, rfl, rfl, _, rfl, ifB (fun _ => ?_) (fun _ => ?_)⟩
      · clear h_t
        refine ⟨_, rfl, _, rfl, _, rfl, l, 774, rfl, w3, by decide, by decide, fun J3 d3 k3 w4 c0 c1 => ⟨(by show 5 ≤ sizeLine; decide), fun a2 m2 => ?_⟩⟩
        have I := I.off N w3 k3
        have hca := k3 _ _ nca hca
        clear w3
        have w3 := w4
        clear w4
        have w3o := w3
        have I := I.same (same_upd' (o := .lst [V.int 0, V.int 773, V.int 774, V.int (-1), V.int d3]) m2)
        have hca := same_upd' (o := .lst [V.int 0, V.int 773, V.int 774, V.int (-1), V.int d3]) m2 _ _ hca
        have w3 : WellAt (upd J3 a2 (.lst [V.int 0, V.int 773, V.int 774, V.int (-1), V.int d3])) l := by obtain ⟨a1, a2, a3, e⟩ := w3; exact ⟨a1, a2, a3, same_upd' m2 _ _ e⟩
        have h_a2 : upd J3 a2 (.lst [V.int 0, V.int 773, V.int 774, V.int (-1), V.int d3]) a2 = some (.lst [V.int 0, V.int 773, V.int 774, V.int (-1), V.int d3]) := upd_same
        have q_a2 : a2 ≠ l := well_ne w3o m2
        generalize upd J3 a2 (.lst [V.int 0, V.int 773, V.int 774, V.int (-1), V.int d3]) = K13 at *
        clear w3o
        refine ⟨l, a2, _, rfl, w3, q_a2, h_a2, by simp, (by simp), fun J4 y ky wy hy => ?_⟩
        have I := I.off N w3 ky
        have hca := ky _ _ nca hca
        clear w3
        have w3 := wy
        clear wy
        clear ky h_a2 q_a2 m2 k3
        obtain ⟨n_y, rfl⟩ : ∃ n : Int, y = .int n := by
          simp only [List.mem_cons, List.not_mem_nil, or_false] at hy
          rcases hy with rfl | rfl | rfl | rfl | rfl <;> exact ⟨_, rfl⟩
        refine ⟨_, rfl, _, rfl, _, rfl, _, _, rfl, rfl, _, rfl, _, _, rfl, rfl, _, rfl, _, rfl, l, 300, rfl, w3, by decide, by decide, fun J5 d5 k5 w5 c2 c3 => ⟨_, _, rfl, rfl, (by show 6 ≤ sizeLine; decide), fun a3 m3 => ?_⟩⟩
        have I := I.off N w3 k5
        have hca := k5 _ _ nca hca
        clear w3
        have w3 := w5
        clear w5
        have w3o := w3
        have I := I.same (same_upd' (o := .lst [V.int n_y, V.int (n_y + 1), V.int 773, V.int 774, V.int (n_y - 1), V.int (n_y + d5)]) m3)
        have hca := same_upd' (o := .lst [V.int n_y, V.int (n_y + 1), V.int 773, V.int 774, V.int (n_y - 1), V.int (n_y + d5)]) m3 _ _ hca
        have w3 : WellAt (upd J5 a3 (.lst [V.int n_y, V.int (n_y + 1), V.int 773, V.int 774, V.int (n_y - 1), V.int (n_y + d5)])) l := by obtain ⟨a1, a2, a3, e⟩ := w3; exact ⟨a1, a2, a3, same_upd' m3 _ _ e⟩
        have h_a3 : upd J5 a3 (.lst [V.int n_y, V.int (n_y + 1), V.int 773, V.int 774, V.int (n_y - 1), V.int (n_y + d5)]) a3 = some (.lst [V.int n_y, V.int (n_y + 1), V.int 773, V.int 774, V.int (n_y - 1), V.int (n_y + d5)]) := upd_same
        have q_a3 : a3 ≠ l := well_ne w3o m3
        generalize upd J5 a3 (.lst [V.int n_y, V.int (n_y + 1), V.int 773, V.int 774, V.int (n_y - 1), V.int (n_y + d5)]) = K14 at *
        clear w3o
        refine ⟨l, a3, _, rfl, w3, q_a3, h_a3, by simp, (by simp), fun J6 u ku wu hu_ => ?_⟩
        have I := I.off N w3 ku
        have hca := ku _ _ nca hca
        clear w3
        have w3 := wu
        clear wu
        clear ku h_a3 q_a3 m3 k5
        obtain ⟨n_u, rfl⟩ : ∃ n : Int, u = .int n := by
          simp only [List.mem_cons, List.not_mem_nil, or_false] at hu_
          rcases hu_ with rfl | rfl | rfl | rfl | rfl | rfl <;> exact ⟨_, rfl⟩
        refine ⟨_, rfl, (by show 10 ≤ sizeLine; decide), fun a4 m4 => ?_⟩
        have w3o := w3
        have I := I.same (same_upd' (o := .lst [V.str "r", V.str "w", V.str "rw", V.str "r", V.str "w", V.str "rw", V.str "wr", V.str "", V.str "x", V.str "rr"]) m4)
        have hca := same_upd' (o := .lst [V.str "r", V.str "w", V.str "rw", V.str "r", V.str "w", V.str "rw", V.str "wr", V.str "", V.str "x", V.str "rr"]) m4 _ _ hca
        have w3 : WellAt (upd J6 a4 (.lst [V.str "r", V.str "w", V.str "rw", V.str "r", V.str "w", V.str "rw", V.str "wr", V.str "", V.str "x", V.str "rr"])) l := by obtain ⟨a1, a2, a3, e⟩ := w3; exact ⟨a1, a2, a3, same_upd' m4 _ _ e⟩
        have h_a4 : upd J6 a4 (.lst [V.str "r", V.str "w", V.str "rw", V.str "r", V.str "w", V.str "rw", V.str "wr", V.str "", V.str "x", V.str "rr"]) a4 = some (.lst [V.str "r", V.str "w", V.str "rw", V.str "r", V.str "w", V.str "rw", V.str "wr", V.str "", V.str "x", V.str "rr"]) := upd_same
        have q_a4 : a4 ≠ l := well_ne w3o m4
        generalize upd J6 a4 (.lst [V.str "r", V.str "w", V.str "rw", V.str "r", V.str "w", V.str "rw", V.str "wr", V.str "", V.str "x", V.str "rr"]) = K15 at *
        clear w3o
        refine ⟨l, a4, _, rfl, w3, q_a4, h_a4, by simp, (by simp), fun J7 v kv wv hv => ?_⟩
        have I := I.off N w3 kv
        have hca := kv _ _ nca hca
        clear w3
        have w3 := wv
        clear wv
        clear kv h_a4 q_a4 m4
        obtain ⟨kd, rfl⟩ : ∃ n : Str, v = .str n := by
          simp only [List.mem_cons, List.not_mem_nil, or_false] at hv
          rcases hv with rfl | rfl | rfl | rfl | rfl | rfl | rfl | rfl | rfl | rfl <;> exact ⟨_, rfl⟩
        refine ⟨_, rfl, _, rfl, (by show 8 ≤ sizeLine; decide), fun a5 m5 => ?_⟩
        have w3o := w3
        have I := I.same (same_upd' (o := .lst [V.int 0, V.int 1, V.int 0, V.int 1, V.int 0, V.int 1, V.int 2, V.int (-1)]) m5)
        have hca := same_upd' (o := .lst [V.int 0, V.int 1, V.int 0, V.int 1, V.int 0, V.int 1, V.int 2, V.int (-1)]) m5 _ _ hca
        have w3 : WellAt (upd J7 a5 (.lst [V.int 0, V.int 1, V.int 0, V.int 1, V.int 0, V.int 1, V.int 2, V.int (-1)])) l := by obtain ⟨a1, a2, a3, e⟩ := w3; exact ⟨a1, a2, a3, same_upd' m5 _ _ e⟩
        have h_a5 : upd J7 a5 (.lst [V.int 0, V.int 1, V.int 0, V.int 1, V.int 0, V.int 1, V.int 2, V.int (-1)]) a5 = some (.lst [V.int 0, V.int 1, V.int 0, V.int 1, V.int 0, V.int 1, V.int 2, V.int (-1)]) := upd_same
        have q_a5 : a5 ≠ l := well_ne w3o m5
        generalize upd J7 a5 (.lst [V.int 0, V.int 1, V.int 0, V.int 1, V.int 0, V.int 1, V.int 2, V.int (-1)]) = K16 at *
        clear w3o
        refine ⟨l, a5, _, rfl, w3, q_a5, h_a5, by simp, (by simp), fun J8 z_ kz wz hz => ?_⟩
        have I := I.off N w3 kz
        have hca := kz _ _ nca hca
        clear w3
        have w3 := wz
        clear wz
        clear kz h_a5 q_a5 m5
        obtain ⟨n_z_, rfl⟩ : ∃ n : Int, z_ = .int n := by
          simp only [List.mem_cons, List.not_mem_nil, or_false] at hz
          rcases hz with rfl | rfl | rfl | rfl | rfl | rfl | rfl | rfl <;> exact ⟨_, rfl⟩
        refine ⟨_, rfl, _, rfl, _, rfl, (by show 5 ≤ sizeLine; decide), fun t nt => ?_⟩
        have w3o := w3
        have I := I.same (same_upd' (o := .tup [V.str "watch", V.int n_z_, V.int n_y, V.int n_u, V.str kd]) nt)
        have hca := same_upd' (o := .tup [V.str "watch", V.int n_z_, V.int n_y, V.int n_u, V.str kd]) nt _ _ hca
        have w3 : WellAt (upd J8 t (.tup [V.str "watch", V.int n_z_, V.int n_y, V.int n_u, V.str kd])) l := by obtain ⟨a1, a2, a3, e⟩ := w3; exact ⟨a1, a2, a3, same_upd' nt _ _ e⟩
        have h_t : upd J8 t (.tup [V.str "watch", V.int n_z_, V.int n_y, V.int n_u, V.str kd]) t = some (.tup [V.str "watch", V.int n_z_, V.int n_y, V.int n_u, V.str kd]) := upd_same
        have q_t : t ≠ l := well_ne w3o nt
        generalize upd J8 t (.tup [V.str "watch", V.int n_z_, V.int n_y, V.int n_u, V.str kd]) = K17 at *
        clear w3o
        clear nt q_t
        have ha : ActAt K17 t (.wat n_z_ n_y n_u kd) := h_t
        have tw : t ≠ wr := ne_of h_t I.hwr (by intro z; cases z)
        refine ⟨_, rfl, _, rfl, _, p, wr, t, v0, v1, u0, u1, _, (.wat n_z_ n_y n_u kd), rfl, I.R.pb, I.z0, I.z1, ha, fun Ga la w0' w1' ka hla Ra q0 q1 => ?_⟩
        have hwa := Ra.lwr
        have hta := ka _ _ tw h_t
        have haa : ActAt Ga t (.wat n_z_ n_y n_u kd) := hta
        obtain ⟨La, hlwa, ta0, ta1⟩ := I.mid ka
        refine ⟨_, rfl, _, rfl, d, b, m, ln, se, so, to, hd, lw, wo, t, y0, y1, u0, u1, ims, (.wat n_z_ n_y n_u kd), rfl, La, hlwa, ta0, ta1, haa, fun Gb lb x0 x1 kb hlb hlwb q2 q3 => ?_⟩
        have hlab := kb _ _ (ne_of hla hlwa (by intro z; cases z)) hla
        have I := I.step (a := (.wat n_z_ n_y n_u kd)) ka hwa q0 q1 kb hlwb q2 q3
        have hca := kb _ _ cal (ka _ _ caw hca)
        have w3 : WellAt Gb l := by
          obtain ⟨a1, a2, a3, e⟩ := w3
          exact ⟨a1, a2, a3, kb _ _ N.n8.symm (ka _ _ N.n0.symm e)⟩
        have eq1 : PyData.eqv (.tuple (outM (.wat n_z_ n_y n_u kd) u0 u1).ds) (.tuple (outM (.wat n_z_ n_y n_u kd) u0 u1).ds) = true := SeqAt.eqv_refl _ (SeqAt.canLay_of_shaped (out_shape _))
        refine ⟨_, _, .tup (SqT.of hlab) (dp_out _), .tup (SqT.of hlb) (dp_out _), out_shape _, out_shape _, _, rfl, ?_⟩
        rw [eq1]
        refine ifN (fun h => by cases h) (fun _ => ?_)
        clear hlab hla hlb hlwb q0 q1 q2 q3 ka kb La hlwa ta0 ta1 hta haa Ra hwa eq1 h_t ha tw
        generalize new0 (.wat n_z_ n_y n_u kd) u0 u1 = u0, new1 (.wat n_z_ n_y n_u kd) u0 u1 = u1 at *
        refine ⟨_, rfl, _, p, wr, w0', w1', _, _, ims, rfl, I.R.pb, I.z0, I.z1, fun Gc lc sc dc => ?_⟩
        have I := I.same sc
        refine ⟨_, rfl, d, b, m, ln, se, so, to, hd, lw, wo, x0, x1, _, _, ims, rfl, I.L, I.hlw, I.t0, I.t1, fun Gd ld sd dd => ?_⟩
        have I := I.same sd
        have scd := sc.trans sd
        refine ⟨_, _, dp_up sd _ _ dc, dd, st_shape I.k0 I.k1, st_shape I.k0 I.k1, _, rfl, ?_⟩
        rw [SeqAt.eqv_refl _ (SeqAt.canLay_of_shaped (st_shape I.k0 I.k1))]
        have w3 := well_up w3 scd
        have hca := scd _ _ hca
        refine ifN (fun h => by cases h) (fun _ => ?_)
        clear dc dd sc sd scd
        obtain ⟨dx, e1, e2, e3, e4, e5, e6, e7, e8, hp⟩ := I.R.pb.ins
        refine ⟨_, rfl, p, dx, _, rfl, hp, pN_watches, _, p, wr, w0', w1', _, rfl, I.R.pb, fun Ge le se_ fe he => ⟨.inl ⟨rfl, _, SqL.of he⟩, le, _, _, rfl, rfl, he, (by show 2 < sizeLine; decide), ?_⟩⟩
        have sf : Same Gd (upd Ge le (.lst ([w0', w1'] ++ [V.non]))) := same_of se_ fe
        have hp := sf _ _ hp
        have I := I.same sf
        have w3 := well_up w3 sf
        have hca := sf _ _ hca
        generalize upd Ge le (.lst ([w0', w1'] ++ [V.non])) = Gf at *
        clear sf se_ fe he
        refine ⟨_, rfl, p, dx, _, rfl, hp, pN_watches, _, p, wr, w0', w1', _, rfl, I.R.pb, fun Gg lg sg fg hg => ?_⟩
        refine ⟨(by show 3 ≤ sizeLine; decide), fun t3 nt3 => ?_⟩
        have s3 := same_upd' (o := .tup [V.int 0, V.int 0, V.str "r"]) nt3
        refine ⟨_, rfl, lg, _, _, _, rfl, rfl, s3 _ _ hg, ixN_in (by decide) (by show (0 : Int) < 2; decide), ?_⟩
        have sh := same_of (o := .lst ([w0', w1'].set (0 : Int).toNat (.ref t3))) (sg.trans s3) fg
        exact ⟨sh _ _ hca, well_up w3 sh, _, _, _, _, _, _, _, _, _, _, _, _, I.same sh, rfl⟩
      · have ha : ActAt J2 t (.unw n_x) := h_t
        have tw : t ≠ wr := ne_of h_t I.hwr (by intro z; cases z)
        refine ⟨_, rfl, _, rfl, _, p, wr, t, v0, v1, u0, u1, _, (.unw n_x), rfl, I.R.pb, I.z0, I.z1, ha, fun Ga la w0' w1' ka hla Ra q0 q1 => ?_⟩
        have hwa := Ra.lwr
        have hta := ka _ _ tw h_t
        have haa : ActAt Ga t (.unw n_x) := hta
        obtain ⟨La, hlwa, ta0, ta1⟩ := I.mid ka
        refine ⟨_, rfl, _, rfl, d, b, m, ln, se, so, to, hd, lw, wo, t, y0, y1, u0, u1, ims, (.unw n_x), rfl, La, hlwa, ta0, ta1, haa, fun Gb lb x0 x1 kb hlb hlwb q2 q3 => ?_⟩
        have hlab := kb _ _ (ne_of hla hlwa (by intro z; cases z)) hla
        have I := I.step (a := (.unw n_x)) ka hwa q0 q1 kb hlwb q2 q3
        have hca := kb _ _ cal (ka _ _ caw hca)
        have w3 : WellAt Gb l := by
          obtain ⟨a1, a2, a3, e⟩ := w3
          exact ⟨a1, a2, a3, kb _ _ N.n8.symm (ka _ _ N.n0.symm e)⟩
        have eq1 : PyData.eqv (.tuple (outM (.unw n_x) u0 u1).ds) (.tuple (outM (.unw n_x) u0 u1).ds) = true := SeqAt.eqv_refl _ (SeqAt.canLay_of_shaped (out_shape _))
        refine ⟨_, _, .tup (SqT.of hlab) (dp_out _), .tup (SqT.of hlb) (dp_out _), out_shape _, out_shape _, _, rfl, ?_⟩
        rw [eq1]
        refine ifN (fun h => by cases h) (fun _ => ?_)
        clear hlab hla hlb hlwb q0 q1 q2 q3 ka kb La hlwa ta0 ta1 hta haa Ra hwa eq1 h_t ha tw
        generalize new0 (.unw n_x) u0 u1 = u0, new1 (.unw n_x) u0 u1 = u1 at *
        refine ⟨_, rfl, _, p, wr, w0', w1', _, _, ims, rfl, I.R.pb, I.z0, I.z1, fun Gc lc sc dc => ?_⟩
        have I := I.same sc
        refine ⟨_, rfl, d, b, m, ln, se, so, to, hd, lw, wo, x0, x1, _, _, ims, rfl, I.L, I.hlw, I.t0, I.t1, fun Gd ld sd dd => ?_⟩
        have I := I.same sd
        have scd := sc.trans sd
        refine ⟨_, _, dp_up sd _ _ dc, dd, st_shape I.k0 I.k1, st_shape I.k0 I.k1, _, rfl, ?_⟩
        rw [SeqAt.eqv_refl _ (SeqAt.canLay_of_shaped (st_shape I.k0 I.k1))]
        have w3 := well_up w3 scd
        have hca := scd _ _ hca
        refine ifN (fun h => by cases h) (fun _ => ?_)
        clear dc dd sc sd scd
        obtain ⟨dx, e1, e2, e3, e4, e5, e6, e7, e8, hp⟩ := I.R.pb.ins
        refine ⟨_, rfl, p, dx, _, rfl, hp, pN_watches, _, p, wr, w0', w1', _, rfl, I.R.pb, fun Ge le se_ fe he => ⟨.inl ⟨rfl, _, SqL.of he⟩, le, _, _, rfl, rfl, he, (by show 2 < sizeLine; decide), ?_⟩⟩
        have sf : Same Gd (upd Ge le (.lst ([w0', w1'] ++ [V.non]))) := same_of se_ fe
        have hp := sf _ _ hp
        have I := I.same sf
        have w3 := well_up w3 sf
        have hca := sf _ _ hca
        generalize upd Ge le (.lst ([w0', w1'] ++ [V.non])) = Gf at *
        clear sf se_ fe he
        refine ⟨_, rfl, p, dx, _, rfl, hp, pN_watches, _, p, wr, w0', w1', _, rfl, I.R.pb, fun Gg lg sg fg hg => ?_⟩
        refine ⟨(by show 3 ≤ sizeLine; decide), fun t3 nt3 => ?_⟩
        have s3 := same_upd' (o := .tup [V.int 0, V.int 0, V.str "r"]) nt3
        refine ⟨_, rfl, lg, _, _, _, rfl, rfl, s3 _ _ hg, ixN_in (by decide) (by show (0 : Int) < 2; decide), ?_⟩
        have sh := same_of (o := .lst ([w0', w1'].set (0 : Int).toNat (.ref t3))) (sg.trans s3) fg
        exact ⟨sh _ _ hca, well_up w3 sh, _, _, _, _, _, _, _, _, _, _, _, _, I.same sh, rfl⟩
    · rintro σ H3 ⟨hca, w3, v0, v1, y0, y1, u0, u1, y6, y7, y8, y9, y10, y11, I, rfl⟩
      exact ⟨hca, v0, v1, y0, y1, u0, u1, _, _, _, _, _, _, _, _, I.drop, rfl⟩
  · rintro σ H1 ⟨_, v0, v1, y0, y1, u0, u1, y5, y6, y7, y8, y9, y10, y11, x1, I, rfl⟩
    exact q _
end
end Bh

namespace Bh
open PySem PySem.Spec PyProof.Rows L2 PySem.W
theorem all_mk {l : PySem.W.OpenLaw} {w : World} {K : PySem.W.Frag} {h : Heap} {mg : Str → Option Value} {fa : Addr} (X : K.In h) (G : h.Ns mainGlobals mg) (hfa : mg "law" = some (.ref fa)) (c : SaysH faL fnL tsL xlL 30 w K)
    : ∃ fd : FuncData, (∀ (s : Shared) (v : Value), BindsTo s fd ⟨[v], []⟩ [("_law_script", v)]) ∧ ∀ base : Heap, K.In base → base.Ns mainGlobals mg → FnOk l.prog w K mg base CX0 10 fa fd ["_law_script"] (spLaw K) := by
  have e := hfa.symm.trans (He.glo_ok X G (c.fact 155 (f := .glo "law") rfl))
  cases e
  have Tb : Tx K mg (He.ga K "Board") (He.ga K "Memory") := {
    g_FLASH_END := He.int_ok X G (c.fact 0 (f := .int "FLASH_END" 512) rfl)
    g_RAM_END := He.int_ok X G (c.fact 1 (f := .int "RAM_END" 768) rfl)
    g_PLACES_END := He.int_ok X G (c.fact 2 (f := .int "PLACES_END" 774) rfl)
    g_COUNT := He.int_ok X G (c.fact 3 (f := .int "COUNT" 768) rfl)
    g_TOP := He.int_ok X G (c.fact 4 (f := .int "TOP" 769) rfl)
    g_FLAGS := He.int_ok X G (c.fact 5 (f := .int "FLAGS" 770) rfl)
    g_MASK := He.int_ok X G (c.fact 6 (f := .int "MASK" 771) rfl)
    g_LINE_IN := He.int_ok X G (c.fact 7 (f := .int "LINE_IN" 772) rfl)
    g_LINE_OUT := He.int_ok X G (c.fact 8 (f := .int "LINE_OUT" 773) rfl)
    g_TIMER_FLAG := He.int_ok X G (c.fact 9 (f := .int "TIMER_FLAG" 1) rfl)
    g_LINE_FLAG := He.int_ok X G (c.fact 10 (f := .int "LINE_FLAG" 2) rfl)
    g_WORD_MOST := He.int_ok X G (c.fact 11 (f := .int "WORD_MOST" 65535) rfl)
    g_ERASED := He.int_ok X G (c.fact 12 (f := .int "ERASED" 65535) rfl)
    g_X_SPAN := He.int_ok X G (c.fact 13 (f := .int "X_SPAN" 1024) rfl)
    g_LINE_MOST := He.int_ok X G (c.fact 14 (f := .int "LINE_MOST" 3) rfl)
    g_STACK_TOP := He.int_ok X G (c.fact 15 (f := .int "STACK_TOP" 767) rfl)
    g_INTERRUPT_BEATS := He.int_ok X G (c.fact 16 (f := .int "INTERRUPT_BEATS" 3) rfl)
    g_TIMER_PC := He.int_ok X G (c.fact 17 (f := .int "TIMER_PC" 1) rfl)
    g_LINE_PC := He.int_ok X G (c.fact 18 (f := .int "LINE_PC" 2) rfl)
    g_WORDS := He.int_ok X G (c.fact 19 (f := .int "WORDS" 65536) rfl)
    g_HIGH := He.int_ok X G (c.fact 20 (f := .int "HIGH" 32768) rfl)
    z_len := (He.free_ok X G (c.fact 21 (f := .free "len") rfl))
    z_range := (He.free_ok X G (c.fact 22 (f := .free "range") rfl))
    z_isinstance := (He.free_ok X G (c.fact 23 (f := .free "isinstance") rfl))
    z_all := (He.free_ok X G (c.fact 24 (f := .free "all") rfl))
    z_int := (He.free_ok X G (c.fact 25 (f := .free "int") rfl))
    z_bool := (He.free_ok X G (c.fact 26 (f := .free "bool") rfl))
    z_list := (He.free_ok X G (c.fact 27 (f := .free "list") rfl))
    z_tuple := (He.free_ok X G (c.fact 28 (f := .free "tuple") rfl))
    z_divmod := (He.free_ok X G (c.fact 29 (f := .free "divmod") rfl))
    g_READS_AT_X := ⟨_, (He.glo_ok X G (c.fact 30 (f := .glo "READS_AT_X") rfl)), fun H => He.tupB_ok (vs := [.str "get", .str "add", .str "sub", .str "and", .str "xor"]) (c.x 0 rfl) H⟩
    g_OP_NAMES := ⟨_, (He.glo_ok X G (c.fact 31 (f := .glo "OP_NAMES") rfl)), fun H => He.tupB_ok (vs := [.str "mark", .str "lit", .str "get", .str "put", .str "add", .str "sub", .str "and", .str "xor", .str "getb", .str "putb", .str "tob", .str "swap", .str "go", .str "ifz", .str "ifn", .str "call", .str "ret", .str "push", .str "pop", .str "sleep", .str "let", .str "back", .str "half"]) (c.x 1 rfl) H⟩
    cB := (He.cls_ok (c.fact 32 (f := .cls "Board") rfl))
    cM := (He.cls_ok (c.fact 33 (f := .cls "Memory") rfl))
    n_registers := He.noat_ok (c.fact 34 (f := .noat "Board" "registers") rfl)
    n_zero := He.noat_ok (c.fact 35 (f := .noat "Board" "zero") rfl)
    n_lets := He.noat_ok (c.fact 36 (f := .noat "Board" "lets") rfl)
    n_asleep := He.noat_ok (c.fact 37 (f := .noat "Board" "asleep") rfl)
    n_beat := He.noat_ok (c.fact 38 (f := .noat "Board" "beat") rfl)
    n_stopped := He.noat_ok (c.fact 39 (f := .noat "Board" "stopped") rfl)
    n_sent := He.noat_ok (c.fact 40 (f := .noat "Board" "sent") rfl)
    n_memory := He.noat_ok (c.fact 41 (f := .noat "Board" "memory") rfl)
    n_line := He.noat_ok (c.fact 42 (f := .noat "Board" "line") rfl)
    n_line_at := He.noat_ok (c.fact 43 (f := .noat "Board" "line_at") rfl)
    n_touched := He.noat_ok (c.fact 44 (f := .noat "Board" "touched") rfl)
    n_did := He.noat_ok (c.fact 45 (f := .noat "Board" "did") rfl)
    n_bend := He.noat_ok (c.fact 46 (f := .noat "Board" "bend") rfl)
    n_words := He.noat_ok (c.fact 47 (f := .noat "Memory" "words") rfl)
    n_swapped := He.noat_ok (c.fact 48 (f := .noat "Memory" "swapped") rfl) }
  have T : Ty K mg (He.ga K "Board") (He.ga K "Memory") (He.ga K "Probe") (He.ga K "Marks") (He.ga K "Watches") (He.ga K "Frames") (He.ga K "History") (He.ga K "Counts") (He.ga K "Mishaps") (He.ga K "Stands") := {
    toTx := Tb
    g_WATCHES := He.int_ok X G (c.fact 49 (f := .int "WATCHES" 2) rfl)
    g_PAGES := He.int_ok X G (c.fact 50 (f := .int "PAGES" 16) rfl)
    cP := (He.cls_ok (c.fact 51 (f := .cls "Probe") rfl))
    nP_board := He.noat_ok (c.fact 52 (f := .noat "Probe" "board") rfl)
    nP_standing := He.noat_ok (c.fact 53 (f := .noat "Probe" "standing") rfl)
    nP_watching := He.noat_ok (c.fact 54 (f := .noat "Probe" "watching") rfl)
    nP_frames := He.noat_ok (c.fact 55 (f := .noat "Probe" "frames") rfl)
    nP_history := He.noat_ok (c.fact 56 (f := .noat "Probe" "history") rfl)
    nP_counts := He.noat_ok (c.fact 57 (f := .noat "Probe" "counts") rfl)
    nP_mishaps := He.noat_ok (c.fact 58 (f := .noat "Probe" "mishaps") rfl)
    nP_stands := He.noat_ok (c.fact 59 (f := .noat "Probe" "stands") rfl)
    nP_turns_gone := He.noat_ok (c.fact 60 (f := .noat "Probe" "turns_gone") rfl)
    nP_course := He.noat_ok (c.fact 61 (f := .noat "Probe" "course") rfl)
    cK := (He.cls_ok (c.fact 62 (f := .cls "Marks") rfl))
    nK_memory := He.noat_ok (c.fact 63 (f := .noat "Marks" "memory") rfl)
    nK_hard := He.noat_ok (c.fact 64 (f := .noat "Marks" "hard") rfl)
    nK_erased := He.noat_ok (c.fact 65 (f := .noat "Marks" "erased") rfl)
    cW := (He.cls_ok (c.fact 66 (f := .cls "Watches") rfl))
    nW_rows := He.noat_ok (c.fact 67 (f := .noat "Watches" "rows") rfl)
    cF := (He.cls_ok (c.fact 68 (f := .cls "Frames") rfl))
    nF_rows := He.noat_ok (c.fact 69 (f := .noat "Frames" "rows") rfl)
    nF_strays := He.noat_ok (c.fact 70 (f := .noat "Frames" "strays") rfl)
    cH := (He.cls_ok (c.fact 71 (f := .cls "History") rfl))
    nH_rows := He.noat_ok (c.fact 72 (f := .noat "History" "rows") rfl)
    nH_faded := He.noat_ok (c.fact 73 (f := .noat "History" "faded") rfl)
    cC := (He.cls_ok (c.fact 74 (f := .cls "Counts") rfl))
    nC_deeds := He.noat_ok (c.fact 75 (f := .noat "Counts" "deeds") rfl)
    nC_frames := He.noat_ok (c.fact 76 (f := .noat "Counts" "frames") rfl)
    nC_idle := He.noat_ok (c.fact 77 (f := .noat "Counts" "idle") rfl)
    nC_peeked := He.noat_ok (c.fact 78 (f := .noat "Counts" "peeked") rfl)
    cI := (He.cls_ok (c.fact 79 (f := .cls "Mishaps") rfl))
    nI_rows := He.noat_ok (c.fact 80 (f := .noat "Mishaps" "rows") rfl)
    nI_met_rows := He.noat_ok (c.fact 81 (f := .noat "Mishaps" "met_rows") rfl)
    cS := (He.cls_ok (c.fact 82 (f := .cls "Stands") rfl))
    nS_rows := He.noat_ok (c.fact 83 (f := .noat "Stands" "rows") rfl) }
  have TE : Te K mg (He.ga K "NoWord") (He.ga K "NoMark") := {
    gN := (He.glo_ok X G (c.fact 84 (f := .glo "NoWord") rfl))
    kN := He.keep_ok (c.fact 85 (f := .keep "NoWord") rfl)
    xN := (He.exc_ok (c.fact 86 (f := .exc "NoWord") rfl)).1
    bN := of_decide_eq_true (c.x 2 rfl)
    tN := of_decide_eq_true (c.x 3 rfl)
    gL := (He.glo_ok X G (c.fact 87 (f := .glo "NoMark") rfl))
    kL := He.keep_ok (c.fact 88 (f := .keep "NoMark") rfl)
    xL := (He.exc_ok (c.fact 89 (f := .exc "NoMark") rfl)).1
    bL := of_decide_eq_true (c.x 4 rfl)
    tL := of_decide_eq_true (c.x 5 rfl)
    g_KINDS := ⟨_, (He.glo_ok X G (c.fact 90 (f := .glo "KINDS") rfl)), fun H => He.tupB_ok (vs := [.str "r", .str "w", .str "rw"]) (c.x 6 rfl) H⟩
    g_REGISTERS := ⟨_, (He.glo_ok X G (c.fact 91 (f := .glo "REGISTERS") rfl)), fun H => He.tupB_ok (vs := [.str "a", .str "b", .str "pc", .str "sp"]) (c.x 7 rfl) H⟩ }
  have TG : Tg K mg (He.ga K "NoWord") (He.ga K "NoMark") (He.ga K "Taken") (He.ga K "TooMany") (He.ga K "Barred") (He.ga K "BoardError") := {
    gT := (He.glo_ok X G (c.fact 92 (f := .glo "Taken") rfl))
    gO := (He.glo_ok X G (c.fact 93 (f := .glo "TooMany") rfl))
    gR := (He.glo_ok X G (c.fact 94 (f := .glo "Barred") rfl))
    gE := (He.glo_ok X G (c.fact 95 (f := .glo "BoardError") rfl))
    exN := ⟨(He.eqO_ok (c.x 8 rfl)), (He.eqO_ok (c.x 9 rfl)), (of_decide_eq_true (c.x 2 rfl)), (c.x 10 rfl), (He.eqO_ok (c.x 11 rfl)), (He.eqO_ok (c.x 12 rfl)), (of_decide_eq_true (c.x 13 rfl)), (of_decide_eq_true (c.x 14 rfl))⟩
    exL := ⟨(He.eqO_ok (c.x 15 rfl)), (He.eqO_ok (c.x 16 rfl)), (of_decide_eq_true (c.x 4 rfl)), (c.x 17 rfl), (He.eqO_ok (c.x 18 rfl)), (He.eqO_ok (c.x 12 rfl)), (of_decide_eq_true (c.x 13 rfl)), (of_decide_eq_true (c.x 19 rfl))⟩
    kNN := of_decide_eq_true (c.x 20 rfl)
    kNT := of_decide_eq_true (c.x 21 rfl)
    kNO := of_decide_eq_true (c.x 22 rfl)
    kNL := of_decide_eq_true (c.x 23 rfl)
    kNR := of_decide_eq_true (c.x 24 rfl)
    kLN := of_decide_eq_true (c.x 25 rfl)
    kLT := of_decide_eq_true (c.x 26 rfl)
    kLO := of_decide_eq_true (c.x 27 rfl)
    kLL := of_decide_eq_true (c.x 28 rfl)
    kLR := of_decide_eq_true (c.x 29 rfl)
    eN := He.exm_ok (c.fact 96 (f := .exm "NoWord" "BoardError" true) rfl)
    eL := He.exm_ok (c.fact 97 (f := .exm "NoMark" "BoardError" true) rfl) }
  obtain ⟨fd_Memoryinit, D_Memoryinit⟩ := c.def_ 0 (d := d_Memoryinit) rfl
  have F_Memoryinit : Fun K "__init__" "Memory.__init__" sCmem _ fd_Memoryinit := He5.fun_of D_Memoryinit
  have b_Memoryinit := F_Memoryinit.binds (ps := ["self", "image"]) fun _ _ _ _ _ _ us hl => match us, hl with | [_, _], _ => rfl
  obtain ⟨fd_firstregisters, D_firstregisters⟩ := c.def_ 1 (d := d_firstregisters) rfl
  have F_firstregisters : Fun K "first_registers" "first_registers" sFfirst _ fd_firstregisters := He5.fun_of D_firstregisters
  have b_firstregisters := F_firstregisters.binds (ps := []) fun _ _ _ _ _ _ us hl => match us, hl with | [], _ => rfl
  obtain ⟨fd_iswhole, D_iswhole⟩ := c.def_ 2 (d := d_iswhole) rfl
  have F_iswhole : Fun K "is_whole" "is_whole" sFwhole _ fd_iswhole := He5.fun_of D_iswhole
  have b_iswhole := F_iswhole.binds (ps := ["thing"]) fun _ _ _ _ _ _ us hl => match us, hl with | [_], _ => rfl
  obtain ⟨fd_isbetween, D_isbetween⟩ := c.def_ 3 (d := d_isbetween) rfl
  have F_isbetween : Fun K "is_between" "is_between" sFbetw _ fd_isbetween := He5.fun_of D_isbetween
  have b_isbetween := F_isbetween.binds (ps := ["thing", "least", "greatest"]) fun _ _ _ _ _ _ us hl => match us, hl with | [_, _, _], _ => rfl
  obtain ⟨fd_isword, D_isword⟩ := c.def_ 4 (d := d_isword) rfl
  have F_isword : Fun K "is_word" "is_word" sFword _ fd_isword := He5.fun_of D_isword
  have b_isword := F_isword.binds (ps := ["thing"]) fun _ _ _ _ _ _ us hl => match us, hl with | [_], _ => rfl
  obtain ⟨fd_isimage, D_isimage⟩ := c.def_ 5 (d := d_isimage) rfl
  have F_isimage : Fun K "is_image" "is_image" sFimage _ fd_isimage := He5.fun_of D_isimage
  have b_isimage := F_isimage.binds (ps := ["thing"]) fun _ _ _ _ _ _ us hl => match us, hl with | [_], _ => rfl
  obtain ⟨fd_islinerow, D_islinerow⟩ := c.def_ 6 (d := d_islinerow) rfl
  have F_islinerow : Fun K "is_line_row" "is_line_row" sFlrow _ fd_islinerow := He5.fun_of D_islinerow
  have b_islinerow := F_islinerow.binds (ps := ["row", "last"]) fun _ _ _ _ _ _ us hl => match us, hl with | [_, _], _ => rfl
  obtain ⟨fd_isline, D_isline⟩ := c.def_ 7 (d := d_isline) rfl
  have F_isline : Fun K "is_line" "is_line" sFline _ fd_isline := He5.fun_of D_isline
  have b_isline := F_isline.binds (ps := ["thing"]) fun _ _ _ _ _ _ us hl => match us, hl with | [_], _ => rfl
  obtain ⟨fd_Boardinit, D_Boardinit⟩ := c.def_ 8 (d := d_Boardinit) rfl
  have F_Boardinit : Fun K "__init__" "Board.__init__" sCboard _ fd_Boardinit := He5.fun_of D_Boardinit
  have b_Boardinit := F_Boardinit.binds (ps := ["self", "image", "line"]) fun _ _ _ _ _ _ us hl => match us, hl with | [_, _, _], _ => rfl
  obtain ⟨fd_Countsinit, D_Countsinit⟩ := c.def_ 9 (d := d_Countsinit) rfl
  have F_Countsinit : Fun K "__init__" "Counts.__init__" sCcou _ fd_Countsinit := He5.fun_of D_Countsinit
  have b_Countsinit := F_Countsinit.binds (ps := ["self"]) fun _ _ _ _ _ _ us hl => match us, hl with | [_], _ => rfl
  obtain ⟨fd_Framesinit, D_Framesinit⟩ := c.def_ 10 (d := d_Framesinit) rfl
  have F_Framesinit : Fun K "__init__" "Frames.__init__" sCfra _ fd_Framesinit := He5.fun_of D_Framesinit
  have b_Framesinit := F_Framesinit.binds (ps := ["self"]) fun _ _ _ _ _ _ us hl => match us, hl with | [_], _ => rfl
  obtain ⟨fd_Historyinit, D_Historyinit⟩ := c.def_ 11 (d := d_Historyinit) rfl
  have F_Historyinit : Fun K "__init__" "History.__init__" sChis _ fd_Historyinit := He5.fun_of D_Historyinit
  have b_Historyinit := F_Historyinit.binds (ps := ["self"]) fun _ _ _ _ _ _ us hl => match us, hl with | [_], _ => rfl
  obtain ⟨fd_Marksinit, D_Marksinit⟩ := c.def_ 12 (d := d_Marksinit) rfl
  have F_Marksinit : Fun K "__init__" "Marks.__init__" sCmar _ fd_Marksinit := He5.fun_of D_Marksinit
  have b_Marksinit := F_Marksinit.binds (ps := ["self", "memory"]) fun _ _ _ _ _ _ us hl => match us, hl with | [_, _], _ => rfl
  obtain ⟨fd_Mishapsinit, D_Mishapsinit⟩ := c.def_ 13 (d := d_Mishapsinit) rfl
  have F_Mishapsinit : Fun K "__init__" "Mishaps.__init__" sCmis _ fd_Mishapsinit := He5.fun_of D_Mishapsinit
  have b_Mishapsinit := F_Mishapsinit.binds (ps := ["self"]) fun _ _ _ _ _ _ us hl => match us, hl with | [_], _ => rfl
  obtain ⟨fd_Standsinit, D_Standsinit⟩ := c.def_ 14 (d := d_Standsinit) rfl
  have F_Standsinit : Fun K "__init__" "Stands.__init__" sCsta _ fd_Standsinit := He5.fun_of D_Standsinit
  have b_Standsinit := F_Standsinit.binds (ps := ["self"]) fun _ _ _ _ _ _ us hl => match us, hl with | [_], _ => rfl
  obtain ⟨fd_Watchesinit, D_Watchesinit⟩ := c.def_ 15 (d := d_Watchesinit) rfl
  have F_Watchesinit : Fun K "__init__" "Watches.__init__" sCwat _ fd_Watchesinit := He5.fun_of D_Watchesinit
  have b_Watchesinit := F_Watchesinit.binds (ps := ["self"]) fun _ _ _ _ _ _ us hl => match us, hl with | [_], _ => rfl
  obtain ⟨fd_Probeinit, D_Probeinit⟩ := c.def_ 16 (d := d_Probeinit) rfl
  have F_Probeinit : Fun K "__init__" "Probe.__init__" sCprb _ fd_Probeinit := He5.fun_of D_Probeinit
  have b_Probeinit := F_Probeinit.binds (ps := ["self", "image", "line"]) fun _ _ _ _ _ _ us hl => match us, hl with | [_, _, _], _ => rfl
  obtain ⟨fd_lawcellat, D_lawcellat⟩ := c.def_ 17 (d := d_lawcellat) rfl
  have F_lawcellat : Fun K "_law_cell_at" "_law_cell_at" sLcell _ fd_lawcellat := He5.fun_of D_lawcellat
  have b_lawcellat := F_lawcellat.binds (ps := ["_law_script", "_law_k"]) fun _ _ _ _ _ _ us hl => match us, hl with | [_, _], _ => rfl
  obtain ⟨fd_lawdraw, D_lawdraw⟩ := c.def_ 18 (d := d_lawdraw) rfl
  have F_lawdraw : Fun K "_law_draw" "_law_draw" sLdraw _ fd_lawdraw := He5.fun_of D_lawdraw
  have b_lawdraw := F_lawdraw.binds (ps := ["_law_well_here", "_law_wide"]) fun _ _ _ _ _ _ us hl => match us, hl with | [_, _], _ => rfl
  obtain ⟨fd_lawone, D_lawone⟩ := c.def_ 19 (d := d_lawone) rfl
  have F_lawone : Fun K "_law_one" "_law_one" sLone _ fd_lawone := He5.fun_of D_lawone
  have b_lawone := F_lawone.binds (ps := ["_law_well_here", "_law_some"]) fun _ _ _ _ _ _ us hl => match us, hl with | [_, _], _ => rfl
  obtain ⟨fd_lawownwatch, D_lawownwatch⟩ := c.def_ 20 (d := d_lawownwatch) rfl
  have F_lawownwatch : Fun K "_law_own_watch" "_law_own_watch" sLown _ fd_lawownwatch := He5.fun_of D_lawownwatch
  have b_lawownwatch := F_lawownwatch.binds (ps := ["_law_p", "_law_act"]) fun _ _ _ _ _ _ us hl => match us, hl with | [_, _], _ => rfl
  obtain ⟨fd_lawboard, D_lawboard⟩ := c.def_ 21 (d := d_lawboard) rfl
  have F_lawboard : Fun K "_law_board" "_law_board" sLbrd _ fd_lawboard := He5.fun_of D_lawboard
  have b_lawboard := F_lawboard.binds (ps := ["_law_image", "_law_line"]) fun _ _ _ _ _ _ us hl => match us, hl with | [_, _], _ => rfl
  obtain ⟨fd_lawprobe, D_lawprobe⟩ := c.def_ 22 (d := d_lawprobe) rfl
  have F_lawprobe : Fun K "_law_probe" "_law_probe" sLprb _ fd_lawprobe := He5.fun_of D_lawprobe
  have b_lawprobe := F_lawprobe.binds (ps := ["_law_image", "_law_line"]) fun _ _ _ _ _ _ us hl => match us, hl with | [_, _], _ => rfl
  obtain ⟨fd_lawprogram, D_lawprogram⟩ := c.def_ 23 (d := d_lawprogram) rfl
  have F_lawprogram : Fun K "_law_program" "_law_program" sLprog _ fd_lawprogram := He5.fun_of D_lawprogram
  have b_lawprogram := F_lawprogram.binds (ps := ["_law_well_here", "_law_many"]) fun _ _ _ _ _ _ us hl => match us, hl with | [_, _], _ => rfl
  obtain ⟨fd_Watcheschecknumber, D_Watcheschecknumber⟩ := c.def_ 24 (d := d_Watcheschecknumber) rfl
  have F_Watcheschecknumber : Fun K "check_number" "Watches.check_number" sMchk _ fd_Watcheschecknumber := He5.fun_of D_Watcheschecknumber
  have b_Watcheschecknumber := F_Watcheschecknumber.binds (ps := ["self", "number"]) fun _ _ _ _ _ _ us hl => match us, hl with | [_, _], _ => rfl
  obtain ⟨fd_Watcheslift, D_Watcheslift⟩ := c.def_ 25 (d := d_Watcheslift) rfl
  have F_Watcheslift : Fun K "lift" "Watches.lift" sMlift _ fd_Watcheslift := He5.fun_of D_Watcheslift
  have b_Watcheslift := F_Watcheslift.binds (ps := ["self", "number"]) fun _ _ _ _ _ _ us hl => match us, hl with | [_, _], _ => rfl
  obtain ⟨fd_Probeunwatch, D_Probeunwatch⟩ := c.def_ 26 (d := d_Probeunwatch) rfl
  have F_Probeunwatch : Fun K "unwatch" "Probe.unwatch" sMunw _ fd_Probeunwatch := He5.fun_of D_Probeunwatch
  have b_Probeunwatch := F_Probeunwatch.binds (ps := ["self", "number"]) fun _ _ _ _ _ _ us hl => match us, hl with | [_, _], _ => rfl
  obtain ⟨fd_Watcheslay, D_Watcheslay⟩ := c.def_ 27 (d := d_Watcheslay) rfl
  have F_Watcheslay : Fun K "lay" "Watches.lay" sMlay _ fd_Watcheslay := He5.fun_of D_Watcheslay
  have b_Watcheslay := F_Watcheslay.binds (ps := ["self", "number", "low", "high", "kind"]) fun _ _ _ _ _ _ us hl => match us, hl with | [_, _, _, _, _], _ => rfl
  obtain ⟨fd_Probewatch, D_Probewatch⟩ := c.def_ 28 (d := d_Probewatch) rfl
  have F_Probewatch : Fun K "watch" "Probe.watch" sMwatch _ fd_Probewatch := He5.fun_of D_Probewatch
  have b_Probewatch := F_Probewatch.binds (ps := ["self", "number", "low", "high", "kind"]) fun _ _ _ _ _ _ us hl => match us, hl with | [_, _, _, _, _], _ => rfl
  obtain ⟨fd_lawasked, D_lawasked⟩ := c.def_ 29 (d := d_lawasked) rfl
  have F_lawasked : Fun K "_law_asked" "_law_asked" sLask _ fd_lawasked := He5.fun_of D_lawasked
  have b_lawasked := F_lawasked.binds (ps := ["_law_probe_here", "_law_act"]) fun _ _ _ _ _ _ us hl => match us, hl with | [_, _], _ => rfl
  obtain ⟨fd_lawsaid, D_lawsaid⟩ := c.def_ 30 (d := d_lawsaid) rfl
  have F_lawsaid : Fun K "_law_said" "_law_said" sLsaid _ fd_lawsaid := He5.fun_of D_lawsaid
  have b_lawsaid := F_lawsaid.binds (ps := ["_law_probe_here", "_law_act"]) fun _ _ _ _ _ _ us hl => match us, hl with | [_, _], _ => rfl
  obtain ⟨fd_lawshown, D_lawshown⟩ := c.def_ 31 (d := d_lawshown) rfl
  have F_lawshown : Fun K "_law_shown" "_law_shown" sLshown _ fd_lawshown := He5.fun_of D_lawshown
  have b_lawshown := F_lawshown.binds (ps := ["_law_p"]) fun _ _ _ _ _ _ us hl => match us, hl with | [_], _ => rfl
  obtain ⟨fd_Memorywordat, D_Memorywordat⟩ := c.def_ 32 (d := d_Memorywordat) rfl
  have F_Memorywordat : Fun K "word_at" "Memory.word_at" sMat _ fd_Memorywordat := He5.fun_of D_Memorywordat
  have b_Memorywordat := F_Memorywordat.binds (ps := ["self", "address"]) fun _ _ _ _ _ _ us hl => match us, hl with | [_, _], _ => rfl
  obtain ⟨fd_Probelook, D_Probelook⟩ := c.def_ 33 (d := d_Probelook) rfl
  have F_Probelook : Fun K "look" "Probe.look" sMlook _ fd_Probelook := He5.fun_of D_Probelook
  have b_Probelook := F_Probelook.binds (ps := ["self", "address", "many"]) fun _ _ _ _ _ _ us hl => match us, hl with | [_, _, _], _ => rfl
  obtain ⟨fd_Markstold, D_Markstold⟩ := c.def_ 34 (d := d_Markstold) rfl
  have F_Markstold : Fun K "told" "Marks.told" sMtold _ fd_Markstold := He5.fun_of D_Markstold
  have b_Markstold := F_Markstold.binds (ps := ["self"]) fun _ _ _ _ _ _ us hl => match us, hl with | [_], _ => rfl
  obtain ⟨fd_Probemarks, D_Probemarks⟩ := c.def_ 35 (d := d_Probemarks) rfl
  have F_Probemarks : Fun K "marks" "Probe.marks" sMmks _ fd_Probemarks := He5.fun_of D_Probemarks
  have b_Probemarks := F_Probemarks.binds (ps := ["self"]) fun _ _ _ _ _ _ us hl => match us, hl with | [_], _ => rfl
  obtain ⟨fd_Probeout, D_Probeout⟩ := c.def_ 36 (d := d_Probeout) rfl
  have F_Probeout : Fun K "out" "Probe.out" sMout _ fd_Probeout := He5.fun_of D_Probeout
  have b_Probeout := F_Probeout.binds (ps := ["self"]) fun _ _ _ _ _ _ us hl => match us, hl with | [_], _ => rfl
  obtain ⟨fd_Proberegisterof, D_Proberegisterof⟩ := c.def_ 37 (d := d_Proberegisterof) rfl
  have F_Proberegisterof : Fun K "register_of" "Probe.register_of" sMreg _ fd_Proberegisterof := He5.fun_of D_Proberegisterof
  have b_Proberegisterof := F_Proberegisterof.binds (ps := ["self", "name"]) fun _ _ _ _ _ _ us hl => match us, hl with | [_, _], _ => rfl
  obtain ⟨fd_Probestoptold, D_Probestoptold⟩ := c.def_ 38 (d := d_Probestoptold) rfl
  have F_Probestoptold : Fun K "stop_told" "Probe.stop_told" sMstp _ fd_Probestoptold := He5.fun_of D_Probestoptold
  have b_Probestoptold := F_Probestoptold.binds (ps := ["self"]) fun _ _ _ _ _ _ us hl => match us, hl with | [_], _ => rfl
  obtain ⟨fd_Probeturns, D_Probeturns⟩ := c.def_ 39 (d := d_Probeturns) rfl
  have F_Probeturns : Fun K "turns" "Probe.turns" sMtns _ fd_Probeturns := He5.fun_of D_Probeturns
  have b_Probeturns := F_Probeturns.binds (ps := ["self"]) fun _ _ _ _ _ _ us hl => match us, hl with | [_], _ => rfl
  obtain ⟨fd_Probewear, D_Probewear⟩ := c.def_ 40 (d := d_Probewear) rfl
  have F_Probewear : Fun K "wear" "Probe.wear" sMwer _ fd_Probewear := He5.fun_of D_Probewear
  have b_Probewear := F_Probewear.binds (ps := ["self"]) fun _ _ _ _ _ _ us hl => match us, hl with | [_], _ => rfl
  obtain ⟨fd_Probewatches, D_Probewatches⟩ := c.def_ 41 (d := d_Probewatches) rfl
  have F_Probewatches : Fun K "watches" "Probe.watches" sMwts _ fd_Probewatches := He5.fun_of D_Probewatches
  have b_Probewatches := F_Probewatches.binds (ps := ["self"]) fun _ _ _ _ _ _ us hl => match us, hl with | [_], _ => rfl
  obtain ⟨fd_lawtold, D_lawtold⟩ := c.def_ 42 (d := d_lawtold) rfl
  have F_lawtold : Fun K "_law_told" "_law_told" sLtold _ fd_lawtold := He5.fun_of D_lawtold
  have b_lawtold := F_lawtold.binds (ps := ["_law_probe_here"]) fun _ _ _ _ _ _ us hl => match us, hl with | [_], _ => rfl
  obtain ⟨fd_lawwell, D_lawwell⟩ := c.def_ 43 (d := d_lawwell) rfl
  have F_lawwell : Fun K "_law_well" "_law_well" sLwell _ fd_lawwell := He5.fun_of D_lawwell
  have b_lawwell := F_lawwell.binds (ps := ["_law_cell"]) fun _ _ _ _ _ _ us hl => match us, hl with | [_], _ => rfl
  obtain ⟨fd_law, D_law⟩ := c.def_ 44 (d := d_law) rfl
  have F_law : Fun K "law" "law" sLaw _ fd_law := He5.fun_of D_law
  refine ⟨fd_law, fun s v => (FunD.bindsA (ps := ["_law_script"]) D_law fun _ _ _ _ _ _ us hl => match us, hl with | [_], _ => rfl) s [v] rfl, fun base _ _ => ?_⟩
  have X_C_mem : CalC l.prog w K mg base (He.ga K "Memory") 1 "Memory" ["self", "image"] (spMI (He.ga K "Memory")) _ _ := ⟨He.mkr_ok (c.fact 98 (f := .mkr "Memory") rfl), (He.glo_ok X G (c.fact 99 (f := .glo "Memory") rfl)), b_Memoryinit, ok_Cmem F_Memoryinit Tb⟩
  have X_F_first : CalF l.prog w K mg base 1 "first_registers" [] (spFirst) _ _ := ⟨(He.glo_ok X G (c.fact 100 (f := .glo "first_registers") rfl)), F_firstregisters.kp, b_firstregisters, ok_Ffirst F_firstregisters Tb⟩
  have X_F_whole : CalF l.prog w K mg base 1 "is_whole" ["thing"] (spWhole) _ _ := ⟨(He.glo_ok X G (c.fact 101 (f := .glo "is_whole") rfl)), F_iswhole.kp, b_iswhole, ok_Fwhole F_iswhole Tb⟩
  have X_F_betw : CalF l.prog w K mg base 2 "is_between" ["thing", "least", "greatest"] (spBetw) _ _ := ⟨(He.glo_ok X G (c.fact 102 (f := .glo "is_between") rfl)), F_isbetween.kp, b_isbetween, ok_Fbetw F_isbetween Tb X_F_whole⟩
  have X_F_word : CalF l.prog w K mg base 3 "is_word" ["thing"] (spWord) _ _ := ⟨(He.glo_ok X G (c.fact 103 (f := .glo "is_word") rfl)), F_isword.kp, b_isword, ok_Fword F_isword Tb X_F_betw⟩
  have X_F_image : CalF l.prog w K mg base 4 "is_image" ["thing"] (spImg) _ _ := ⟨(He.glo_ok X G (c.fact 104 (f := .glo "is_image") rfl)), F_isimage.kp, b_isimage, ok_Fimage F_isimage Tb X_F_word⟩
  have X_F_lrow : CalF l.prog w K mg base 3 "is_line_row" ["row", "last"] (spLRow) _ _ := ⟨(He.glo_ok X G (c.fact 105 (f := .glo "is_line_row") rfl)), F_islinerow.kp, b_islinerow, ok_Flrow F_islinerow Tb X_F_betw X_F_whole⟩
  have X_F_line : CalF l.prog w K mg base 4 "is_line" ["thing"] (spLine) _ _ := ⟨(He.glo_ok X G (c.fact 106 (f := .glo "is_line") rfl)), F_isline.kp, b_isline, ok_Fline F_isline Tb X_F_lrow⟩
  have X_C_board : CalC l.prog w K mg base (He.ga K "Board") 6 "Board" ["self", "image", "line"] (spBI (He.ga K "Board") (He.ga K "Memory")) _ _ := ⟨He.mkr_ok (c.fact 107 (f := .mkr "Board") rfl), (He.glo_ok X G (c.fact 108 (f := .glo "Board") rfl)), b_Boardinit, ok_Cboard F_Boardinit Tb X_C_mem X_F_first X_F_image X_F_line⟩
  have X_C_cou : CalC l.prog w K mg base (He.ga K "Counts") 1 "Counts" ["self"] (spMade (He.ga K "Counts")) _ _ := ⟨He.mkr_ok (c.fact 109 (f := .mkr "Counts") rfl), (He.glo_ok X G (c.fact 110 (f := .glo "Counts") rfl)), b_Countsinit, ok_Ccou F_Countsinit T⟩
  have X_C_fra : CalC l.prog w K mg base (He.ga K "Frames") 1 "Frames" ["self"] (spMade (He.ga K "Frames")) _ _ := ⟨He.mkr_ok (c.fact 111 (f := .mkr "Frames") rfl), (He.glo_ok X G (c.fact 112 (f := .glo "Frames") rfl)), b_Framesinit, ok_Cfra F_Framesinit T⟩
  have X_C_his : CalC l.prog w K mg base (He.ga K "History") 1 "History" ["self"] (spMade (He.ga K "History")) _ _ := ⟨He.mkr_ok (c.fact 113 (f := .mkr "History") rfl), (He.glo_ok X G (c.fact 114 (f := .glo "History") rfl)), b_Historyinit, ok_Chis F_Historyinit T⟩
  have X_C_mar : CalC l.prog w K mg base (He.ga K "Marks") 1 "Marks" ["self", "memory"] (spMkK (He.ga K "Marks")) _ _ := ⟨He.mkr_ok (c.fact 115 (f := .mkr "Marks") rfl), (He.glo_ok X G (c.fact 116 (f := .glo "Marks") rfl)), b_Marksinit, ok_Cmar F_Marksinit T⟩
  have X_C_mis : CalC l.prog w K mg base (He.ga K "Mishaps") 1 "Mishaps" ["self"] (spMade (He.ga K "Mishaps")) _ _ := ⟨He.mkr_ok (c.fact 117 (f := .mkr "Mishaps") rfl), (He.glo_ok X G (c.fact 118 (f := .glo "Mishaps") rfl)), b_Mishapsinit, ok_Cmis F_Mishapsinit T⟩
  have X_C_sta : CalC l.prog w K mg base (He.ga K "Stands") 1 "Stands" ["self"] (spMade (He.ga K "Stands")) _ _ := ⟨He.mkr_ok (c.fact 119 (f := .mkr "Stands") rfl), (He.glo_ok X G (c.fact 120 (f := .glo "Stands") rfl)), b_Standsinit, ok_Csta F_Standsinit T⟩
  have X_C_wat : CalC l.prog w K mg base (He.ga K "Watches") 1 "Watches" ["self"] (spMkW (He.ga K "Watches")) _ _ := ⟨He.mkr_ok (c.fact 121 (f := .mkr "Watches") rfl), (He.glo_ok X G (c.fact 122 (f := .glo "Watches") rfl)), b_Watchesinit, ok_Cwat F_Watchesinit T⟩
  have X_C_prb : CalC l.prog w K mg base (He.ga K "Probe") 8 "Probe" ["self", "image", "line"] (spPrI (He.ga K "Board") (He.ga K "Memory") (He.ga K "Probe") (He.ga K "Marks") (He.ga K "Watches")) _ _ := ⟨He.mkr_ok (c.fact 123 (f := .mkr "Probe") rfl), (He.glo_ok X G (c.fact 124 (f := .glo "Probe") rfl)), b_Probeinit, ok_Cprb F_Probeinit T X_C_board X_C_cou X_C_fra X_C_his X_C_mar X_C_mis X_C_sta X_C_wat⟩
  have X_L_cell : CalF l.prog w K mg base 1 "_law_cell_at" ["_law_script", "_law_k"] (spCellAt K) _ _ := ⟨(He.glo_ok X G (c.fact 125 (f := .glo "_law_cell_at") rfl)), F_lawcellat.kp, b_lawcellat, ok_Lcell F_lawcellat T⟩
  have X_L_draw : CalF l.prog w K mg base 1 "_law_draw" ["_law_well_here", "_law_wide"] (spDraw) _ _ := ⟨(He.glo_ok X G (c.fact 126 (f := .glo "_law_draw") rfl)), F_lawdraw.kp, b_lawdraw, ok_Ldraw F_lawdraw T⟩
  have X_L_one : CalF l.prog w K mg base 2 "_law_one" ["_law_well_here", "_law_some"] (spOne) _ _ := ⟨(He.glo_ok X G (c.fact 127 (f := .glo "_law_one") rfl)), F_lawone.kp, b_lawone, ok_Lone F_lawone T X_L_draw⟩
  have X_L_own : CalF l.prog w K mg base 1 "_law_own_watch" ["_law_p", "_law_act"] (spLOwn) _ _ := ⟨(He.glo_ok X G (c.fact 128 (f := .glo "_law_own_watch") rfl)), F_lawownwatch.kp, b_lawownwatch, ok_Lown F_lawownwatch T⟩
  have X_L_brd : CalF l.prog w K mg base 1 "_law_board" ["_law_image", "_law_line"] (spLBrd) _ _ := ⟨(He.glo_ok X G (c.fact 130 (f := .glo "_law_board") rfl)), F_lawboard.kp, b_lawboard, ok_Lbrd F_lawboard T (He.free_ok X G (c.fact 129 (f := .free "dict") rfl))⟩
  have X_L_prb : CalF l.prog w K mg base 2 "_law_probe" ["_law_image", "_law_line"] (spLPrb) _ _ := ⟨(He.glo_ok X G (c.fact 131 (f := .glo "_law_probe") rfl)), F_lawprobe.kp, b_lawprobe, ok_Lprb F_lawprobe T X_L_brd⟩
  have X_L_prog : CalF l.prog w K mg base 3 "_law_program" ["_law_well_here", "_law_many"] (spProg) _ _ := ⟨(He.glo_ok X G (c.fact 132 (f := .glo "_law_program") rfl)), F_lawprogram.kp, b_lawprogram, ok_Lprog F_lawprogram T X_L_draw X_L_one⟩
  have X_M_chk : CalX l.prog w K mg base (He.ga K "Watches") 3 "check_number" ["self", "number"] (spChk (He.ga K "Watches") (He.ga K "NoWord")) _ _ := ⟨(He.cls_ok (c.fact 66 (f := .cls "Watches") rfl)), He.meth_ok (c.fact 133 (f := .meth "Watches" "check_number") rfl), b_Watcheschecknumber, ok_Mchk F_Watcheschecknumber T X_F_betw TE⟩
  have X_M_lift : CalX l.prog w K mg base (He.ga K "Watches") 4 "lift" ["self", "number"] (spLiftW (He.ga K "Watches") (He.ga K "NoWord") (He.ga K "NoMark")) _ _ := ⟨(He.cls_ok (c.fact 66 (f := .cls "Watches") rfl)), He.meth_ok (c.fact 134 (f := .meth "Watches" "lift") rfl), b_Watcheslift, ok_Mlift F_Watcheslift T X_M_chk TE⟩
  have X_M_unw : CalX l.prog w K mg base (He.ga K "Probe") 5 "unwatch" ["self", "number"] (spUnw (He.ga K "Board") (He.ga K "Memory") (He.ga K "Probe") (He.ga K "Marks") (He.ga K "Watches") (He.ga K "NoWord") (He.ga K "NoMark")) _ _ := ⟨(He.cls_ok (c.fact 51 (f := .cls "Probe") rfl)), He.meth_ok (c.fact 135 (f := .meth "Probe" "unwatch") rfl), b_Probeunwatch, ok_Munw F_Probeunwatch T X_M_lift TE⟩
  have X_M_lay : CalX l.prog w K mg base (He.ga K "Watches") 4 "lay" ["self", "number", "low", "high", "kind"] (spLayW (He.ga K "Watches") (He.ga K "NoWord")) _ _ := ⟨(He.cls_ok (c.fact 66 (f := .cls "Watches") rfl)), He.meth_ok (c.fact 137 (f := .meth "Watches" "lay") rfl), b_Watcheslay, ok_Mlay F_Watcheslay T X_F_betw X_M_chk TE (He.free_ok X G (c.fact 136 (f := .free "str") rfl))⟩
  have X_M_watch : CalX l.prog w K mg base (He.ga K "Probe") 5 "watch" ["self", "number", "low", "high", "kind"] (spWatch (He.ga K "Board") (He.ga K "Memory") (He.ga K "Probe") (He.ga K "Marks") (He.ga K "Watches") (He.ga K "NoWord")) _ _ := ⟨(He.cls_ok (c.fact 51 (f := .cls "Probe") rfl)), He.meth_ok (c.fact 138 (f := .meth "Probe" "watch") rfl), b_Probewatch, ok_Mwatch F_Probewatch T X_M_lay TE⟩
  have Y_L_ask : FnOk l.prog w K mg base (L2.CX l.prog w) 6 _ _ ["_law_probe_here", "_law_act"] (spLAsk (He.ga K "Board") (He.ga K "Memory") (He.ga K "Probe") (He.ga K "Marks") (He.ga K "Watches") (He.ga K "NoWord") (He.ga K "NoMark")) := ok_Lask F_lawasked T X_M_unw X_M_watch TE
  have X_L_said : CalF l.prog w K mg base 7 "_law_said" ["_law_probe_here", "_law_act"] (spLSaid (He.ga K "Board") (He.ga K "Memory") (He.ga K "Probe") (He.ga K "Marks") (He.ga K "Watches")) _ _ := ⟨(He.glo_ok X G (c.fact 140 (f := .glo "_law_said") rfl)), F_lawsaid.kp, b_lawsaid, ok_Lsaid F_lawsaid T TE TG (He.glo_ok X G (c.fact 139 (f := .glo "_law_asked") rfl)) F_lawasked.kp b_lawasked Y_L_ask⟩
  have X_L_shown : CalF l.prog w K mg base 1 "_law_shown" ["_law_p"] (spLShown K) _ _ := ⟨(He.glo_ok X G (c.fact 142 (f := .glo "_law_shown") rfl)), F_lawshown.kp, b_lawshown, ok_Lshown F_lawshown T (He.free_ok X G (c.fact 141 (f := .free "sorted") rfl))⟩
  have X_M_at : CalM l.prog w K mg base (He.ga K "Memory") 1 "word_at" ["self", "address"] (spMAt (He.ga K "Memory")) _ _ := ⟨(He.cls_ok (c.fact 33 (f := .cls "Memory") rfl)), He.meth_ok (c.fact 143 (f := .meth "Memory" "word_at") rfl), b_Memorywordat, ok_Mat F_Memorywordat Tb⟩
  have X_M_look : CalM l.prog w K mg base (He.ga K "Probe") 3 "look" ["self", "address", "many"] (spLook (He.ga K "Board") (He.ga K "Memory") (He.ga K "Probe") (He.ga K "Marks") (He.ga K "Watches")) _ _ := ⟨(He.cls_ok (c.fact 51 (f := .cls "Probe") rfl)), He.meth_ok (c.fact 144 (f := .meth "Probe" "look") rfl), b_Probelook, ok_Mlook F_Probelook T X_F_betw X_M_at⟩
  have X_M_told : CalM l.prog w K mg base (He.ga K "Marks") 1 "told" ["self"] (spTold (He.ga K "Marks") (He.ga K "Memory")) _ _ := ⟨(He.cls_ok (c.fact 62 (f := .cls "Marks") rfl)), He.meth_ok (c.fact 145 (f := .meth "Marks" "told") rfl), b_Markstold, ok_Mtold F_Markstold T (He.free_ok X G (c.fact 141 (f := .free "sorted") rfl))⟩
  have X_M_mks : CalM l.prog w K mg base (He.ga K "Probe") 2 "marks" ["self"] (spLst (He.ga K "Board") (He.ga K "Memory") (He.ga K "Probe") (He.ga K "Marks") (He.ga K "Watches") (fun _ _ => [])) _ _ := ⟨(He.cls_ok (c.fact 51 (f := .cls "Probe") rfl)), He.meth_ok (c.fact 146 (f := .meth "Probe" "marks") rfl), b_Probemarks, ok_Mmks F_Probemarks T X_M_told⟩
  have X_M_out : CalM l.prog w K mg base (He.ga K "Probe") 1 "out" ["self"] (spOut (He.ga K "Board") (He.ga K "Memory") (He.ga K "Probe") (He.ga K "Marks") (He.ga K "Watches")) _ _ := ⟨(He.cls_ok (c.fact 51 (f := .cls "Probe") rfl)), He.meth_ok (c.fact 147 (f := .meth "Probe" "out") rfl), b_Probeout, ok_Mout F_Probeout T⟩
  have X_M_reg : CalM l.prog w K mg base (He.ga K "Probe") 1 "register_of" ["self", "name"] (spReg (He.ga K "Board") (He.ga K "Memory") (He.ga K "Probe") (He.ga K "Marks") (He.ga K "Watches")) _ _ := ⟨(He.cls_ok (c.fact 51 (f := .cls "Probe") rfl)), He.meth_ok (c.fact 148 (f := .meth "Probe" "register_of") rfl), b_Proberegisterof, ok_Mreg F_Proberegisterof T TE (He.free_ok X G (c.fact 136 (f := .free "str") rfl))⟩
  have X_M_stp : CalM l.prog w K mg base (He.ga K "Probe") 1 "stop_told" ["self"] (spStp (He.ga K "Board") (He.ga K "Memory") (He.ga K "Probe") (He.ga K "Marks") (He.ga K "Watches")) _ _ := ⟨(He.cls_ok (c.fact 51 (f := .cls "Probe") rfl)), He.meth_ok (c.fact 149 (f := .meth "Probe" "stop_told") rfl), b_Probestoptold, ok_Mstp F_Probestoptold T⟩
  have X_M_tns : CalM l.prog w K mg base (He.ga K "Probe") 1 "turns" ["self"] (spTurns (He.ga K "Board") (He.ga K "Memory") (He.ga K "Probe") (He.ga K "Marks") (He.ga K "Watches")) _ _ := ⟨(He.cls_ok (c.fact 51 (f := .cls "Probe") rfl)), He.meth_ok (c.fact 150 (f := .meth "Probe" "turns") rfl), b_Probeturns, ok_Mtns F_Probeturns T⟩
  have X_M_wer : CalM l.prog w K mg base (He.ga K "Probe") 1 "wear" ["self"] (spLst (He.ga K "Board") (He.ga K "Memory") (He.ga K "Probe") (He.ga K "Marks") (He.ga K "Watches") (fun _ _ => (List.replicate 16 (0 : Int)).map V.int)) _ _ := ⟨(He.cls_ok (c.fact 51 (f := .cls "Probe") rfl)), He.meth_ok (c.fact 151 (f := .meth "Probe" "wear") rfl), b_Probewear, ok_Mwer F_Probewear T⟩
  have X_M_wts : CalM l.prog w K mg base (He.ga K "Probe") 1 "watches" ["self"] (spLst (He.ga K "Board") (He.ga K "Memory") (He.ga K "Probe") (He.ga K "Marks") (He.ga K "Watches") (fun v0 v1 => [v0, v1])) _ _ := ⟨(He.cls_ok (c.fact 51 (f := .cls "Probe") rfl)), He.meth_ok (c.fact 152 (f := .meth "Probe" "watches") rfl), b_Probewatches, ok_Mwts F_Probewatches T⟩
  have X_L_told : CalF l.prog w K mg base 4 "_law_told" ["_law_probe_here"] (spLTold K (He.ga K "Board") (He.ga K "Memory") (He.ga K "Probe") (He.ga K "Marks") (He.ga K "Watches")) _ _ := ⟨(He.glo_ok X G (c.fact 153 (f := .glo "_law_told") rfl)), F_lawtold.kp, b_lawtold, ok_Ltold F_lawtold T X_M_look X_M_mks X_M_out X_M_reg X_M_stp X_M_tns X_M_wer X_M_wts⟩
  have X_L_well : CalF l.prog w K mg base 1 "_law_well" ["_law_cell"] (spWell) _ _ := ⟨(He.glo_ok X G (c.fact 154 (f := .glo "_law_well") rfl)), F_lawwell.kp, b_lawwell, ok_Lwell F_lawwell T⟩
  exact ok_Llaw F_law T X_C_prb X_L_cell X_L_draw X_L_one X_L_own X_L_prb X_L_prog X_L_said X_L_shown X_L_told X_L_well X_M_wts
end Bh
open PySem PySem.W PySem.Calls PyProof.Rows
set_option maxRecDepth 100000 in
set_option maxHeartbeats 0 in
theorem PySem.Challenge.cw_boardheld_k34_watches_set_holds : PySem.Challenge.rw_boardheld_k34_watches_set.Holds := by
  w_on; o_law
  refine HandSHeadRun.head_any (r := Bh.RR) (q := Bh.qV) (H := Bh.hkH) (ob := Bh.obL) (M := 10000) (loose := Bh.looseL) (d := HandSHeadRun.topDef Bh.RR.prog 111) (kwd := []) Bh.obL_eq
    (by kernel_rfl) (fun s => by kernel_rfl) Bh.run (by kernel_rfl) (by kernel_rfl) (by kernel_rfl) (by rfl) (by first | assumption | decide +kernel) (by decide +kernel) ⟨rfl, rfl, rfl, rfl, rfl, by decide +kernel⟩ ?hw ?hc
  case hw => w_witness2
  case hc =>
    refine L2.walk_ofE (l := PySem.Challenge.rw_boardheld_k34_watches_set) (n := 63) (k := 10) (x := "_law_script") (CX := L2.CX0) rfl (by decide) (by kernel_rfl) ⟨rfl, by decide, by decide⟩ ?F (fun _ _ _ _ z => z)
    intro w mg fa h Y G hmg0
    obtain ⟨K, KX, c⟩ := Y
    have hmg : mg ("law" : PySem.Str) = some (.ref fa) := by
      have e : (HandSHeadRun.topDef Bh.RR.prog 111).name = ("law" : PySem.Str) := by kernel_rfl
      rw [← e]
      exact hmg0
    obtain ⟨fd, hb, hF⟩ := Bh.all_mk (l := PySem.Challenge.rw_boardheld_k34_watches_set) (w := w) KX G hmg c
    exact ⟨K, fd, Bh.spLaw K, KX, hb, fun H a ns hl _ hS => ⟨a, ns, rfl, hS, hl, fun _ => rfl⟩, hF⟩

