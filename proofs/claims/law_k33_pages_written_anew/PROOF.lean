import PyProof.Rows.All
import Wide.All
import OpenK.AllK
import Wide.FinOn
import HandS.ForMost
import HandS.IsInst
import HandS.ForExc
import HandS.CallLocal
import HandS.More
import PySem.Challenge.RW_boardheld_k33_pages_written_anew
import HandS.HeadEnd
import HandS.HeadHook3
import HandS.HeadNt
import HandS.Head2
import KE.BitLaws
import HandS.Iter
import HandS.Flow
import HandS.Defaults
import HandS.SetKeys
import HandS.SortRule
import KE.KSortTupG
import HandS.ListItems
import HandS.WordsDict
import HandS.SetBool
import HandS.Strs
import HandS.SetFor
import HandS.Conv
import HandS.ExcOwn
import HandS.Walk
import HandS.Wide
import KE.DataEq
import HandS.ExcIs
import KE.DataFind
set_option Elab.async false
set_option linter.all false
set_option maxRecDepth 100000
set_option maxHeartbeats 4000000
/-! What the top has written, read off its run; the head. -/
namespace Bh
open PySem PySem.Spec PyProof.Rows L2 PySem.W
def topR (i : Nat) : Stmt := PySem.Challenge.pw_boardheld_k33_pages_written_anew.main.body.getD i (.Pass ⟨0, 0, 0, 0⟩)
/-- a fragment told by addresses, handed on whole -/
def gath {α : Type} (g : Addr → Option Obj) : List Addr → (PySem.W.Frag → α) → α
  | [], k => k []
  | a :: r, k => match g a with
    | some o => gath g r fun K => k ((a, o) :: K)
    | none => gath g r k
theorem gath_eq {α : Type} (g : Addr → Option Obj) : ∀ (as : List Addr) (k : PySem.W.Frag → α), gath g as k = k (He.frG g as)
  | [], k => rfl
  | a :: r, k => by
    unfold gath He.frG
    rw [List.filterMap_cons]
    cases e : g a with
    | none => exact gath_eq g r k
    | some o => exact gath_eq g r _
abbrev AlH : Type := He.AlT × List Bool
def obsH (fa : List He.Fa) (fn : List He.DefD) (ts : List He.Tab) (xl : PySem.W.Frag → List Bool) (K : PySem.W.Frag) : AlH := (He.obsT fa fn ts K, xl K)
def SaysH (fa : List He.Fa) (fn : List He.DefD) (ts : List He.Tab) (xl : PySem.W.Frag → List Bool) (nx : Nat) (w : World) (K : PySem.W.Frag) : Prop := obsH fa fn ts xl K = (He.valT fn ts w, List.replicate nx true)
def hookH (as : List Addr) (fa : List He.Fa) (fn : List He.DefD) (ts : List He.Tab) (xl : PySem.W.Frag → List Bool) (nx : Nat) : PySem.W.Hook where
  α := AlH
  obs := fun s => gath s.heap.get? as (obsH fa fn ts xl)
  val := fun w => (He.valT fn ts w, List.replicate nx true)
  says := fun w h => ∃ K : PySem.W.Frag, K.In h ∧ SaysH fa fn ts xl nx w K
  of := fun _ _ e => ⟨_, He.frG_in, by
    rw [gath_eq] at e
    exact e⟩
  keeps := fun _ _ _ ⟨K, hK, c⟩ k => ⟨K, PySem.W.Frag.In.keeps hK k, c⟩
section
variable {fa : List He.Fa} {fn : List He.DefD} {ts : List He.Tab} {xl : PySem.W.Frag → List Bool} {nx : Nat} {w : World} {K : PySem.W.Frag}
theorem SaysH.t (c : SaysH fa fn ts xl nx w K) : He.SaysT fa fn ts w K := congrArg (fun z : AlH => z.1) c
theorem SaysH.fact (c : SaysH fa fn ts xl nx w K) (i : Nat) {f : He.Fa} (h : fa[i]? = some f) : f.ok K = true := c.t.d.fact i h
theorem SaysH.def_ (c : SaysH fa fn ts xl nx w K) (i : Nat) {d : He.DefD} (h : fn[i]? = some d) : ∃ fd, FunD K d.name d.qual d.params d.body d.scope (d.dvs K) (d.kws K) (He.fAd K d.at_) fd := c.t.d.def_ i h
theorem SaysH.tab (c : SaysH fa fn ts xl nx w K) (i : Nat) {t : He.Tab} (h : ts[i]? = some t) : ∃ es n, KDict K w (t.1 K) es n := c.t.tab i h
theorem SaysH.x (c : SaysH fa fn ts xl nx w K) (i : Nat) {b : Bool} (h : (xl K)[i]? = some b) : b = true := by
  have e : xl K = List.replicate nx true := congrArg (fun z : AlH => z.2) c
  rw [e] at h
  have m := List.mem_of_getElem? h
  exact (List.mem_replicate.mp m).2
end
def asL0 : List Addr := [3, 414, 413, 374, 373, 381, 380, 388, 387, 393, 392, 407, 406, 400, 399, 1098, 1097, 1112, 1111, 1119, 1118, 1150, 1149, 1157]
def asL1 : List Addr := [1156, 1126, 1125, 1133, 1132, 1171, 1170, 1164, 1163, 1138, 1137, 1143, 1142, 1105, 1104, 1176, 1175, 520, 519, 362, 361, 1087, 1086, 719]
def asL2 : List Addr := [718, 877, 876, 653, 652, 555, 554, 604, 603, 778, 777, 820, 819, 220, 219, 195, 275, 274, 251, 250, 263, 262, 239, 238]
def asL3 : List Addr := [194, 22, 367, 882, 825, 298, 297, 428, 427, 573, 572, 622, 621, 538, 537, 671, 670, 744, 743, 796, 795, 839, 838, 903]
def asL4 : List Addr := [902, 711, 710, 706, 705, 993, 992, 685, 684, 692, 691, 979, 978, 699, 698, 986, 985, 305, 304, 915, 914, 716, 715, 1000]
def asL5 : List Addr := [999, 936, 935, 922, 921, 929, 928, 943, 942, 1007, 1006, 1028, 1027]
def asL : List Addr := asL0 ++ asL1 ++ asL2 ++ asL3 ++ asL4 ++ asL5

def looseL0 : List Str := ["_wall", "WORDS", "HIGH", "READS_AT_X", "touches_of", "give", "do_lit", "do_get", "do_put", "do_add", "do_sub", "do_and", "do_xor", "do_putb", "do_tob", "do_swap", "do_go", "do_ifz", "do_ifn", "do_call", "do_ret", "do_push", "do_pop", "do_sleep"]
def looseL1 : List Str := ["do_let", "do_back", "do_half", "DOINGS", "BoardError", "NoImage", "NoWord", "Barred", "Taken", "TooMany", "NoMark", "FLASH_END", "RAM_END", "PLACES_END", "COUNT", "TOP", "FLAGS", "MASK", "LINE_IN", "LINE_OUT", "TIMER_FLAG", "LINE_FLAG", "WORD_MOST", "ERASED"]
def looseL2 : List Str := ["bar_of", "Memory", "X_SPAN", "OP_NAMES", "LINE_MOST", "is_whole", "is_between", "is_word", "is_image", "is_line", "is_line_row", "STACK_TOP", "INTERRUPT_BEATS", "TIMER_PC", "LINE_PC", "first_registers", "Board", "KEPT_TURNS", "History", "Counts", "OUTSIDE", "Frames", "PAGES", "PAGE_WORDS"]
def looseL3 : List Str := ["HARD_MOST", "Marks", "BEAT_MOST", "BIT_MOST", "WAITING_MOST", "is_fault", "Mishaps", "Stands", "WATCHES", "KINDS", "Watches", "REGISTERS", "peeks_by_turn", "Probe", "_law_cell_at", "_law_well", "_law_draw", "_law_one", "_law_board", "_law_probe", "_law_shown", "_law_told", "_law_given_back", "_law_own_mark"]
def looseL4 : List Str := ["_law_said", "_law_asked"]
def looseL : List Str := looseL0 ++ looseL1 ++ looseL2 ++ looseL3 ++ looseL4

def faL0 : List He.Fa := [.int "FLASH_END" 512, .int "RAM_END" 768, .int "PLACES_END" 774, .int "COUNT" 768, .int "TOP" 769, .int "FLAGS" 770, .int "MASK" 771, .int "LINE_IN" 772, .int "LINE_OUT" 773, .int "TIMER_FLAG" 1, .int "LINE_FLAG" 2, .int "WORD_MOST" 65535, .int "ERASED" 65535, .int "X_SPAN" 1024, .int "LINE_MOST" 3, .int "STACK_TOP" 767, .int "INTERRUPT_BEATS" 3, .int "TIMER_PC" 1, .int "LINE_PC" 2, .int "WORDS" 65536, .int "HIGH" 32768, .free "len", .free "range", .free "isinstance"]
def faL1 : List He.Fa := [.free "all", .free "int", .free "bool", .free "list", .free "tuple", .free "divmod", .glo "READS_AT_X", .glo "OP_NAMES", .cls "Board", .cls "Memory", .noat "Board" "registers", .noat "Board" "zero", .noat "Board" "lets", .noat "Board" "asleep", .noat "Board" "beat", .noat "Board" "stopped", .noat "Board" "sent", .noat "Board" "memory", .noat "Board" "line", .noat "Board" "line_at", .noat "Board" "touched", .noat "Board" "did", .noat "Board" "bend", .noat "Memory" "words"]
def faL2 : List He.Fa := [.noat "Memory" "swapped", .int "WATCHES" 2, .int "PAGES" 16, .int "OUTSIDE" (-1), .int "KEPT_TURNS" 32, .free "enumerate", .cls "Probe", .noat "Probe" "board", .noat "Probe" "standing", .noat "Probe" "watching", .noat "Probe" "frames", .noat "Probe" "history", .noat "Probe" "counts", .noat "Probe" "mishaps", .noat "Probe" "stands", .noat "Probe" "turns_gone", .noat "Probe" "course", .cls "Marks", .noat "Marks" "memory", .noat "Marks" "hard", .noat "Marks" "erased", .cls "Watches", .noat "Watches" "rows", .cls "Frames"]
def faL3 : List He.Fa := [.noat "Frames" "rows", .noat "Frames" "strays", .cls "History", .noat "History" "rows", .noat "History" "faded", .cls "Counts", .noat "Counts" "deeds", .noat "Counts" "frames", .noat "Counts" "idle", .noat "Counts" "peeked", .cls "Mishaps", .noat "Mishaps" "rows", .noat "Mishaps" "met_rows", .cls "Stands", .noat "Stands" "rows", .glo "REGISTERS", .free "str", .glo "KINDS", .int "HARD_MOST" 2, .int "PAGE_WORDS" 32, .glo "NoWord", .keep "NoWord", .exc "NoWord", .glo "NoMark"]
def faL4 : List He.Fa := [.keep "NoMark", .exc "NoMark", .glo "Taken", .keep "Taken", .exc "Taken", .glo "TooMany", .keep "TooMany", .exc "TooMany", .glo "Barred", .glo "BoardError", .exm "NoWord" "BoardError" true, .exm "Taken" "BoardError" true, .exm "TooMany" "BoardError" true, .exm "NoMark" "BoardError" true, .mkr "Memory", .glo "Memory", .glo "first_registers", .glo "is_whole", .glo "is_between", .glo "is_word", .glo "is_image", .glo "is_line_row", .glo "is_line", .mkr "Board"]
def faL5 : List He.Fa := [.glo "Board", .mkr "Counts", .glo "Counts", .mkr "Frames", .glo "Frames", .mkr "History", .glo "History", .mkr "Marks", .glo "Marks", .mkr "Mishaps", .glo "Mishaps", .mkr "Stands", .glo "Stands", .mkr "Watches", .glo "Watches", .mkr "Probe", .glo "Probe", .glo "_law_cell_at", .glo "_law_draw", .glo "_law_one", .glo "_law_given_back", .glo "_law_own_mark", .free "dict", .glo "_law_board"]
def faL6 : List He.Fa := [.glo "_law_probe", .free "sorted", .meth "Marks" "wear_pages", .meth "Marks" "lift_all", .meth "Probe" "clear_marks", .meth "Marks" "stands_at", .meth "Marks" "lay", .meth "Probe" "mark", .meth "Marks" "lift", .meth "Probe" "unmark", .glo "_law_asked", .glo "_law_said", .glo "_law_shown", .meth "Memory" "word_at", .meth "Probe" "look", .meth "Marks" "told", .meth "Probe" "marks", .meth "Probe" "out", .meth "Probe" "register_of", .meth "Probe" "stop_told", .meth "Probe" "turns", .meth "Probe" "wear", .meth "Probe" "watches", .glo "_law_told"]
def faL7 : List He.Fa := [.glo "_law_well", .glo "law"]
def faLa : List He.Fa := faL0 ++ faL1 ++ faL2 ++ faL3
def faLb : List He.Fa := faL4 ++ faL5 ++ faL6 ++ faL7
def faL : List He.Fa := faLa ++ faLb

def d_Memoryinit : He.DefD := (⟨("Memory", some "__init__"), "__init__", "Memory.__init__", defArgs (inClass (topR 52) 0), defBody (inClass (topR 52) 0), defScope (inClass (topR 52) 0), [], []⟩ : He.DefD)
def d_firstregisters : He.DefD := (⟨("first_registers", none), "first_registers", "first_registers", defArgs (topR 68), defBody (topR 68), defScope (topR 68), [], []⟩ : He.DefD)
def d_iswhole : He.DefD := (⟨("is_whole", none), "is_whole", "is_whole", defArgs (topR 57), defBody (topR 57), defScope (topR 57), [], []⟩ : He.DefD)
def d_isbetween : He.DefD := (⟨("is_between", none), "is_between", "is_between", defArgs (topR 58), defBody (topR 58), defScope (topR 58), [], []⟩ : He.DefD)
def d_isword : He.DefD := (⟨("is_word", none), "is_word", "is_word", defArgs (topR 59), defBody (topR 59), defScope (topR 59), [], []⟩ : He.DefD)
def d_isimage : He.DefD := (⟨("is_image", none), "is_image", "is_image", defArgs (topR 60), defBody (topR 60), defScope (topR 60), [], []⟩ : He.DefD)
def d_islinerow : He.DefD := (⟨("is_line_row", none), "is_line_row", "is_line_row", defArgs (topR 62), defBody (topR 62), defScope (topR 62), [], []⟩ : He.DefD)
def d_isline : He.DefD := (⟨("is_line", none), "is_line", "is_line", defArgs (topR 61), defBody (topR 61), defScope (topR 61), [], []⟩ : He.DefD)
def d_Boardinit : He.DefD := (⟨("Board", some "__init__"), "__init__", "Board.__init__", defArgs (inClass (topR 69) 0), defBody (inClass (topR 69) 0), defScope (inClass (topR 69) 0), [], []⟩ : He.DefD)
def d_Countsinit : He.DefD := (⟨("Counts", some "__init__"), "__init__", "Counts.__init__", defArgs (inClass (topR 73) 0), defBody (inClass (topR 73) 0), defScope (inClass (topR 73) 0), [], []⟩ : He.DefD)
def d_Framesinit : He.DefD := (⟨("Frames", some "__init__"), "__init__", "Frames.__init__", defArgs (inClass (topR 76) 0), defBody (inClass (topR 76) 0), defScope (inClass (topR 76) 0), [], []⟩ : He.DefD)
def d_Historyinit : He.DefD := (⟨("History", some "__init__"), "__init__", "History.__init__", defArgs (inClass (topR 72) 0), defBody (inClass (topR 72) 0), defScope (inClass (topR 72) 0), [], []⟩ : He.DefD)
def d_Marksinit : He.DefD := (⟨("Marks", some "__init__"), "__init__", "Marks.__init__", defArgs (inClass (topR 81) 0), defBody (inClass (topR 81) 0), defScope (inClass (topR 81) 0), [], []⟩ : He.DefD)
def d_Mishapsinit : He.DefD := (⟨("Mishaps", some "__init__"), "__init__", "Mishaps.__init__", defArgs (inClass (topR 87) 0), defBody (inClass (topR 87) 0), defScope (inClass (topR 87) 0), [], []⟩ : He.DefD)
def d_Standsinit : He.DefD := (⟨("Stands", some "__init__"), "__init__", "Stands.__init__", defArgs (inClass (topR 89) 0), defBody (inClass (topR 89) 0), defScope (inClass (topR 89) 0), [], []⟩ : He.DefD)
def d_Watchesinit : He.DefD := (⟨("Watches", some "__init__"), "__init__", "Watches.__init__", defArgs (inClass (topR 93) 0), defBody (inClass (topR 93) 0), defScope (inClass (topR 93) 0), [], []⟩ : He.DefD)
def d_Probeinit : He.DefD := (⟨("Probe", some "__init__"), "__init__", "Probe.__init__", defArgs (inClass (topR 97) 0), defBody (inClass (topR 97) 0), defScope (inClass (topR 97) 0), [], []⟩ : He.DefD)
def d_lawcellat : He.DefD := (⟨("_law_cell_at", none), "_law_cell_at", "_law_cell_at", defArgs (topR 99), defBody (topR 99), defScope (topR 99), [], []⟩ : He.DefD)
def d_lawdraw : He.DefD := (⟨("_law_draw", none), "_law_draw", "_law_draw", defArgs (topR 101), defBody (topR 101), defScope (topR 101), [], []⟩ : He.DefD)
def d_lawone : He.DefD := (⟨("_law_one", none), "_law_one", "_law_one", defArgs (topR 102), defBody (topR 102), defScope (topR 102), [], []⟩ : He.DefD)
def d_lawgivenback : He.DefD := (⟨("_law_given_back", none), "_law_given_back", "_law_given_back", defArgs (topR 107), defBody (topR 107), defScope (topR 107), [], []⟩ : He.DefD)
def d_lawownmark : He.DefD := (⟨("_law_own_mark", none), "_law_own_mark", "_law_own_mark", defArgs (topR 108), defBody (topR 108), defScope (topR 108), [], []⟩ : He.DefD)
def d_lawboard : He.DefD := (⟨("_law_board", none), "_law_board", "_law_board", defArgs (topR 103), defBody (topR 103), defScope (topR 103), [], []⟩ : He.DefD)
def d_lawprobe : He.DefD := (⟨("_law_probe", none), "_law_probe", "_law_probe", defArgs (topR 104), defBody (topR 104), defScope (topR 104), [], []⟩ : He.DefD)
def d_Markswearpages : He.DefD := (⟨("Marks", some "wear_pages"), "wear_pages", "Marks.wear_pages", defArgs (inClass (topR 81) 6), defBody (inClass (topR 81) 6), defScope (inClass (topR 81) 6), [], []⟩ : He.DefD)
def d_Marksliftall : He.DefD := (⟨("Marks", some "lift_all"), "lift_all", "Marks.lift_all", defArgs (inClass (topR 81) 5), defBody (inClass (topR 81) 5), defScope (inClass (topR 81) 5), [], []⟩ : He.DefD)
def d_Probeclearmarks : He.DefD := (⟨("Probe", some "clear_marks"), "clear_marks", "Probe.clear_marks", defArgs (inClass (topR 97) 13), defBody (inClass (topR 97) 13), defScope (inClass (topR 97) 13), [], []⟩ : He.DefD)
def d_Marksstandsat : He.DefD := (⟨("Marks", some "stands_at"), "stands_at", "Marks.stands_at", defArgs (inClass (topR 81) 2), defBody (inClass (topR 81) 2), defScope (inClass (topR 81) 2), [], []⟩ : He.DefD)
def d_Markslay : He.DefD := (⟨("Marks", some "lay"), "lay", "Marks.lay", defArgs (inClass (topR 81) 3), defBody (inClass (topR 81) 3), defScope (inClass (topR 81) 3), [], []⟩ : He.DefD)
def d_Probemark : He.DefD := (⟨("Probe", some "mark"), "mark", "Probe.mark", defArgs (inClass (topR 97) 11), defBody (inClass (topR 97) 11), defScope (inClass (topR 97) 11), [], []⟩ : He.DefD)
def d_Markslift : He.DefD := (⟨("Marks", some "lift"), "lift", "Marks.lift", defArgs (inClass (topR 81) 4), defBody (inClass (topR 81) 4), defScope (inClass (topR 81) 4), [], []⟩ : He.DefD)
def d_Probeunmark : He.DefD := (⟨("Probe", some "unmark"), "unmark", "Probe.unmark", defArgs (inClass (topR 97) 12), defBody (inClass (topR 97) 12), defScope (inClass (topR 97) 12), [], []⟩ : He.DefD)
def d_lawasked : He.DefD := (⟨("_law_asked", none), "_law_asked", "_law_asked", defArgs (topR 110), defBody (topR 110), defScope (topR 110), [], []⟩ : He.DefD)
def d_lawsaid : He.DefD := (⟨("_law_said", none), "_law_said", "_law_said", defArgs (topR 109), defBody (topR 109), defScope (topR 109), [], []⟩ : He.DefD)
def d_lawshown : He.DefD := (⟨("_law_shown", none), "_law_shown", "_law_shown", defArgs (topR 105), defBody (topR 105), defScope (topR 105), [], []⟩ : He.DefD)
def d_Memorywordat : He.DefD := (⟨("Memory", some "word_at"), "word_at", "Memory.word_at", defArgs (inClass (topR 52) 1), defBody (inClass (topR 52) 1), defScope (inClass (topR 52) 1), [], []⟩ : He.DefD)
def d_Probelook : He.DefD := (⟨("Probe", some "look"), "look", "Probe.look", defArgs (inClass (topR 97) 2), defBody (inClass (topR 97) 2), defScope (inClass (topR 97) 2), [], []⟩ : He.DefD)
def d_Markstold : He.DefD := (⟨("Marks", some "told"), "told", "Marks.told", defArgs (inClass (topR 81) 7), defBody (inClass (topR 81) 7), defScope (inClass (topR 81) 7), [], []⟩ : He.DefD)
def d_Probemarks : He.DefD := (⟨("Probe", some "marks"), "marks", "Probe.marks", defArgs (inClass (topR 97) 14), defBody (inClass (topR 97) 14), defScope (inClass (topR 97) 14), [], []⟩ : He.DefD)
def d_Probeout : He.DefD := (⟨("Probe", some "out"), "out", "Probe.out", defArgs (inClass (topR 97) 5), defBody (inClass (topR 97) 5), defScope (inClass (topR 97) 5), [], []⟩ : He.DefD)
def d_Proberegisterof : He.DefD := (⟨("Probe", some "register_of"), "register_of", "Probe.register_of", defArgs (inClass (topR 97) 3), defBody (inClass (topR 97) 3), defScope (inClass (topR 97) 3), [], []⟩ : He.DefD)
def d_Probestoptold : He.DefD := (⟨("Probe", some "stop_told"), "stop_told", "Probe.stop_told", defArgs (inClass (topR 97) 4), defBody (inClass (topR 97) 4), defScope (inClass (topR 97) 4), [], []⟩ : He.DefD)
def d_Probeturns : He.DefD := (⟨("Probe", some "turns"), "turns", "Probe.turns", defArgs (inClass (topR 97) 6), defBody (inClass (topR 97) 6), defScope (inClass (topR 97) 6), [], []⟩ : He.DefD)
def d_Probewear : He.DefD := (⟨("Probe", some "wear"), "wear", "Probe.wear", defArgs (inClass (topR 97) 15), defBody (inClass (topR 97) 15), defScope (inClass (topR 97) 15), [], []⟩ : He.DefD)
def d_Probewatches : He.DefD := (⟨("Probe", some "watches"), "watches", "Probe.watches", defArgs (inClass (topR 97) 18), defBody (inClass (topR 97) 18), defScope (inClass (topR 97) 18), [], []⟩ : He.DefD)
def d_lawtold : He.DefD := (⟨("_law_told", none), "_law_told", "_law_told", defArgs (topR 106), defBody (topR 106), defScope (topR 106), [], []⟩ : He.DefD)
def d_lawwell : He.DefD := (⟨("_law_well", none), "_law_well", "_law_well", defArgs (topR 100), defBody (topR 100), defScope (topR 100), [], []⟩ : He.DefD)
def d_law : He.DefD := (⟨("law", none), "law", "law", defArgs (topR 111), defBody (topR 111), defScope (topR 111), [], []⟩ : He.DefD)
def fnL0 : List He.DefD := [d_Memoryinit, d_firstregisters, d_iswhole, d_isbetween, d_isword, d_isimage, d_islinerow, d_isline, d_Boardinit, d_Countsinit, d_Framesinit, d_Historyinit, d_Marksinit, d_Mishapsinit, d_Standsinit, d_Watchesinit, d_Probeinit, d_lawcellat, d_lawdraw, d_lawone, d_lawgivenback, d_lawownmark, d_lawboard, d_lawprobe]
def fnL1 : List He.DefD := [d_Markswearpages, d_Marksliftall, d_Probeclearmarks, d_Marksstandsat, d_Markslay, d_Probemark, d_Markslift, d_Probeunmark, d_lawasked, d_lawsaid, d_lawshown, d_Memorywordat, d_Probelook, d_Markstold, d_Probemarks, d_Probeout, d_Proberegisterof, d_Probestoptold, d_Probeturns, d_Probewear, d_Probewatches, d_lawtold, d_lawwell, d_law]
def fnLa : List He.DefD := fnL0
def fnLb : List He.DefD := fnL1
def fnL : List He.DefD := fnLa ++ fnLb

def tsL : List He.Tab := []
def xl0 (K : PySem.W.Frag) : List Bool := [He.tupB K "READS_AT_X" [.str "get", .str "add", .str "sub", .str "and", .str "xor"], He.tupB K "OP_NAMES" [.str "mark", .str "lit", .str "get", .str "put", .str "add", .str "sub", .str "and", .str "xor", .str "getb", .str "putb", .str "tob", .str "swap", .str "go", .str "ifz", .str "ifn", .str "call", .str "ret", .str "push", .str "pop", .str "sleep", .str "let", .str "back", .str "half"], He.tupB K "REGISTERS" [.str "a", .str "b", .str "pc", .str "sp"], He.tupB K "KINDS" [.str "r", .str "w", .str "rw"], decide (PySem.W.subIn K (.ref (He.ga K "NoWord")) (.type "BaseException") = some true), decide (PySem.W.typeIn K (.ref (He.ga K "NoWord")) = some (.type "type")), decide (PySem.W.subIn K (.ref (He.ga K "NoMark")) (.type "BaseException") = some true), decide (PySem.W.typeIn K (.ref (He.ga K "NoMark")) = some (.type "type")), decide (PySem.W.subIn K (.ref (He.ga K "Taken")) (.type "BaseException") = some true), decide (PySem.W.typeIn K (.ref (He.ga K "Taken")) = some (.type "type")), decide (PySem.W.subIn K (.ref (He.ga K "TooMany")) (.type "BaseException") = some true), decide (PySem.W.typeIn K (.ref (He.ga K "TooMany")) = some (.type "type")), He.eqO (PySem.W.findIn K (.ref (He.ga K "NoWord")) "__getattribute__") (some (some (.builtin "BaseException.__getattribute__"))), He.eqO (PySem.W.findIn K (.ref (He.ga K "NoWord")) "__getattr__") (some none), PySem.W.hasDictIn K (He.ga K "NoWord"), He.eqO (PySem.W.findIn K (.ref (He.ga K "NoWord")) "__class__") (some (some (.builtin "object.__class__"))), He.eqO (PySem.W.specialIn K (.builtin "object.__class__") "__get__") (some (some (.builtin "getset_descriptor.__get__"))), decide (PySem.W.takesIn K (.builtin "object.__class__") = some true), decide (PySem.W.mroIn K (He.ga K "NoWord") (.type "object") = some true), He.eqO (PySem.W.findIn K (.ref (He.ga K "Taken")) "__getattribute__") (some (some (.builtin "BaseException.__getattribute__")))]
def xl1 (K : PySem.W.Frag) : List Bool := [He.eqO (PySem.W.findIn K (.ref (He.ga K "Taken")) "__getattr__") (some none), PySem.W.hasDictIn K (He.ga K "Taken"), He.eqO (PySem.W.findIn K (.ref (He.ga K "Taken")) "__class__") (some (some (.builtin "object.__class__"))), decide (PySem.W.mroIn K (He.ga K "Taken") (.type "object") = some true), He.eqO (PySem.W.findIn K (.ref (He.ga K "TooMany")) "__getattribute__") (some (some (.builtin "BaseException.__getattribute__"))), He.eqO (PySem.W.findIn K (.ref (He.ga K "TooMany")) "__getattr__") (some none), PySem.W.hasDictIn K (He.ga K "TooMany"), He.eqO (PySem.W.findIn K (.ref (He.ga K "TooMany")) "__class__") (some (some (.builtin "object.__class__"))), decide (PySem.W.mroIn K (He.ga K "TooMany") (.type "object") = some true), He.eqO (PySem.W.findIn K (.ref (He.ga K "NoMark")) "__getattribute__") (some (some (.builtin "BaseException.__getattribute__"))), He.eqO (PySem.W.findIn K (.ref (He.ga K "NoMark")) "__getattr__") (some none), PySem.W.hasDictIn K (He.ga K "NoMark"), He.eqO (PySem.W.findIn K (.ref (He.ga K "NoMark")) "__class__") (some (some (.builtin "object.__class__"))), decide (PySem.W.mroIn K (He.ga K "NoMark") (.type "object") = some true), decide (PySem.W.kitOne K (.ref (He.ga K "NoWord")) (.ref (He.ga K "NoWord")) = some true), decide (PySem.W.kitOne K (.ref (He.ga K "NoWord")) (.ref (He.ga K "Taken")) = some false), decide (PySem.W.kitOne K (.ref (He.ga K "NoWord")) (.ref (He.ga K "TooMany")) = some false), decide (PySem.W.kitOne K (.ref (He.ga K "NoWord")) (.ref (He.ga K "NoMark")) = some false), decide (PySem.W.kitOne K (.ref (He.ga K "NoWord")) (.ref (He.ga K "Barred")) = some false), decide (PySem.W.kitOne K (.ref (He.ga K "Taken")) (.ref (He.ga K "NoWord")) = some false)]
def xl2 (K : PySem.W.Frag) : List Bool := [decide (PySem.W.kitOne K (.ref (He.ga K "Taken")) (.ref (He.ga K "Taken")) = some true), decide (PySem.W.kitOne K (.ref (He.ga K "Taken")) (.ref (He.ga K "TooMany")) = some false), decide (PySem.W.kitOne K (.ref (He.ga K "Taken")) (.ref (He.ga K "NoMark")) = some false), decide (PySem.W.kitOne K (.ref (He.ga K "Taken")) (.ref (He.ga K "Barred")) = some false), decide (PySem.W.kitOne K (.ref (He.ga K "TooMany")) (.ref (He.ga K "NoWord")) = some false), decide (PySem.W.kitOne K (.ref (He.ga K "TooMany")) (.ref (He.ga K "Taken")) = some false), decide (PySem.W.kitOne K (.ref (He.ga K "TooMany")) (.ref (He.ga K "TooMany")) = some true), decide (PySem.W.kitOne K (.ref (He.ga K "TooMany")) (.ref (He.ga K "NoMark")) = some false), decide (PySem.W.kitOne K (.ref (He.ga K "TooMany")) (.ref (He.ga K "Barred")) = some false), decide (PySem.W.kitOne K (.ref (He.ga K "NoMark")) (.ref (He.ga K "NoWord")) = some false), decide (PySem.W.kitOne K (.ref (He.ga K "NoMark")) (.ref (He.ga K "Taken")) = some false), decide (PySem.W.kitOne K (.ref (He.ga K "NoMark")) (.ref (He.ga K "TooMany")) = some false), decide (PySem.W.kitOne K (.ref (He.ga K "NoMark")) (.ref (He.ga K "NoMark")) = some true), decide (PySem.W.kitOne K (.ref (He.ga K "NoMark")) (.ref (He.ga K "Barred")) = some false)]
def xlL (K : PySem.W.Frag) : List Bool := xl0 K ++ xl1 K ++ xl2 K
abbrev RR : PySem.W.OpenRow := PySem.W.OpenLaw.row PySem.Challenge.rw_boardheld_k33_pages_written_anew
abbrev hkH : PySem.W.Hook := hookH asL faL fnL tsL xlL 54
def obL (s : PySem.W.SharedT) : AlH := gath (HandSHeadRun.getT s) asL (obsH faL fnL tsL xlL)
theorem obL_eq (s : PySem.W.SharedT) : obL s = hkH.obs s.abs := by
  have e : HandSHeadRun.getT s = s.abs.heap.get? := funext (HandSHeadRun.getT_eq s)
  unfold obL
  rw [e]
  rfl
abbrev qV : Program := PySem.W.view RR.prog [111]
def o1 (K : PySem.W.Frag) : Bool := faLa.all fun f => f.ok K
def o2 (K : PySem.W.Frag) : Bool := faLb.all fun f => f.ok K
def o3 (K : PySem.W.Frag) : Bool := fnLa.all fun d => d.ok K
def o4 (K : PySem.W.Frag) : Bool := fnLb.all fun d => d.ok K
def o5 (K : PySem.W.Frag) : List He.FnW × List (Option (List (Option (Str × Int)))) × List Bool := (fnL.map fun d => He.fnW K d.at_, tsL.map fun t => He.dicW K (t.1 K), xlL K)
def hookP {α : Type} (o : PySem.W.Frag → α) (v : World → α) : PySem.W.Hook where
  α := α
  obs := fun s => gath s.heap.get? asL o
  val := v
  says := fun _ _ => True
  of := fun _ _ _ => trivial
  keeps := fun _ _ _ _ _ => trivial
theorem j2 {S A B U V W : Type} {x : Option S} {f : S → A} {g : S → B} {u : S → U} {v : S → V} {z : S → W} (mk : U → V → W) (hz : ∀ s, z s = mk (u s) (v s)) {a : A} {b : B} {u0 : U} {v0 : V}
    (h1 : x.map (fun s => (f s, g s, u s)) = some (a, b, u0)) (h2 : x.map (fun s => (f s, g s, v s)) = some (a, b, v0)) : x.map (fun s => (f s, g s, z s)) = some (a, b, mk u0 v0) := by
  cases x with
  | none => cases h1
  | some s =>
    have e1 : (f s, g s, u s) = (a, b, u0) := Option.some.inj h1
    have e2 : (f s, g s, v s) = (a, b, v0) := Option.some.inj h2
    injection e1 with e3 e4
    injection e4 with e4 e5
    injection e2 with _ e6
    injection e6 with _ e7
    show some (f s, g s, z s) = _
    rw [hz s, e3, e4, e5, e7]
def v1 (_ : World) : Bool := true
def v5 (w : World) : List He.FnW × List (Option (List (Option (Str × Int)))) × List Bool := (fnL.map He.DefD.val, tsL.map fun t => some (He.keysIn w.params t.2), List.replicate 54 true)
def ob {α : Type} (o : PySem.W.Frag → α) (s : PySem.W.SharedT) : α := gath (HandSHeadRun.getT s) asL o
abbrev RunP {α : Type} (o : PySem.W.Frag → α) (v : World → α) (w : World) : Prop := HandSHeadRun.RunEq RR qV (hookP o v) (ob o) 10000 looseL w
def o12 (K : PySem.W.Frag) : Bool := o1 K && o2 K
def o34 (K : PySem.W.Frag) : Bool := o3 K && o4 K
def oA (K : PySem.W.Frag) : Bool := o12 K && o34 K
theorem both {w : World} {p q : PySem.W.Frag → Bool} (h1 : RunP p v1 w) (h2 : RunP q v1 w) : RunP (fun K => p K && q K) v1 w := by
  intro os
  exact j2 (fun (a b : Bool) => a && b) (fun s => (gath_eq _ _ _).trans (congr (congrArg and (gath_eq _ _ _).symm) (gath_eq _ _ _).symm)) (h1 os) (h2 os)
theorem oA_eq (K : PySem.W.Frag) : oA K = ((faL.all fun f => f.ok K) && fnL.all fun d => d.ok K) := by
  unfold faL fnL
  rw [List.all_append, List.all_append]
  rfl
theorem run_of {w : World} (h1 : RunP o1 v1 w) (h2 : RunP o2 v1 w) (h3 : RunP o3 v1 w) (h4 : RunP o4 v1 w) (h5 : RunP o5 v5 w) : HandSHeadRun.RunEq RR qV hkH obL 10000 looseL w := by
  have hA : RunP oA v1 w := both (both h1 h2) (both h3 h4)
  intro os
  have a := fun s : PySem.W.SharedT => (gath_eq (HandSHeadRun.getT s) asL oA).trans (oA_eq _)
  have b := fun s : PySem.W.SharedT => gath_eq (HandSHeadRun.getT s) asL o5
  exact j2 (fun (a : Bool) (b : List He.FnW × List (Option (List (Option (Str × Int)))) × List Bool) => ((((a, b.1), b.2.1), b.2.2) : AlH)) (fun s => (gath_eq _ _ _).trans (congr (congrArg (fun (a : Bool) (b : List He.FnW × List (Option (List (Option (Str × Int)))) × List Bool) => ((((a, b.1), b.2.1), b.2.2) : AlH)) (a s).symm) (b s).symm)) (hA os) (h5 os)
set_option maxHeartbeats 0 in
theorem run1F (w : World) : RunP o1 v1 (w.withFollow "special-get-raises" false) := by
  intro os
  kernel_rfl
set_option maxHeartbeats 0 in
theorem run1T (w : World) : RunP o1 v1 (w.withFollow "special-get-raises" true) := by
  intro os
  kernel_rfl
set_option maxHeartbeats 0 in
theorem run2F (w : World) : RunP o2 v1 (w.withFollow "special-get-raises" false) := by
  intro os
  kernel_rfl
set_option maxHeartbeats 0 in
theorem run2T (w : World) : RunP o2 v1 (w.withFollow "special-get-raises" true) := by
  intro os
  kernel_rfl
set_option maxHeartbeats 0 in
theorem run3F (w : World) : RunP o3 v1 (w.withFollow "special-get-raises" false) := by
  intro os
  kernel_rfl
set_option maxHeartbeats 0 in
theorem run3T (w : World) : RunP o3 v1 (w.withFollow "special-get-raises" true) := by
  intro os
  kernel_rfl
set_option maxHeartbeats 0 in
theorem run4F (w : World) : RunP o4 v1 (w.withFollow "special-get-raises" false) := by
  intro os
  kernel_rfl
set_option maxHeartbeats 0 in
theorem run4T (w : World) : RunP o4 v1 (w.withFollow "special-get-raises" true) := by
  intro os
  kernel_rfl
set_option maxHeartbeats 0 in
theorem run5F (w : World) : RunP o5 v5 (w.withFollow "special-get-raises" false) := by
  intro os
  kernel_rfl
set_option maxHeartbeats 0 in
theorem run5T (w : World) : RunP o5 v5 (w.withFollow "special-get-raises" true) := by
  intro os
  kernel_rfl
theorem runF (w : World) : HandSHeadRun.RunEq RR qV hkH obL 10000 looseL (w.withFollow "special-get-raises" false) := run_of (run1F w) (run2F w) (run3F w) (run4F w) (run5F w)
theorem runT (w : World) : HandSHeadRun.RunEq RR qV hkH obL 10000 looseL (w.withFollow "special-get-raises" true) := run_of (run1T w) (run2T w) (run3T w) (run4T w) (run5T w)
theorem run (w : World) : HandSHeadRun.RunEq RR qV hkH obL 10000 looseL w := byRow2 "special-get-raises" runF runT w
end Bh

/-! A board in plain words. -/
namespace Bh
open PySem PySem.Spec PyProof.Rows L2
structure Bd where
  a : Int
  b : Int
  pc : Int
  sp : Int
  zero : Bool
  lets : Bool
  asleep : Bool
  beat : Int
  sent : List (Int × Int)
  mem : List Int
  line : List (Int × Int)
  la : Nat
  stop : Option (Str × List Int)
  tv : V
  dv : V
  ma : Addr
  sa : Addr
  sw : List Int
  bend : Int
def rd (m : List Int) (i : Int) : Int := m.getD i.toNat 0
def stM (m : List Int) (i : Int) (v : Int) : List Int := m.set i.toNat v
def takeLineM (v : Int) (m : List Int) : List Int := if rd m 772 % 2 < v % 2 then stM (stM m 772 v) 770 (Builtin.bitOr (rd (stM m 772 v) 770) 2) else stM m 772 v
def goTimerM (m : List Int) : List Int := if rd m 769 = 0 then m else if rd m 769 ≤ rd m 768 + 1 then stM (stM m 770 (Builtin.bitOr (rd m 770) 1)) 768 0 else stM m 768 (rd m 768 + 1)
def putMM (a v : Int) (m : List Int) : List Int := if a = 770 then stM m 770 (Builtin.bitAnd (rd m 770) (65535 - v)) else stM m a v
def comeM (x : Bd) : Bd := if x.la < x.line.length ∧ (x.line.getD x.la (0, 0)).1 = x.beat then { x with mem := takeLineM (x.line.getD x.la (0, 0)).2 x.mem, la := x.la + 1 } else x
def passOneM (x : Bd) : Bd := { comeM { x with beat := x.beat + 1 } with mem := goTimerM (comeM { x with beat := x.beat + 1 }).mem }
def passM : Nat → Bd → Bd
  | 0, x => x
  | n + 1, x => passM n (passOneM x)
def sendM (a v : Int) (x : Bd) : Bd := if a = 773 then { x with sent := x.sent ++ [(x.beat, v)] } else x
def putWM (a v : Int) (x : Bd) : Bd := { sendM a v x with mem := putMM a v x.mem }
/-- put as a turn does: what stands there is then the own word -/
def putTM (a v : Int) (x : Bd) : Bd := putWM a v { x with sw := x.sw.filter fun i => decide (i ≠ a) }
def giveM (v : Int) (x : Bd) : Bd := { x with a := v, zero := decide (v = 0) }
/-- what a deed does, its words read; pc leads behind it already -/
def doM (op : Nat) (n : Int) (ws : List Int) (x : Bd) : Bd :=
  match op with
  | 1 => giveM n x
  | 2 => giveM (ws.getD 0 0) x
  | 3 => putTM n x.a x
  | 4 => giveM ((x.a + ws.getD 0 0) % 65536) x
  | 5 => giveM ((x.a - ws.getD 0 0) % 65536) x
  | 6 => giveM (Builtin.bitAnd x.a (ws.getD 0 0)) x
  | 7 => giveM (Builtin.bitXor x.a (ws.getD 0 0)) x
  | 8 => giveM (ws.getD 0 0) x
  | 9 => putTM (n + x.b) x.a x
  | 10 => { x with b := x.a }
  | 11 => { giveM x.b x with b := x.a }
  | 12 => { x with pc := n }
  | 13 => if x.zero = true then { x with pc := n } else x
  | 14 => if 32768 ≤ x.a then { x with pc := n } else x
  | 15 => { putTM x.sp x.pc x with sp := x.sp - 1, pc := n }
  | 16 => { x with sp := x.sp + 1, pc := ws.getD 0 0 }
  | 17 => { putTM x.sp x.a x with sp := x.sp - 1 }
  | 18 => giveM (ws.getD 0 0) { x with sp := x.sp + 1 }
  | 19 => { x with asleep := true }
  | 20 => { x with lets := decide (n % 2 = 1) }
  | 21 => { x with sp := x.sp + 2, zero := decide (ws.getD 0 0 % 2 = 1), pc := ws.getD 1 0, lets := true }
  | 22 => giveM (x.a / 2) x
  | _ => x
/-- what a deed reads (false) and puts (true) -/
def touM (op : Nat) (n b sp : Int) : List (Bool × Int) :=
  match op with
  | 2 => [(false, n)]
  | 3 => [(true, n)]
  | 4 => [(false, n)]
  | 5 => [(false, n)]
  | 6 => [(false, n)]
  | 7 => [(false, n)]
  | 8 => [(false, n + b)]
  | 9 => [(true, n + b)]
  | 15 => [(true, sp)]
  | 16 => [(false, sp + 1)]
  | 17 => [(true, sp)]
  | 18 => [(false, sp + 1)]
  | 21 => [(false, sp + 1), (false, sp + 2)]
  | _ => []
/-- why a word can't be read or put there -/
def barM (t : Bool × Int) : Option Str :=
  if ¬ (0 ≤ t.2 ∧ t.2 < 774) then some "far" else if t.1 = false then none else if t.2 < 512 then some "flash" else if t.2 = 772 then some "still" else none
def firstBad : List (Bool × Int) → Option (Str × Int)
  | [] => none
  | t :: r => match barM t with
    | some w => some (w, t.2)
    | none => firstBad r
/-- what the board reads in a turn at pc: nought where a word is swapped, but at pc -/
def rdS (m sw : List Int) (i pc : Int) : Int := if i ∈ sw ∧ i ≠ pc then 0 else rd m i
def readsM (m sw : List Int) (pc : Int) (ts : List (Bool × Int)) : List Int := (ts.filter fun t => !t.1).map fun t => rdS m sw t.2 pc
/-- the first word read comes with some bits turned about -/
def bendW (b : Int) : List Int → List Int
  | [] => []
  | w :: r => Builtin.bitXor w b :: r
def opM (x : Bd) : Nat := (rd x.mem x.pc / 1024).toNat
def xM (x : Bd) : Int := rd x.mem x.pc % 1024
def toM (x : Bd) : List (Bool × Int) := touM (opM x) (xM x) x.b x.sp
/-- the deed at pc, which can be done -/
def rawM (x : Bd) : List Int := readsM x.mem x.sw x.pc (toM x)
def wordsM (x : Bd) : List Int := bendW x.bend (rawM x)
def bentM (x : Bd) : Int := if rawM x = [] then x.bend else 0
def doneM (x : Bd) : Bd := passM (1 + (toM x).length) (doM (opM x) (xM x) (wordsM x) { x with pc := x.pc + 1, bend := bentM x })
def stopAt (w : Str) (ns : List Int) (x : Bd) : Str × Bd := ("stopped", { x with stop := some (w, ns) })
def deedM (x : Bd) : Str × Bd :=
  if ¬ (0 ≤ x.pc ∧ x.pc < 768) then stopAt "far" [x.pc, x.pc] x
  else if 23 ≤ opM x then stopAt "none" [x.pc] x
  else if opM x = 0 then stopAt "mark" [x.pc] x
  else match firstBad (toM x) with
    | some r => stopAt r.1 [x.pc, r.2] x
    | none => ("deed", doneM x)
def calledM (x : Bd) : Int := Builtin.bitAnd (rd x.mem 770) (rd x.mem 771)
def b2n (b : Bool) : Int := if b = true then 1 else 0
def begunM (x : Bd) : Bd :=
  let y := putTM (x.sp - 1) (b2n x.zero) (putTM x.sp x.pc x)
  passM 3 { y with sp := x.sp - 2, lets := false, pc := if Builtin.bitAnd (calledM x) 1 ≠ 0 then 1 else 2 }
def intM (x : Bd) : Str × Bd :=
  match firstBad [(true, x.sp), (true, x.sp - 1)] with
  | some r => stopAt r.1 [x.pc, r.2] x
  | none => ("interrupt", begunM x)
def turnM (x : Bd) : Str × Bd :=
  if x.stop ≠ none then ("stopped", x)
  else if x.asleep = true ∧ calledM x = 0 then ("asleep", passM 1 x)
  else if x.lets = true ∧ calledM x ≠ 0 then intM { x with asleep := false }
  else deedM { x with asleep := false }
/-- with other things in the fields touched and did -/
def Bd.tvd (x : Bd) (T D : V) : Bd := { x with tv := T, dv := D }
theorem tvd_come (x : Bd) (T D : V) : comeM (x.tvd T D) = (comeM x).tvd T D := by
  unfold comeM
  show (if x.la < x.line.length ∧ (x.line.getD x.la (0, 0)).1 = x.beat then _ else _) = Bd.tvd (if x.la < x.line.length ∧ (x.line.getD x.la (0, 0)).1 = x.beat then _ else _) T D
  split <;> rfl
theorem tvd_one (x : Bd) (T D : V) : passOneM (x.tvd T D) = (passOneM x).tvd T D := by
  have h := tvd_come { x with beat := x.beat + 1 } T D
  unfold passOneM
  show { comeM (Bd.tvd { x with beat := x.beat + 1 } T D) with mem := goTimerM (comeM (Bd.tvd { x with beat := x.beat + 1 } T D)).mem } = _
  rw [h]
  rfl
theorem tvd_pass : ∀ (n : Nat) (x : Bd) (T D : V), passM n (x.tvd T D) = (passM n x).tvd T D
  | 0, _, _, _ => rfl
  | n + 1, x, T, D => by
    show passM n (passOneM (x.tvd T D)) = (passM n (passOneM x)).tvd T D
    rw [tvd_one, tvd_pass n]
theorem tvd_put (a v : Int) (x : Bd) (T D : V) : putWM a v (x.tvd T D) = (putWM a v x).tvd T D := by
  unfold putWM sendM
  split <;> rfl
theorem tvd_putT (a v : Int) (x : Bd) (T D : V) : putTM a v (x.tvd T D) = (putTM a v x).tvd T D := tvd_put a v { x with sw := x.sw.filter fun i => decide (i ≠ a) } T D
theorem tvd_do (op : Nat) (n : Int) (ws : List Int) (x : Bd) (T D : V) : doM op n ws (x.tvd T D) = (doM op n ws x).tvd T D := by
  unfold doM
  split
  all_goals first
    | rfl
    | (show putTM _ _ (x.tvd T D) = _; rw [tvd_putT]; rfl)
    | (show { putTM x.sp x.pc (x.tvd T D) with sp := x.sp - 1, pc := n } = _; rw [tvd_putT]; rfl)
    | (show { putTM x.sp x.a (x.tvd T D) with sp := x.sp - 1 } = _; rw [tvd_putT]; rfl)
    | (show (if x.zero = true then _ else _) = Bd.tvd (if x.zero = true then _ else _) T D; split <;> rfl)
    | (show (if 32768 ≤ x.a then _ else _) = Bd.tvd (if 32768 ≤ x.a then _ else _) T D; split <;> rfl)
theorem tvd_done (x : Bd) (T D : V) : doneM (x.tvd T D) = (doneM x).tvd T D := by
  show passM (1 + (toM x).length) (doM (opM x) (xM x) (wordsM x) (Bd.tvd { x with pc := x.pc + 1, bend := bentM x } T D)) = (passM (1 + (toM x).length) (doM (opM x) (xM x) (wordsM x) { x with pc := x.pc + 1, bend := bentM x })).tvd T D
  rw [tvd_do, tvd_pass]
theorem tvd_begun (x : Bd) (T D : V) : begunM (x.tvd T D) = (begunM x).tvd T D := by
  show passM 3 { putTM (x.sp - 1) (b2n x.zero) (putTM x.sp x.pc (x.tvd T D)) with sp := x.sp - 2, lets := false, pc := if Builtin.bitAnd (calledM x) 1 ≠ 0 then 1 else 2 } = _
  rw [tvd_putT, tvd_putT]
  exact tvd_pass 3 { putTM (x.sp - 1) (b2n x.zero) (putTM x.sp x.pc x) with sp := x.sp - 2, lets := false, pc := if Builtin.bitAnd (calledM x) 1 ≠ 0 then 1 else 2 } T D
theorem deed_cases (x : Bd) : (∃ w ns, deedM x = (("stopped" : Str), { x with stop := some (w, ns) })) ∨ deedM x = (("deed" : Str), doneM x) := by
  unfold deedM
  split
  · exact .inl ⟨_, _, rfl⟩
  · split
    · exact .inl ⟨_, _, rfl⟩
    · split
      · exact .inl ⟨_, _, rfl⟩
      · split
        · exact .inl ⟨_, _, rfl⟩
        · exact .inr rfl
theorem tvd_deed (x : Bd) (T D : V) : deedM (x.tvd T D) = ((deedM x).1, (deedM x).2.tvd T D) := by
  unfold deedM
  show (if ¬ (0 ≤ x.pc ∧ x.pc < 768) then _ else if 23 ≤ opM x then _ else if opM x = 0 then _ else match firstBad (toM x) with
    | some r => _
    | none => _) = _
  split
  · rfl
  · split
    · rfl
    · split
      · rfl
      · split
        · rfl
        · rw [tvd_done]
theorem tvd_int (x : Bd) (T D : V) : intM (x.tvd T D) = ((intM x).1, (intM x).2.tvd T D) := by
  unfold intM
  show (match firstBad [(true, x.sp), (true, x.sp - 1)] with
    | some r => _
    | none => _) = _
  split
  · rfl
  · rw [tvd_begun]
theorem tvd_turn (x : Bd) (T D : V) : turnM (x.tvd T D) = ((turnM x).1, (turnM x).2.tvd T D) := by
  unfold turnM
  show (if x.stop ≠ none then _ else if x.asleep = true ∧ calledM x = 0 then (("asleep" : Str), passM 1 (x.tvd T D)) else if x.lets = true ∧ calledM x ≠ 0 then intM (Bd.tvd { x with asleep := false } T D) else deedM (Bd.tvd { x with asleep := false } T D)) = _
  split
  · rfl
  · split
    · rw [tvd_pass]
    · split
      · rw [tvd_int]
      · rw [tvd_deed]
theorem firstBad_cons (t : Bool × Int) (r : List (Bool × Int)) : firstBad (t :: r) = match barM t with
    | some w => some (w, t.2)
    | none => firstBad r := rfl
theorem barM_ok {t : Bool × Int} (h : barM t = none) : 0 ≤ t.2 ∧ t.2 < 774 := by
  unfold barM at h
  split at h
  · cases h
  · rename_i z
    exact Classical.not_not.mp z
theorem firstBad_ok : ∀ {ts : List (Bool × Int)}, firstBad ts = none → ∀ t ∈ ts, barM t = none
  | [], _, _, h => by cases h
  | t :: r, h, u, hu => by
    unfold firstBad at h
    cases e : barM t with
    | some w => rw [e] at h; cases h
    | none =>
      rw [e] at h
      rcases List.mem_cons.mp hu with rfl | h2
      · exact e
      · exact firstBad_ok h u h2
theorem touM_len (op : Nat) (n b sp : Int) : (touM op n b sp).length ≤ 2 := by
  unfold touM
  split <;> first | exact Nat.le_succ _ | exact Nat.le_refl _ | exact Nat.zero_le _
theorem stM_len (m : List Int) (i v : Int) : (stM m i v).length = m.length := List.length_set
theorem takeLineM_len (v : Int) (m : List Int) : (takeLineM v m).length = m.length := by
  unfold takeLineM
  split
  · rw [stM_len, stM_len]
  · rw [stM_len]
theorem goTimerM_len (m : List Int) : (goTimerM m).length = m.length := by
  unfold goTimerM
  split
  · rfl
  · split
    · rw [stM_len, stM_len]
    · rw [stM_len]
theorem putMM_len (a v : Int) (m : List Int) : (putMM a v m).length = m.length := by
  unfold putMM
  split
  · rw [stM_len]
  · rw [stM_len]
theorem atI_rd {m : List Int} {i : Int} (h0 : 0 ≤ i) (h1 : i < m.length) : atI (m.map V.int) i = some (.int (rd m i)) := by
  have hj : i.toNat < m.length := by omega
  have e : i = ((i.toNat : Nat) : Int) := (Int.toNat_of_nonneg h0).symm
  have q : atI (m.map V.int) ((i.toNat : Nat) : Int) = some (.int (rd m i)) := atI_nat (by
    unfold rd
    rw [List.getElem?_map, List.getElem?_eq_getElem hj, List.getD_eq_getElem?_getD, List.getElem?_eq_getElem hj]
    rfl)
  rw [← e] at q
  exact q
theorem ixN_in {n : Nat} {i : Int} (h0 : 0 ≤ i) (h1 : i < n) : ixN n i = some i.toNat := by
  unfold ixN
  rw [if_pos h0, if_pos h1]
theorem set_map (m : List Int) (i v : Int) : (m.map V.int).set i.toNat (.int v) = (stM m i v).map V.int := by
  unfold stM
  rw [List.map_set]
theorem rd_stM_same {m : List Int} {i v : Int} (h0 : 0 ≤ i) (h1 : i < m.length) : rd (stM m i v) i = v := by
  unfold rd stM
  have : i.toNat < m.length := by omega
  rw [List.getD_eq_getElem?_getD, List.getElem?_set_self this]
  rfl
theorem rd_stM_ne {m : List Int} {i j v : Int} (h0 : 0 ≤ i) (h1 : 0 ≤ j) (h : i ≠ j) : rd (stM m i v) j = rd m j := by
  unfold rd stM
  rw [List.getD_eq_getElem?_getD, List.getElem?_set_ne (by omega), ← List.getD_eq_getElem?_getD]
end Bh

/-! A board in the heap. -/
namespace Bh
open PySem PySem.Spec PyProof.Rows L2
theorem same_upd' {H : Hp} {p : Addr} {o : HO} (h : H p = none) : Same H (upd H p o) := fun b x e => by
  rw [upd_ne (ne_of_none e h)]
  exact e
theorem same_of {H0 H : Hp} {x : Addr} {o : HO} (sm : Same H0 H) (fx : H0 x = none) : Same H0 (upd H x o) := fun b y e => by
  rw [upd_ne (ne_of_none e fx)]
  exact sm _ _ e
theorem upd_upd {H : Hp} {p : Addr} {o o' : HO} : upd (upd H p o) p o' = upd H p o' := by
  funext b
  by_cases h : b = p
  · subst h
    rw [upd_same, upd_same]
  · rw [upd_ne h, upd_ne h, upd_ne h]
theorem upd_id {H : Hp} {p : Addr} {o : HO} (h : H p = some o) : upd H p o = H := by
  funext b
  by_cases e : b = p
  · subst e
    rw [upd_same, h]
  · rw [upd_ne e]
theorem ifN {c : Bool} {A B : Prop} (h1 : c = false → A) (h2 : c = true → B) : if (!c) = true then A else B := by
  cases c with
  | true => exact h2 rfl
  | false => exact h1 rfl
theorem ifJ {c : Bool} {A B : Prop} (h1 : B) (h2 : c = true → B → A) : if c = true then A else B := by
  cases c with
  | true => exact h2 rfl h1
  | false => exact h1
theorem ifB {c : Bool} {A B : Prop} (h1 : c = true → A) (h2 : c = false → B) : if c = true then A else B := by
  cases c with
  | true => exact h1 rfl
  | false => exact h2 rfl
section
variable {X : Cx}
theorem pgI {x : Str} {n : Int} {t : Tok} {pos : Pos} (hm : X.mg x = some (.int n t)) (hg : Gl X x := by rfl) (hd : (x == ("__debug__" : Str)) = false := by decide) : PE X (.Name x pos) (tC (.int n)) := pe_glob (v := .int n) hg hm ⟨t, rfl⟩ hd
theorem pgR {x : Str} {a : Addr} {pos : Pos} (hm : X.mg x = some (.ref a)) (hg : Gl X x := by rfl) (hd : (x == ("__debug__" : Str)) = false := by decide) : PE X (.Name x pos) (tC (.ref a)) := pe_glob (v := .ref a) hg hm rfl hd
theorem ix_listK {K : PySem.W.Frag} (h : X.K = K := by rfl) : IxR X (rIxL K) := by
  subst h
  exact ix_list
theorem ix_tupK {K : PySem.W.Frag} (h : X.K = K := by rfl) : IxR X (rIxT K) := by
  subst h
  exact ix_tup
end
theorem gtK {X : Cx} {K : PySem.W.Frag} {n : Nat} {es : List Expr} {k : Nat} {pos : Pos} {t : TGs} (hK : X.K = K) (hc : X.calm = true) (h : PGs X es t) (hn : (assignEach es X.env).length = n) (hst : (assignEach es X.env).findIdx? (·.1) = none) : PG X (.Tuple es k pos) (gTup K n t) := by
  subst hK
  subst hn
  exact pg_tup hc h rfl hst
theorem pe_fldK {X : Cx} {K : PySem.W.Frag} {e : Expr} {f : Str} {pos : Pos} {ta : TE} (hK : X.K = K) (he : PE X e ta) (hb : attributeBase e f X.env (eval e X.env) = eval e X.env) : PE X (.Attribute e f pos) (tFld K ta f) := by
  subst hK
  exact pe_fld he hb
section
variable (P : Program) (w : World) (K : PySem.W.Frag) (mg : Str → Option Value) (base : Heap)
/-- a def that may be called by its name -/
structure CalF (k : Nat) (nm : Str) (ps : List Str) (sp : Sp) (f : Addr) (fd : FuncData) : Prop where
  g : mg nm = some (.ref f)
  kp : PySem.W.keepIn K (.ref f) = true
  b : Binds K fd ps []
  G : FnOk P w K mg base CX0 k f fd ps sp
structure CalM (C : Addr) (k : Nat) (nm : Str) (ps : List Str) (sp : Sp) (f : Addr) (fd : FuncData) : Prop where
  c : Cls K C
  m : Meth K C nm f
  b : Binds K fd ps []
  G : FnOk P w K mg base CX0 k f fd ps sp
/-- a class that may be called by its name -/
structure CalC (C : Addr) (k : Nat) (nm : Str) (ps : List Str) (sp : Sp) (f : Addr) (fd : FuncData) : Prop where
  M : Mk K C f
  g : mg nm = some (.ref C)
  b : Binds K fd ps []
  I : FnOk P w K mg base CX0 k f fd ps sp
end
/-! ### fields -/
def bdF (r t m l : Addr) (z le as : Bool) (bt : Int) (sv : V) (la : Nat) (tv dv : V) (bn : Int) : List (Str × V) :=
  [("registers", .ref r), ("zero", .bl z), ("lets", .bl le), ("asleep", .bl as), ("beat", .int bt), ("stopped", sv), ("sent", .ref t), ("memory", .ref m), ("line", .ref l), ("line_at", .int (la : Int)), ("touched", tv), ("did", dv), ("bend", .int bn)]
def mmF (w s : Addr) : List (Str × V) := [("words", .ref w), ("swapped", .ref s)]
section
variable {r t m l w s s' w' : Addr} {z le as z' : Bool} {bt bt' bn bn' : Int} {la : Nat} {sv tv dv v : V}
theorem bF_reg : (bdF r t m l z le as bt sv la tv dv bn).lookup ("registers" : Str) = some (.ref r) := by kernel_rfl
theorem bF_zero : (bdF r t m l z le as bt sv la tv dv bn).lookup ("zero" : Str) = some (.bl z) := by kernel_rfl
theorem bF_lets : (bdF r t m l z le as bt sv la tv dv bn).lookup ("lets" : Str) = some (.bl le) := by kernel_rfl
theorem bF_asleep : (bdF r t m l z le as bt sv la tv dv bn).lookup ("asleep" : Str) = some (.bl as) := by kernel_rfl
theorem bF_beat : (bdF r t m l z le as bt sv la tv dv bn).lookup ("beat" : Str) = some (.int bt) := by kernel_rfl
theorem bF_stop : (bdF r t m l z le as bt sv la tv dv bn).lookup ("stopped" : Str) = some sv := by kernel_rfl
theorem bF_sent : (bdF r t m l z le as bt sv la tv dv bn).lookup ("sent" : Str) = some (.ref t) := by kernel_rfl
theorem bF_mem : (bdF r t m l z le as bt sv la tv dv bn).lookup ("memory" : Str) = some (.ref m) := by kernel_rfl
theorem bF_line : (bdF r t m l z le as bt sv la tv dv bn).lookup ("line" : Str) = some (.ref l) := by kernel_rfl
theorem bF_la : (bdF r t m l z le as bt sv la tv dv bn).lookup ("line_at" : Str) = some (.int (la : Int)) := by kernel_rfl
theorem bF_bend : (bdF r t m l z le as bt sv la tv dv bn).lookup ("bend" : Str) = some (.int bn) := by kernel_rfl
theorem bP_bend : putF "bend" (.int bn') (bdF r t m l z le as bt sv la tv dv bn) = bdF r t m l z le as bt sv la tv dv bn' := by kernel_rfl
theorem bP_zero : putF "zero" (.bl z') (bdF r t m l z le as bt sv la tv dv bn) = bdF r t m l z' le as bt sv la tv dv bn := by kernel_rfl
theorem bP_lets : putF "lets" (.bl z') (bdF r t m l z le as bt sv la tv dv bn) = bdF r t m l z z' as bt sv la tv dv bn := by kernel_rfl
theorem bP_asleep : putF "asleep" (.bl z') (bdF r t m l z le as bt sv la tv dv bn) = bdF r t m l z le z' bt sv la tv dv bn := by kernel_rfl
theorem bP_beat : putF "beat" (.int bt') (bdF r t m l z le as bt sv la tv dv bn) = bdF r t m l z le as bt' sv la tv dv bn := by kernel_rfl
theorem bP_la {n : Nat} : putF "line_at" (.int ((la : Int) + 1)) (bdF r t m l z le as bt sv la tv dv bn) = bdF r t m l z le as bt sv (la + 1) tv dv bn := by kernel_rfl
theorem bP_stop : putF "stopped" v (bdF r t m l z le as bt sv la tv dv bn) = bdF r t m l z le as bt v la tv dv bn := by kernel_rfl
theorem bP_tou : putF "touched" v (bdF r t m l z le as bt sv la tv dv bn) = bdF r t m l z le as bt sv la v dv bn := by kernel_rfl
theorem bP_did : putF "did" v (bdF r t m l z le as bt sv la tv dv bn) = bdF r t m l z le as bt sv la tv v bn := by kernel_rfl
theorem bP_reg : putF "registers" (.ref s) (bdF r t m l z le as bt sv la tv dv bn) = bdF s t m l z le as bt sv la tv dv bn := by kernel_rfl
theorem bP_sent : putF "sent" (.ref s) (bdF r t m l z le as bt sv la tv dv bn) = bdF r s m l z le as bt sv la tv dv bn := by kernel_rfl
theorem bP_la' {n : Nat} : putF "line_at" (.int (n : Int)) (bdF r t m l z le as bt sv la tv dv bn) = bdF r t m l z le as bt sv n tv dv bn := by kernel_rfl
theorem bN_twin : (bdF r t m l z le as bt sv la tv dv bn).lookup ("twin" : Str) = none := by kernel_rfl
theorem bN_stand_as : (bdF r t m l z le as bt sv la tv dv bn).lookup ("stand_as" : Str) = none := by kernel_rfl
theorem bN_lose : (bdF r t m l z le as bt sv la tv dv bn).lookup ("lose_power" : Str) = none := by kernel_rfl
theorem bF_len : (bdF r t m l z le as bt sv la tv dv bn).length = 13 := rfl
theorem mF_w : (mmF w s).lookup ("words" : Str) = some (.ref w) := by kernel_rfl
theorem mF_s : (mmF w s).lookup ("swapped" : Str) = some (.ref s) := by kernel_rfl
theorem bN_coming : (bdF r t m l z le as bt sv la tv dv bn).lookup ("coming" : Str) = none := by kernel_rfl
theorem bN_do : (bdF r t m l z le as bt sv la tv dv bn).lookup ("do_deed" : Str) = none := by kernel_rfl
theorem bN_may : (bdF r t m l z le as bt sv la tv dv bn).lookup ("may_touch" : Str) = none := by kernel_rfl
theorem bN_pbt : (bdF r t m l z le as bt sv la tv dv bn).lookup ("put_by_turn" : Str) = none := by kernel_rfl
theorem bN_pw : (bdF r t m l z le as bt sv la tv dv bn).lookup ("put_word" : Str) = none := by kernel_rfl
theorem bN_pass : (bdF r t m l z le as bt sv la tv dv bn).lookup ("pass_beats" : Str) = none := by kernel_rfl
theorem bN_come : (bdF r t m l z le as bt sv la tv dv bn).lookup ("come_line" : Str) = none := by kernel_rfl
theorem bN_begin : (bdF r t m l z le as bt sv la tv dv bn).lookup ("begin_interrupt" : Str) = none := by kernel_rfl
theorem bN_stop : (bdF r t m l z le as bt sv la tv dv bn).lookup ("stop" : Str) = none := by kernel_rfl
theorem bN_turn : (bdF r t m l z le as bt sv la tv dv bn).lookup ("turn" : Str) = none := by kernel_rfl
theorem mP_w : putF "words" (.ref w') (mmF w s) = mmF w' s := by kernel_rfl
theorem mP_s : putF "swapped" (.ref s') (mmF w s) = mmF w s' := by kernel_rfl
theorem mF_len : (mmF w s).length = 2 := rfl
theorem mN_turn_bit : (mmF w s).lookup ("turn_bit" : Str) = none := by kernel_rfl
theorem mN_lose : (mmF w s).lookup ("lose_power" : Str) = none := by kernel_rfl
theorem mN_stand_as : (mmF w s).lookup ("stand_as" : Str) = none := by kernel_rfl
theorem mN_at : (mmF w s).lookup ("word_at" : Str) = none := by kernel_rfl
theorem mN_read : (mmF w s).lookup ("read" : Str) = none := by kernel_rfl
theorem mN_put : (mmF w s).lookup ("put" : Str) = none := by kernel_rfl
theorem mN_called : (mmF w s).lookup ("called_flags" : Str) = none := by kernel_rfl
theorem mN_take : (mmF w s).lookup ("take_line" : Str) = none := by kernel_rfl
theorem mN_timer : (mmF w s).lookup ("go_timer" : Str) = none := by kernel_rfl
end
def regD (a b pc sp : Int) : List (Key × V) := [(Sum.inr "a", .int a), (Sum.inr "b", .int b), (Sum.inr "pc", .int pc), (Sum.inr "sp", .int sp)]
section
variable {a b pc sp v : Int}
theorem rG_a : valV (regD a b pc sp) (Sum.inr "a") = some (.int a) := by kernel_rfl
theorem rG_b : valV (regD a b pc sp) (Sum.inr "b") = some (.int b) := by kernel_rfl
theorem rG_pc : valV (regD a b pc sp) (Sum.inr "pc") = some (.int pc) := by kernel_rfl
theorem rG_sp : valV (regD a b pc sp) (Sum.inr "sp") = some (.int sp) := by kernel_rfl
theorem rP_a : putK (regD a b pc sp) (Sum.inr "a") (.int v) = regD v b pc sp := by kernel_rfl
theorem rP_b : putK (regD a b pc sp) (Sum.inr "b") (.int v) = regD a v pc sp := by kernel_rfl
theorem rP_pc : putK (regD a b pc sp) (Sum.inr "pc") (.int v) = regD a b v sp := by kernel_rfl
theorem rP_sp : putK (regD a b pc sp) (Sum.inr "sp") (.int v) = regD a b pc v := by kernel_rfl
end
/-! ### lists of tuples -/
def TupsAt (H : Hp) : List V → List (Int × Int) → Prop := Paired fun v u => ∃ t, v = .ref t ∧ H t = some (.tup [.int u.1, .int u.2])
theorem TupsAt.mono {H H' : Hp} (k : ∀ t xs, H t = some (.tup xs) → H' t = some (.tup xs)) : ∀ {us : List V} {ls : List (Int × Int)}, TupsAt H us ls → TupsAt H' us ls
  | _, _, .nil => .nil
  | _, _, .cons h r => .cons (let ⟨t, e, q⟩ := h; ⟨t, e, k _ _ q⟩) (TupsAt.mono k r)
theorem TupsAt.snoc {H : Hp} {t : Addr} {u : Int × Int} (ht : H t = some (.tup [.int u.1, .int u.2])) : ∀ {us : List V} {ls : List (Int × Int)}, TupsAt H us ls → TupsAt H (us ++ [.ref t]) (ls ++ [u])
  | _, _, .nil => .cons ⟨t, rfl, ht⟩ .nil
  | _, _, .cons h r => .cons h (TupsAt.snoc ht r)
theorem TupsAt.len {H : Hp} : ∀ {us : List V} {ls : List (Int × Int)}, TupsAt H us ls → us.length = ls.length
  | _, _, .nil => rfl
  | _, _, .cons _ r => by rw [List.length_cons, List.length_cons, TupsAt.len r]
theorem TupsAt.get {H : Hp} : ∀ {us : List V} {ls : List (Int × Int)} {i : Nat}, TupsAt H us ls → i < ls.length → ∃ t, us[i]? = some (.ref t) ∧ H t = some (.tup [.int (ls.getD i (0, 0)).1, .int (ls.getD i (0, 0)).2])
  | _, _, _, .nil, h => by cases h
  | _, _, 0, .cons h r, _ => by
    obtain ⟨t, rfl, q⟩ := h
    exact ⟨t, rfl, q⟩
  | _, _, i + 1, .cons h r, hi => by
    obtain ⟨t, e1, e2⟩ := TupsAt.get (i := i) r (by rw [List.length_cons] at hi; omega)
    exact ⟨t, by rw [List.getElem?_cons_succ]; exact e1, by rw [List.getD_cons_succ]; exact e2⟩
/-! ### the board -/
structure Ad where
  dx : Addr
  r : Addr
  m : Addr
  dm : Addr
  w : Addr
  s : Addr
  t : Addr
  l : Addr
def StopAt (H : Hp) (v : V) : Option (Str × List Int) → Prop
  | none => v = .non
  | some r => ∃ q, v = .ref q ∧ H q = some (.tup (.str r.1 :: r.2.map V.int))
theorem StopAt.mono {H H' : Hp} (k : ∀ t xs, H t = some (.tup xs) → H' t = some (.tup xs)) {v : V} : ∀ {o : Option (Str × List Int)}, StopAt H v o → StopAt H' v o
  | none, h => h
  | some r, ⟨q, e, h⟩ => ⟨q, e, k _ _ h⟩
/-- the stop, and what stands in the fields touched and did -/
def OthAt (H : Hp) (sv tv dv : V) (so : Option (Str × List Int)) (tx dx : V) : Prop := StopAt H sv so ∧ tv = tx ∧ dv = dx
theorem OthAt.mono {H H' : Hp} (k : ∀ t xs, H t = some (.tup xs) → H' t = some (.tup xs)) {sv tv dv tx dx : V} {so : Option (Str × List Int)} (h : OthAt H sv tv dv so tx dx) : OthAt H' sv tv dv so tx dx := ⟨h.1.mono k, h.2⟩
theorem OthAt.mono' {H H' : Hp} {sv tv dv tx dx : V} {so : Option (Str × List Int)} (h : OthAt H sv tv dv so tx dx) (k : ∀ t xs, H t = some (.tup xs) → H' t = some (.tup xs)) : OthAt H' sv tv dv so tx dx := ⟨h.1.mono k, h.2⟩
/-- the swapped words: a dict, the addresses its keys -/
def swD (l : List Int) : List (Key × V) := l.map fun i => (Sum.inl i, V.bl true)
theorem swD_some (i : Int) : ∀ l : List Int, (valV (swD l) (Sum.inl i)).isSome = decide (i ∈ l)
  | [] => rfl
  | a :: r => by
    by_cases h : a = i
    · rw [show swD (a :: r) = (Sum.inl a, V.bl true) :: swD r from rfl, valV_pos (congrArg Sum.inl h), decide_eq_true (by rw [h]; exact List.mem_cons_self)]
      rfl
    · rw [show swD (a :: r) = (Sum.inl a, V.bl true) :: swD r from rfl, valV_neg (fun z => h (Sum.inl.inj z)), swD_some i r]
      by_cases h2 : i ∈ r
      · rw [decide_eq_true h2, decide_eq_true (List.mem_cons_of_mem _ h2)]
      · rw [decide_eq_false h2, decide_eq_false (fun z => (List.mem_cons.mp z).elim (fun q => h q.symm) h2)]
theorem swD_drop (i : Int) (l : List Int) : dropK (swD l) (Sum.inl i) = swD (l.filter fun a => decide (a ≠ i)) := by
  unfold dropK swD
  rw [List.filter_map]
  congr 1
  apply List.filter_congr
  intro a _
  show decide ((Sum.inl a : Key) ≠ Sum.inl i) = decide (a ≠ i)
  by_cases h : a = i <;> simp [h]
theorem swD_put {i : Int} {l : List Int} (h : i ∉ l) : putK (swD l) (Sum.inl i) (.bl true) = swD (l ++ [i]) := by
  unfold putK
  have e : (swD l).any (fun kv => decide (kv.1 = Sum.inl i)) = false := by
    rw [List.any_eq_false]
    intro kv hk
    obtain ⟨a, ha, rfl⟩ := List.mem_map.mp hk
    intro z
    have z : Sum.inl a = (Sum.inl i : Key) := of_decide_eq_true z
    exact h (Sum.inl.inj z ▸ ha)
  rw [e, if_neg Bool.false_ne_true]
  unfold swD
  rw [List.map_append]
  rfl
theorem swD_len (l : List Int) : (swD l).length = l.length := List.length_map ..
structure Bp (CB CM : Addr) (H0 H : Hp) (p : Addr) (A : Ad) (ts ls : List V) (x : Bd) : Prop where
  sm : Same H0 H
  fp : H0 p = none
  fr : H0 A.r = none
  fw : H0 A.w = none
  ft : H0 A.t = none
  fm : H0 A.m = none
  fs : H0 A.s = none
  fl : H0 A.l = none
  hp : ∃ sv tv dv, H p = some (.ins CB A.dx (bdF A.r A.t A.m A.l x.zero x.lets x.asleep x.beat sv x.la tv dv x.bend)) ∧ OthAt H sv tv dv x.stop x.tv x.dv
  hr : H A.r = some (.dK (regD x.a x.b x.pc x.sp))
  hm : H A.m = some (.ins CM A.dm (mmF A.w A.s))
  hw : H A.w = some (.lst (x.mem.map V.int))
  hs : H A.s = some (.dK (swD x.sw))
  ht : H A.t = some (.lst ts)
  hl : H A.l = some (.lst ls)
  pm : p ≠ A.m
  rs : A.r ≠ A.s
  wt : A.w ≠ A.t
  wl : A.w ≠ A.l
  tl : A.t ≠ A.l
  am : A.m = x.ma
  us : TupsAt H ts x.sent
  ll : TupsAt H ls x.line
  lm : x.mem.length = 774
def BoardAt (CB CM : Addr) (H0 H : Hp) (p : Addr) (x : Bd) : Prop := ∃ A ts ls, Bp CB CM H0 H p A ts ls x
section
variable {CB CM p : Addr} {H0 H : Hp} {A : Ad} {ts ls : List V} {x : Bd}
theorem Bp.more (h : Bp CB CM H0 H p A ts ls x) {q : Addr} {o : HO} (hq : H q = none) : Bp CB CM H0 (upd H q o) p A ts ls x where
  sm := h.sm.trans (same_upd' hq)
  fp := h.fp
  fr := h.fr
  fw := h.fw
  ft := h.ft
  fm := h.fm
  fs := h.fs
  fl := h.fl
  hp := let ⟨sv, tv, dv, e, z⟩ := h.hp; ⟨sv, tv, dv, same_upd' hq _ _ e, z.mono fun t xs e => same_upd' hq _ _ e⟩
  hr := same_upd' hq _ _ h.hr
  hm := same_upd' hq _ _ h.hm
  hw := same_upd' hq _ _ h.hw
  hs := same_upd' hq _ _ h.hs
  ht := same_upd' hq _ _ h.ht
  hl := same_upd' hq _ _ h.hl
  pm := h.pm
  rs := h.rs
  wt := h.wt
  wl := h.wl
  tl := h.tl
  am := h.am
  us := h.us.mono fun t xs e => same_upd' hq _ _ e
  ll := h.ll.mono fun t xs e => same_upd' hq _ _ e
  lm := h.lm
/-- its object changes -/
theorem Bp.fld (h : Bp CB CM H0 H p A ts ls x) {z le as : Bool} {bt : Int} {sv : V} {la : Nat} {tv dv : V} {so : Option (Str × List Int)} {tx dx : V} (hso : OthAt H sv tv dv so tx dx) : Bp CB CM H0 (upd H p (.ins CB A.dx (bdF A.r A.t A.m A.l z le as bt sv la tv dv x.bend))) p A ts ls { x with zero := z, lets := le, asleep := as, beat := bt, la := la, stop := so, tv := tx, dv := dx } := by
  obtain ⟨sv0, tv0, dv0, hp, hz⟩ := h.hp
  exact {
    sm := same_of h.sm h.fp
    fp := h.fp
    fr := h.fr
    fw := h.fw
    ft := h.ft
    fm := h.fm
    fs := h.fs
    fl := h.fl
    hp := ⟨sv, tv, dv, upd_same, hso.mono fun t xs e => by rw [upd_ne (ne_of e hp (by intro q; cases q))]; exact e⟩
    hr := by rw [upd_ne (ne_of h.hr hp (by intro q; cases q))]; exact h.hr
    hm := by rw [upd_ne h.pm.symm]; exact h.hm
    hw := by rw [upd_ne (ne_of h.hw hp (by intro q; cases q))]; exact h.hw
    hs := by rw [upd_ne (ne_of h.hs hp (by intro q; cases q))]; exact h.hs
    ht := by rw [upd_ne (ne_of h.ht hp (by intro q; cases q))]; exact h.ht
    hl := by rw [upd_ne (ne_of h.hl hp (by intro q; cases q))]; exact h.hl
    pm := h.pm
    rs := h.rs
    wt := h.wt
    wl := h.wl
    tl := h.tl
    am := h.am
    us := h.us.mono fun t xs e => by rw [upd_ne (ne_of e hp (by intro q; cases q))]; exact e
    ll := h.ll.mono fun t xs e => by rw [upd_ne (ne_of e hp (by intro q; cases q))]; exact e
    lm := h.lm }
theorem Bp.regs (h : Bp CB CM H0 H p A ts ls x) {a b pc sp : Int} : Bp CB CM H0 (upd H A.r (.dK (regD a b pc sp))) p A ts ls { x with a := a, b := b, pc := pc, sp := sp } := by
  obtain ⟨sv0, tv0, dv0, hp, hz⟩ := h.hp
  exact {
    sm := same_of h.sm h.fr
    fp := h.fp
    fr := h.fr
    fw := h.fw
    ft := h.ft
    fm := h.fm
    fs := h.fs
    fl := h.fl
    hp := ⟨sv0, tv0, dv0, by rw [upd_ne (ne_of hp h.hr (by intro q; cases q))]; exact hp, hz.mono fun t xs e => by rw [upd_ne (ne_of e h.hr (by intro q; cases q))]; exact e⟩
    hr := upd_same
    hm := by rw [upd_ne (ne_of h.hm h.hr (by intro q; cases q))]; exact h.hm
    hw := by rw [upd_ne (ne_of h.hw h.hr (by intro q; cases q))]; exact h.hw
    hs := by rw [upd_ne h.rs.symm]; exact h.hs
    ht := by rw [upd_ne (ne_of h.ht h.hr (by intro q; cases q))]; exact h.ht
    hl := by rw [upd_ne (ne_of h.hl h.hr (by intro q; cases q))]; exact h.hl
    pm := h.pm
    rs := h.rs
    wt := h.wt
    wl := h.wl
    tl := h.tl
    am := h.am
    us := h.us.mono fun t xs e => by rw [upd_ne (ne_of e h.hr (by intro q; cases q))]; exact e
    ll := h.ll.mono fun t xs e => by rw [upd_ne (ne_of e h.hr (by intro q; cases q))]; exact e
    lm := h.lm }
theorem Bp.wds (h : Bp CB CM H0 H p A ts ls x) {m : List Int} (hm : m.length = 774) : Bp CB CM H0 (upd H A.w (.lst (m.map V.int))) p A ts ls { x with mem := m } := by
  obtain ⟨sv0, tv0, dv0, hp, hz⟩ := h.hp
  exact {
    sm := same_of h.sm h.fw
    fp := h.fp
    fr := h.fr
    fw := h.fw
    ft := h.ft
    fm := h.fm
    fs := h.fs
    fl := h.fl
    hp := ⟨sv0, tv0, dv0, by rw [upd_ne (ne_of hp h.hw (by intro q; cases q))]; exact hp, hz.mono fun t xs e => by rw [upd_ne (ne_of e h.hw (by intro q; cases q))]; exact e⟩
    hr := by rw [upd_ne (ne_of h.hr h.hw (by intro q; cases q))]; exact h.hr
    hm := by rw [upd_ne (ne_of h.hm h.hw (by intro q; cases q))]; exact h.hm
    hw := upd_same
    hs := by rw [upd_ne (ne_of h.hs h.hw (by intro q; cases q))]; exact h.hs
    ht := by rw [upd_ne h.wt.symm]; exact h.ht
    hl := by rw [upd_ne h.wl.symm]; exact h.hl
    pm := h.pm
    rs := h.rs
    wt := h.wt
    wl := h.wl
    tl := h.tl
    am := h.am
    us := h.us.mono fun t xs e => by rw [upd_ne (ne_of e h.hw (by intro q; cases q))]; exact e
    ll := h.ll.mono fun t xs e => by rw [upd_ne (ne_of e h.hw (by intro q; cases q))]; exact e
    lm := hm }
theorem Bp.snd (h : Bp CB CM H0 H p A ts ls x) {q : Addr} {u : Int × Int} (hq : H q = some (.tup [.int u.1, .int u.2])) : Bp CB CM H0 (upd H A.t (.lst (ts ++ [.ref q]))) p A (ts ++ [.ref q]) ls { x with sent := x.sent ++ [u] } := by
  obtain ⟨sv0, tv0, dv0, hp, hz⟩ := h.hp
  exact {
    sm := same_of h.sm h.ft
    fp := h.fp
    fr := h.fr
    fw := h.fw
    ft := h.ft
    fm := h.fm
    fs := h.fs
    fl := h.fl
    hp := ⟨sv0, tv0, dv0, by rw [upd_ne (ne_of hp h.ht (by intro q; cases q))]; exact hp, hz.mono fun t xs e => by rw [upd_ne (ne_of e h.ht (by intro q; cases q))]; exact e⟩
    hr := by rw [upd_ne (ne_of h.hr h.ht (by intro q; cases q))]; exact h.hr
    hm := by rw [upd_ne (ne_of h.hm h.ht (by intro q; cases q))]; exact h.hm
    hw := by rw [upd_ne h.wt]; exact h.hw
    hs := by rw [upd_ne (ne_of h.hs h.ht (by intro q; cases q))]; exact h.hs
    ht := upd_same
    hl := by rw [upd_ne h.tl.symm]; exact h.hl
    pm := h.pm
    rs := h.rs
    wt := h.wt
    wl := h.wl
    tl := h.tl
    am := h.am
    us := (TupsAt.snoc hq h.us).mono fun t xs e => by rw [upd_ne (ne_of e h.ht (by intro q; cases q))]; exact e
    ll := h.ll.mono fun t xs e => by rw [upd_ne (ne_of e h.ht (by intro q; cases q))]; exact e
    lm := h.lm }
/-- what comes turned about of the next word read -/
theorem Bp.bnd (h : Bp CB CM H0 H p A ts ls x) {sv tv dv : V} {bn : Int} (hso : OthAt H sv tv dv x.stop x.tv x.dv) : Bp CB CM H0 (upd H p (.ins CB A.dx (bdF A.r A.t A.m A.l x.zero x.lets x.asleep x.beat sv x.la tv dv bn))) p A ts ls { x with bend := bn } := by
  obtain ⟨sv0, tv0, dv0, hp, hz⟩ := h.hp
  have B := h.fld (z := x.zero) (le := x.lets) (as := x.asleep) (bt := x.beat) (sv := sv) (la := x.la) (tv := tv) (dv := dv) hso
  have e : upd H p (.ins CB A.dx (bdF A.r A.t A.m A.l x.zero x.lets x.asleep x.beat sv x.la tv dv bn)) = upd (upd H p (.ins CB A.dx (bdF A.r A.t A.m A.l x.zero x.lets x.asleep x.beat sv x.la tv dv x.bend))) p (.ins CB A.dx (bdF A.r A.t A.m A.l x.zero x.lets x.asleep x.beat sv x.la tv dv bn)) := upd_upd.symm
  obtain ⟨sv1, tv1, dv1, hp1, hz1⟩ := B.hp
  have ne : ∀ {b : Addr} {o : HO}, (upd H p (.ins CB A.dx (bdF A.r A.t A.m A.l x.zero x.lets x.asleep x.beat sv x.la tv dv x.bend))) b = some o → (∀ d fs, o ≠ .ins CB d fs) → (upd (upd H p (.ins CB A.dx (bdF A.r A.t A.m A.l x.zero x.lets x.asleep x.beat sv x.la tv dv x.bend))) p (.ins CB A.dx (bdF A.r A.t A.m A.l x.zero x.lets x.asleep x.beat sv x.la tv dv bn))) b = some o := fun q n => by
    rw [upd_ne (fun z => by rw [z, hp1] at q; exact n _ _ (Option.some.inj q).symm)]
    exact q
  rw [e]
  exact {
    sm := same_of B.sm B.fp
    fp := B.fp
    fr := B.fr
    fw := B.fw
    ft := B.ft
    fm := B.fm
    fs := B.fs
    fl := B.fl
    hp := ⟨sv, tv, dv, upd_same, hso.mono fun t xs q => by rw [upd_upd, upd_ne (ne_of q hp (by intro q; cases q))]; exact q⟩
    hr := ne B.hr (fun _ _ z => by cases z)
    hm := by rw [upd_ne B.pm.symm]; exact B.hm
    hw := ne B.hw (fun _ _ z => by cases z)
    hs := ne B.hs (fun _ _ z => by cases z)
    ht := ne B.ht (fun _ _ z => by cases z)
    hl := ne B.hl (fun _ _ z => by cases z)
    pm := B.pm
    rs := B.rs
    wt := B.wt
    wl := B.wl
    tl := B.tl
    am := B.am
    us := B.us.mono fun t xs q => ne q (fun _ _ z => by cases z)
    ll := B.ll.mono fun t xs q => ne q (fun _ _ z => by cases z)
    lm := B.lm }
/-- its swapped words change -/
theorem Bp.swp (h : Bp CB CM H0 H p A ts ls x) {sw : List Int} : Bp CB CM H0 (upd H A.s (.dK (swD sw))) p A ts ls { x with sw := sw } := by
  obtain ⟨sv0, tv0, dv0, hp, hz⟩ := h.hp
  exact {
    sm := same_of h.sm h.fs
    fp := h.fp
    fr := h.fr
    fw := h.fw
    ft := h.ft
    fm := h.fm
    fs := h.fs
    fl := h.fl
    hp := ⟨sv0, tv0, dv0, by rw [upd_ne (ne_of hp h.hs (by intro q; cases q))]; exact hp, hz.mono fun t xs e => by rw [upd_ne (ne_of e h.hs (by intro q; cases q))]; exact e⟩
    hr := by rw [upd_ne h.rs]; exact h.hr
    hm := by rw [upd_ne (ne_of h.hm h.hs (by intro q; cases q))]; exact h.hm
    hw := by rw [upd_ne (ne_of h.hw h.hs (by intro q; cases q))]; exact h.hw
    hs := upd_same
    ht := by rw [upd_ne (ne_of h.ht h.hs (by intro q; cases q))]; exact h.ht
    hl := by rw [upd_ne (ne_of h.hl h.hs (by intro q; cases q))]; exact h.hl
    pm := h.pm
    rs := h.rs
    wt := h.wt
    wl := h.wl
    tl := h.tl
    am := h.am
    us := h.us.mono fun t xs e => by rw [upd_ne (ne_of e h.hs (by intro q; cases q))]; exact e
    ll := h.ll.mono fun t xs e => by rw [upd_ne (ne_of e h.hs (by intro q; cases q))]; exact e
    lm := h.lm }
end
theorem Bp.same {CB CM p : Addr} {H0 H H1 : Hp} {A : Ad} {ts ls : List V} {x : Bd} (h : Bp CB CM H0 H p A ts ls x) (s : Same H H1) : Bp CB CM H0 H1 p A ts ls x where
  sm := h.sm.trans s
  fp := h.fp
  fr := h.fr
  fw := h.fw
  ft := h.ft
  fm := h.fm
  fs := h.fs
  fl := h.fl
  hp := let ⟨sv, tv, dv, e, z⟩ := h.hp; ⟨sv, tv, dv, s _ _ e, z.mono fun t xs e => s _ _ e⟩
  hr := s _ _ h.hr
  hm := s _ _ h.hm
  hw := s _ _ h.hw
  hs := s _ _ h.hs
  ht := s _ _ h.ht
  hl := s _ _ h.hl
  pm := h.pm
  rs := h.rs
  wt := h.wt
  wl := h.wl
  tl := h.tl
  am := h.am
  us := h.us.mono fun t xs e => s _ _ e
  ll := h.ll.mono fun t xs e => s _ _ e
  lm := h.lm
/-- all that is not the board's own stands in the base -/
def baseOf (H : Hp) (p : Addr) (A : Ad) : Hp := fun b => if b = p ∨ b = A.r ∨ b = A.w ∨ b = A.t ∨ b = A.m ∨ b = A.s ∨ b = A.l then none else H b
theorem Bp.rebase {CB CM p : Addr} {H0 H : Hp} {A : Ad} {ts ls : List V} {x : Bd} (h : Bp CB CM H0 H p A ts ls x) : Bp CB CM (baseOf H p A) H p A ts ls x where
  sm := fun b o e => by
    unfold baseOf at e
    split at e
    · cases e
    · exact e
  fp := if_pos (.inl rfl)
  fr := if_pos (.inr (.inl rfl))
  fw := if_pos (.inr (.inr (.inl rfl)))
  ft := if_pos (.inr (.inr (.inr (.inl rfl))))
  fm := if_pos (.inr (.inr (.inr (.inr (.inl rfl)))))
  fs := if_pos (.inr (.inr (.inr (.inr (.inr (.inl rfl))))))
  fl := if_pos (.inr (.inr (.inr (.inr (.inr (.inr rfl))))))
  hp := h.hp
  hr := h.hr
  hm := h.hm
  hw := h.hw
  hs := h.hs
  ht := h.ht
  hl := h.hl
  pm := h.pm
  rs := h.rs
  wt := h.wt
  wl := h.wl
  tl := h.tl
  am := h.am
  us := h.us
  ll := h.ll
  lm := h.lm
theorem Bp.base_at {CB CM p : Addr} {H0 H : Hp} {A : Ad} {ts ls : List V} {x : Bd} (h : Bp CB CM H0 H p A ts ls x) {b : Addr} (h1 : b ≠ p) (h2 : b ≠ A.r) (h3 : b ≠ A.w) (h4 : b ≠ A.t) (h5 : b ≠ A.m) (h6 : b ≠ A.s) (h7 : b ≠ A.l) : baseOf H p A b = H b := if_neg fun z => by
  rcases z with z | z | z | z | z | z | z
  · exact h1 z
  · exact h2 z
  · exact h3 z
  · exact h4 z
  · exact h5 z
  · exact h6 z
  · exact h7 z
theorem Bp.base_tup {CB CM p : Addr} {H0 H : Hp} {A : Ad} {ts ls : List V} {x : Bd} (h : Bp CB CM H0 H p A ts ls x) : ∀ t xs, H t = some (.tup xs) → baseOf H p A t = some (.tup xs) := fun t xs e => by
  obtain ⟨sv, tv, dv, hp, _⟩ := h.hp
  rw [h.base_at (ne_of e hp (by intro q; cases q)) (ne_of e h.hr (by intro q; cases q)) (ne_of e h.hw (by intro q; cases q)) (ne_of e h.ht (by intro q; cases q)) (ne_of e h.hm (by intro q; cases q)) (ne_of e h.hs (by intro q; cases q)) (ne_of e h.hl (by intro q; cases q))]
  exact e
theorem Bp.base_same {CB CM p : Addr} {H0 H : Hp} {A : Ad} {ts ls : List V} {x : Bd} (h : Bp CB CM H0 H p A ts ls x) : Same H0 (baseOf H p A) := fun b o e => by
  rw [h.base_at (ne_of_none e h.fp) (ne_of_none e h.fr) (ne_of_none e h.fw) (ne_of_none e h.ft) (ne_of_none e h.fm) (ne_of_none e h.fs) (ne_of_none e h.fl)]
  exact h.sm _ _ e
theorem Bp.base_eq {CB CM p : Addr} {H0 H : Hp} {A : Ad} {ts ls : List V} {x : Bd} (h : Bp CB CM H0 H p A ts ls x) {H' : Hp} {b : Addr} {o : HO} (e : H0 b = some o) : baseOf H' p A b = H' b := if_neg fun z => by
  rcases z with z | z | z | z | z | z | z
  · exact ne_of_none e h.fp z
  · exact ne_of_none e h.fr z
  · exact ne_of_none e h.fw z
  · exact ne_of_none e h.ft z
  · exact ne_of_none e h.fm z
  · exact ne_of_none e h.fs z
  · exact ne_of_none e h.fl z
theorem BoardAt.unbase {CB CM p : Addr} {H0 H1 H : Hp} {x : Bd} (s : Same H0 H1) (h : BoardAt CB CM H1 H p x) : BoardAt CB CM H0 H p x := by
  obtain ⟨A, ts, ls, h⟩ := h
  exact ⟨A, ts, ls, {
    sm := s.trans h.sm
    fp := s.free h.fp
    fr := s.free h.fr
    fw := s.free h.fw
    ft := s.free h.ft
    fm := s.free h.fm
    fs := s.free h.fs
    fl := s.free h.fl
    hp := h.hp
    hr := h.hr
    hm := h.hm
    hw := h.hw
    hs := h.hs
    ht := h.ht
    hl := h.hl
    pm := h.pm
    rs := h.rs
    wt := h.wt
    wl := h.wl
    tl := h.tl
    am := h.am
    us := h.us
    ll := h.ll
    lm := h.lm }⟩
/-- a thing of another's is laid: it stands in the base too -/
theorem Bp.grow {CB CM p l : Addr} {Hb H : Hp} {A : Ad} {ts ls : List V} {x : Bd} {o : HO} (B : Bp CB CM Hb H p A ts ls x) (n : H l = none) : Bp CB CM (upd Hb l o) (upd H l o) p A ts ls x := by
  obtain ⟨sv, tv, dv, hp, hz⟩ := B.hp
  have B2 := B.same (same_upd' (o := o) n)
  have sm : Same (upd Hb l o) (upd H l o) := fun b y q => by
    by_cases z : b = l
    · rw [z, upd_same] at q
      rw [z, upd_same]
      exact q
    · rw [upd_ne z] at q
      exact B2.sm _ _ q
  have ne : ∀ {b : Addr} {y : HO}, H b = some y → b ≠ l := fun q => ne_of_none q n
  exact { B2 with
    sm := sm
    fp := by rw [upd_ne (ne hp)]; exact B.fp
    fr := by rw [upd_ne (ne B.hr)]; exact B.fr
    fw := by rw [upd_ne (ne B.hw)]; exact B.fw
    ft := by rw [upd_ne (ne B.ht)]; exact B.ft
    fm := by rw [upd_ne (ne B.hm)]; exact B.fm
    fs := by rw [upd_ne (ne B.hs)]; exact B.fs
    fl := by rw [upd_ne (ne B.hl)]; exact B.fl }
theorem BoardAt.sm {CB CM p : Addr} {Hb H : Hp} {x : Bd} (R : BoardAt CB CM Hb H p x) : Same Hb H := by
  obtain ⟨A, ts, ls, B⟩ := R
  exact B.sm
theorem dg {H : Hp} {r : Addr} {kvs : List (Key × V)} {k : Key} {v : V} (e : H r = some (.dK kvs)) (h : valV kvs k = some v) : DGet H r (kV k) (some v) := h ▸ DGet.k e
theorem dp {H : Hp} {r : Addr} {a b pc sp : Int} {kvs : List (Key × V)} {k : Key} {v : V} (e : H r = some (.dK (regD a b pc sp))) (h : putK (regD a b pc sp) k v = kvs) : DPut H r (kV k) v (upd H r (.dK kvs)) := by
  subst h
  exact DPut.k e (by show 4 < sizeLine; decide)
end Bh

/-! The program's small defs: the memory, what words and images are. -/
namespace Bh
open PySem PySem.Spec PyProof.Rows L2
def topS (i : Nat) : Stmt := PySem.Challenge.pw_boardheld_k33_pages_written_anew.main.body.getD i (.Pass ⟨0, 0, 0, 0⟩)
def rdN : List Str := ["get", "add", "sub", "and", "xor"]
def opN : List Str := ["mark", "lit", "get", "put", "add", "sub", "and", "xor", "getb", "putb", "tob", "swap", "go", "ifz", "ifn", "call", "ret", "push", "pop", "sleep", "let", "back", "half"]
structure Tx (K : PySem.W.Frag) (mg : Str → Option Value) (CB CM : Addr) : Prop where
  g_FLASH_END : ∃ t, mg "FLASH_END" = some (.int 512 t)
  g_RAM_END : ∃ t, mg "RAM_END" = some (.int 768 t)
  g_PLACES_END : ∃ t, mg "PLACES_END" = some (.int 774 t)
  g_COUNT : ∃ t, mg "COUNT" = some (.int 768 t)
  g_TOP : ∃ t, mg "TOP" = some (.int 769 t)
  g_FLAGS : ∃ t, mg "FLAGS" = some (.int 770 t)
  g_MASK : ∃ t, mg "MASK" = some (.int 771 t)
  g_LINE_IN : ∃ t, mg "LINE_IN" = some (.int 772 t)
  g_LINE_OUT : ∃ t, mg "LINE_OUT" = some (.int 773 t)
  g_TIMER_FLAG : ∃ t, mg "TIMER_FLAG" = some (.int 1 t)
  g_LINE_FLAG : ∃ t, mg "LINE_FLAG" = some (.int 2 t)
  g_WORD_MOST : ∃ t, mg "WORD_MOST" = some (.int 65535 t)
  g_ERASED : ∃ t, mg "ERASED" = some (.int 65535 t)
  g_X_SPAN : ∃ t, mg "X_SPAN" = some (.int 1024 t)
  g_LINE_MOST : ∃ t, mg "LINE_MOST" = some (.int 3 t)
  g_STACK_TOP : ∃ t, mg "STACK_TOP" = some (.int 767 t)
  g_INTERRUPT_BEATS : ∃ t, mg "INTERRUPT_BEATS" = some (.int 3 t)
  g_TIMER_PC : ∃ t, mg "TIMER_PC" = some (.int 1 t)
  g_LINE_PC : ∃ t, mg "LINE_PC" = some (.int 2 t)
  g_WORDS : ∃ t, mg "WORDS" = some (.int 65536 t)
  g_HIGH : ∃ t, mg "HIGH" = some (.int 32768 t)
  z_len : mg "len" = none
  z_range : mg "range" = none
  z_isinstance : mg "isinstance" = none
  z_all : mg "all" = none
  z_int : mg "int" = none
  z_bool : mg "bool" = none
  z_list : mg "list" = none
  z_tuple : mg "tuple" = none
  z_divmod : mg "divmod" = none
  g_READS_AT_X : ∃ a, mg "READS_AT_X" = some (.ref a) ∧ ∀ H, SqT K H a (rdN.map V.str)
  g_OP_NAMES : ∃ a, mg "OP_NAMES" = some (.ref a) ∧ ∀ H, SqT K H a (opN.map V.str)
  cB : Cls K CB
  cM : Cls K CM
  n_registers : NoAttr K CB "registers"
  n_zero : NoAttr K CB "zero"
  n_lets : NoAttr K CB "lets"
  n_asleep : NoAttr K CB "asleep"
  n_beat : NoAttr K CB "beat"
  n_stopped : NoAttr K CB "stopped"
  n_sent : NoAttr K CB "sent"
  n_memory : NoAttr K CB "memory"
  n_line : NoAttr K CB "line"
  n_line_at : NoAttr K CB "line_at"
  n_touched : NoAttr K CB "touched"
  n_did : NoAttr K CB "did"
  n_bend : NoAttr K CB "bend"
  n_words : NoAttr K CM "words"
  n_swapped : NoAttr K CM "swapped"
structure MemAt (CM : Addr) (H : Hp) (m dm w s : Addr) (mem : List Int) : Prop where
  hm : H m = some (.ins CM dm (mmF w s))
  hw : H w = some (.lst (mem.map V.int))
  hs : ∃ kv, H s = some (.dK kv)
  lm : mem.length = 774
theorem Bp.mem {CB CM p : Addr} {H0 H : Hp} {A : Ad} {ts ls : List V} {x : Bd} (h : Bp CB CM H0 H p A ts ls x) : MemAt CM H A.m A.dm A.w A.s x.mem := ⟨h.hm, h.hw, ⟨_, h.hs⟩, h.lm⟩
def kS (b : Bool) : Str := if b = true then "w" else "r"
theorem ne_wr : decide (V.str "w" = V.str "r") = false := by decide +kernel
theorem hsz {n : Nat} (h : n ≤ 100000) : n ≤ sizeLine := Nat.le_trans h (by decide)
theorem natI {n k : Nat} (h : n < k) : (n : Int) < k := by omega
def oS : Option Str → V
  | none => .non
  | some w => .str w
def spBar : Sp := fun vs H Q _ => ∃ t : Bool × Int, vs = [.str (kS t.1), .int t.2] ∧ Q (oS (barM t)) H
def spMRead (CM : Addr) : Sp := fun vs H Q _ => ∃ (m dm w s : Addr) (mem sw : List Int) (i pc : Int), vs = [.ref m, .int i, .int pc] ∧ MemAt CM H m dm w s mem ∧ H s = some (.dK (swD sw)) ∧ 0 ≤ i ∧ i < 774 ∧ Q (.int (rdS mem sw i pc)) H
def spMAt (CM : Addr) : Sp := fun vs H Q _ => ∃ (m dm w s : Addr) (mem : List Int) (i : Int), vs = [.ref m, .int i] ∧ MemAt CM H m dm w s mem ∧ 0 ≤ i ∧ i < 774 ∧ Q (.int (rd mem i)) H
def spMPut (CM : Addr) : Sp := fun vs H Q _ => ∃ (m dm w s : Addr) (mem : List Int) (i v : Int), vs = [.ref m, .int i, .int v] ∧ MemAt CM H m dm w s mem ∧ 0 ≤ i ∧ i < 774 ∧ Q .non (upd H w (.lst ((putMM i v mem).map V.int)))
def spMCall (CM : Addr) : Sp := fun vs H Q _ => ∃ (m dm w s : Addr) (mem : List Int), vs = [.ref m] ∧ MemAt CM H m dm w s mem ∧ Q (.int (Builtin.bitAnd (rd mem 770) (rd mem 771))) H
def spMTake (CM : Addr) : Sp := fun vs H Q _ => ∃ (m dm w s : Addr) (mem : List Int) (v : Int), vs = [.ref m, .int v] ∧ MemAt CM H m dm w s mem ∧ Q .non (upd H w (.lst ((takeLineM v mem).map V.int)))
def spMTim (CM : Addr) : Sp := fun vs H Q _ => ∃ (m dm w s : Addr) (mem : List Int), vs = [.ref m] ∧ MemAt CM H m dm w s mem ∧ Q .non (upd H w (.lst ((goTimerM mem).map V.int)))
def memOf (ns : List Int) : List Int := ns ++ List.replicate (512 - ns.length) 65535 ++ List.replicate 262 0
def spMI (CM : Addr) : Sp := fun vs H Q _ => ∃ (m dm im : Addr) (ns : List Int), vs = [.ref m, .ref im] ∧ H m = some (.ins CM dm []) ∧ H im = some (.lst (ns.map V.int)) ∧ ns.length ≤ 512 ∧
  ∀ (H' : Hp) (w s : Addr), MemAt CM H' m dm w s (memOf ns) → H' s = some (.dK (swD [])) → (∀ b o, b ≠ m → H b = some o → H' b = some o) → H w = none → H s = none → Q .non H'
def spWhole : Sp := fun vs H Q _ => ∃ i : Int, vs = [.int i] ∧ Q (.bl true) H
def spBetw : Sp := fun vs H Q _ => ∃ i a b : Int, vs = [.int i, .int a, .int b] ∧ Q (.bl (decide (a ≤ i ∧ i ≤ b))) H
def spWord : Sp := fun vs H Q _ => ∃ i : Int, vs = [.int i] ∧ Q (.bl (decide (0 ≤ i ∧ i ≤ 65535))) H
def WordsOk (ns : List Int) : Prop := ∀ n ∈ ns, 0 ≤ n ∧ n ≤ 65535
def spImg : Sp := fun vs H Q _ => ∃ (im : Addr) (ns : List Int), vs = [.ref im] ∧ H im = some (.lst (ns.map V.int)) ∧ ns.length ≤ 512 ∧ WordsOk ns ∧ ∀ H', Same H H' → Q (.bl true) H'
/-- the rows rise from behind n on -/
def riseM : Int → List (Int × Int) → Prop
  | _, [] => True
  | n, r :: rs => n < r.1 ∧ 0 ≤ r.2 ∧ r.2 ≤ 3 ∧ riseM r.1 rs
def spLRow : Sp := fun vs H Q _ => ∃ (t : Addr) (r : Int × Int) (n : Int), vs = [.ref t, .int n] ∧ H t = some (.tup [.int r.1, .int r.2]) ∧ n < r.1 ∧ 0 ≤ r.2 ∧ r.2 ≤ 3 ∧ Q (.bl true) H
def spLine : Sp := fun vs H Q _ => ∃ (l : Addr) (us : List V) (ls : List (Int × Int)), vs = [.ref l] ∧ H l = some (.lst us) ∧ TupsAt H us ls ∧ riseM 0 ls ∧ Q (.bl true) H
section
variable {P : Program} {w : World} {K : PySem.W.Frag} {mg : Str → Option Value} {base : Heap} {CB CM : Addr}
abbrev sFbar : Stmt := topS 51
def scFbarN : List Str := ["kind", "address"]
theorem scFbar : FnScope scFbarN ["kind", "address"] (defScope sFbar) := ⟨rfl, rfl, rfl, by decide +kernel, rfl, by decide +kernel, by decide +kernel⟩
theorem ok_Fbar {f : Addr} {fd : FuncData} (F : Fun K "bar_of" "bar_of" sFbar f fd) (T : Tx K mg CB CM) : FnOk P w K mg base CX0 1 f fd ["kind", "address"] (spBar) := by
  refine F.ok scFbar (fun vs H Q E h => by obtain ⟨t, rfl, _⟩ := h; rfl) (fun cdv A outer s H vs Q E hr h => ?_)
  have hu := hu_of hr
  obtain ⟨t_FLASH_END, g_FLASH_END⟩ := T.g_FLASH_END
  obtain ⟨t_LINE_IN, g_LINE_IN⟩ := T.g_LINE_IN
  obtain ⟨t_PLACES_END, g_PLACES_END⟩ := T.g_PLACES_END
  obtain ⟨⟨b, a⟩, rfl, q⟩ := h
  refine ⟨_, (pss_cons (ps_if (pt_not (pt_chain op_le op_lt pe_int (pv 1) (pgI g_PLACES_END))) (pss_one (ps_ret pe_str)) pss_nil)
    (pss_cons (ps_if (pt_cmpR op_eq (pv 0) pe_str (nomark _)) (pss_one (ps_ret pe_non)) pss_nil)
    (pss_cons (ps_if (pt_cmpR op_lt (pv 1) (pgI g_FLASH_END) (nomark _)) (pss_one (ps_ret pe_str)) pss_nil)
    (pss_cons (ps_if (pt_cmpR op_eq (pv 1) (pgI g_LINE_IN) (nomark _)) (pss_one (ps_ret pe_str)) pss_nil)
    (pss_one (ps_ret pe_non)))))), ?_⟩
  have far : ¬ (0 ≤ a ∧ a < 774) → Q (.str "far") H := fun h => by
    unfold barM at q
    rw [if_pos h] at q
    exact q
  refine ⟨_, rfl, _, _, rfl, rfl, _, rfl, ifB (fun t0 => ?_) (fun t0 => ⟨_, rfl, far fun z => absurd z.1 (of_decide_eq_false t0)⟩)⟩
  refine ⟨_, _, rfl, rfl, _, rfl, ifN (fun t1 => far fun z => absurd z.2 (of_decide_eq_false t1)) (fun t1 => ?_)⟩
  have t0 := of_decide_eq_true t0
  have t1 := of_decide_eq_true t1
  unfold barM at q
  rw [if_neg (fun z => z ⟨t0, t1⟩)] at q
  cases b with
  | false => exact ⟨_, rfl, rfl, _, rfl, q⟩
  | true =>
    refine ⟨_, rfl, rfl, _, rfl, ?_⟩
    show if decide (V.str "w" = V.str "r") = true then _ else _
    rw [ne_wr, if_neg Bool.false_ne_true]
    rw [if_neg (show ¬ ((true : Bool) = false) by decide)] at q
    refine ⟨_, rfl, _, _, rfl, rfl, _, rfl, ifB (fun h => ?_) (fun h => ?_)⟩
    · rw [if_pos (of_decide_eq_true h)] at q
      exact q
    · rw [if_neg (of_decide_eq_false h)] at q
      refine ⟨_, rfl, rfl, _, rfl, ifB (fun h2 => ?_) (fun h2 => ?_)⟩
      · rw [if_pos (V.int.inj (of_decide_eq_true h2))] at q
        exact q
      · rw [if_neg (fun z => of_decide_eq_false h2 (congrArg V.int z))] at q
        exact q
abbrev sMat : Stmt := inClass (topS 52) 1
def scMatN : List Str := ["self", "address"]
theorem scMat : FnScope scMatN ["self", "address"] (defScope sMat) := ⟨rfl, rfl, rfl, by decide +kernel, rfl, by decide +kernel, by decide +kernel⟩
theorem ok_Mat {f : Addr} {fd : FuncData} (F : Fun K "word_at" "Memory.word_at" sMat f fd) (T : Tx K mg CB CM) : FnOk P w K mg base CX0 1 f fd ["self", "address"] (spMAt CM) := by
  refine F.ok scMat (fun vs H Q E h => by obtain ⟨_, _, _, _, _, _, rfl, _⟩ := h; rfl) (fun cdv A outer s H vs Q E hr h => ?_)
  have hu := hu_of hr
  obtain ⟨t_PLACES_END, g_PLACES_END⟩ := T.g_PLACES_END
  obtain ⟨m, dm, w_, s_, mem, i, rfl, M, i0, i1, q⟩ := h
  refine ⟨_, (pss_cons (ps_if (pt_chain op_le op_lt pe_int (pv 1) (pgI g_PLACES_END)) (pss_one (ps_ret (pe_ix ix_list (pe_fld (pv 0) rfl) (pv 1) (fun _ _ => rfl)))) pss_nil)
    (pss_one (ps_ret pe_non))), ?_⟩
  refine ⟨_, rfl, _, _, rfl, rfl, _, rfl, ?_⟩
  rw [if_pos (decide_eq_true i0)]
  refine ⟨_, _, rfl, rfl, _, rfl, ifB (fun _ => ?_) (fun h => absurd i1 (of_decide_eq_false h))⟩
  exact ⟨_, rfl, m, CM, dm, _, _, rfl, M.hm, T.cM, T.n_words, mF_w, _, rfl, w_, _, _, _, rfl, rfl, SqL.of M.hw, atI_rd i0 (by rw [M.lm]; exact i1), q⟩
abbrev sMread : Stmt := inClass (topS 52) 2
def scMreadN : List Str := ["self", "address", "pc"]
theorem scMread : FnScope scMreadN ["self", "address", "pc"] (defScope sMread) := ⟨rfl, rfl, rfl, by decide +kernel, rfl, by decide +kernel, by decide +kernel⟩
theorem ok_Mread {f : Addr} {fd : FuncData} (F : Fun K "read" "Memory.read" sMread f fd) (T : Tx K mg CB CM) : FnOk P w K mg base CX0 1 f fd ["self", "address", "pc"] (spMRead CM) := by
  refine F.ok scMread (fun vs H Q E h => by obtain ⟨_, _, _, _, _, _, _, _, rfl, _⟩ := h; rfl) (fun cdv A outer s H vs Q E hr h => ?_)
  have hu := hu_of hr
  obtain ⟨m, dm, w_, s_, mem, sw, i, pc, rfl, M, hs, i0, i1, q⟩ := h
  refine ⟨_, (pss_cons (ps_if (PW.pt (pw_and (pt_cmp (pc_din hu (pv 1) (pe_fld (pv 0) rfl))) (pw_and1 (pt_cmpR op_ne (pv 1) (pv 2) (nomark _))))) (pss_one (ps_ret pe_int)) pss_nil)
    (pss_one (ps_ret (pe_ix ix_list (pe_fld (pv 0) rfl) (pv 1) (fun _ _ => rfl))))), ?_⟩
  have own : ¬ (i ∈ sw ∧ i ≠ pc) → Q (.int (rd mem i)) H := fun z => by
    unfold rdS at q
    rw [if_neg z] at q
    exact q
  refine ⟨_, rfl, _, rfl, m, CM, dm, _, _, rfl, M.hm, T.cM, T.n_swapped, mF_s, s_, _, rfl, DGet.k (k := Sum.inl i) hs, _, rfl, ?_⟩
  rw [swD_some]
  refine ifB (fun h1 => ?_) (fun h1 => ?_)
  · refine ⟨_, rfl, _, rfl, rfl, _, rfl, ifN (fun h2 => ?_) (fun h2 => ?_)⟩
    · unfold rdS at q
      rw [if_pos ⟨of_decide_eq_true h1, fun z => of_decide_eq_false h2 (congrArg V.int z)⟩] at q
      exact q
    · exact ⟨_, rfl, m, CM, dm, _, _, rfl, M.hm, T.cM, T.n_words, mF_w, _, rfl, w_, _, _, _, rfl, rfl, SqL.of M.hw, atI_rd i0 (by rw [M.lm]; exact i1), own fun z => z.2 (V.int.inj (of_decide_eq_true h2))⟩
  · exact ⟨_, rfl, m, CM, dm, _, _, rfl, M.hm, T.cM, T.n_words, mF_w, _, rfl, w_, _, _, _, rfl, rfl, SqL.of M.hw, atI_rd i0 (by rw [M.lm]; exact i1), own fun z => of_decide_eq_false h1 z.1⟩
abbrev sMput : Stmt := inClass (topS 52) 3
def scMputN : List Str := ["self", "address", "word"]
theorem scMput : FnScope scMputN ["self", "address", "word"] (defScope sMput) := ⟨rfl, rfl, rfl, by decide +kernel, rfl, by decide +kernel, by decide +kernel⟩
theorem ok_Mput {f : Addr} {fd : FuncData} (F : Fun K "put" "Memory.put" sMput f fd) (T : Tx K mg CB CM) : FnOk P w K mg base CX0 1 f fd ["self", "address", "word"] (spMPut CM) := by
  refine F.ok scMput (fun vs H Q E h => by obtain ⟨_, _, _, _, _, _, _, rfl, _⟩ := h; rfl) (fun cdv A outer s H vs Q E hr h => ?_)
  have hu := hu_of hr
  obtain ⟨t_FLAGS, g_FLAGS⟩ := T.g_FLAGS
  obtain ⟨t_WORD_MOST, g_WORD_MOST⟩ := T.g_WORD_MOST
  obtain ⟨m, dm, w_, s_, mem, i, v, rfl, M, i0, i1, q⟩ := h
  refine ⟨_, (pss_one (ps_if (pt_cmpR op_eq (pv 1) (pgI g_FLAGS) (nomark _)) (pss_one (ps_asg (pe_op op_and (pe_ix ix_list (pe_fld (pv 0) rfl) (pgI g_FLAGS) (fun _ _ => rfl)) (pe_op op_sub (pgI g_WORD_MOST) (pv 2))) (pg_sub (pe_fld (pv 0) rfl) (pgI g_FLAGS) set_list))) (pss_one (ps_asg (pv 2) (pg_sub (pe_fld (pv 0) rfl) (pv 1) set_list))))), ?_⟩
  unfold putMM at q
  refine ⟨_, rfl, rfl, _, rfl, ifB (fun h => ?_) (fun h => ?_)⟩
  · have e := V.int.inj (of_decide_eq_true h)
    rw [if_pos e] at q
    refine ⟨_, rfl, m, CM, dm, _, _, rfl, M.hm, T.cM, T.n_words, mF_w, w_, _, _, _, rfl, rfl, SqL.of M.hw, atI_rd (by decide) (by rw [M.lm]; decide), _, rfl, _, _, rfl, rfl, _, _, rfl, rfl, ?_⟩
    refine ⟨_, rfl, m, CM, dm, _, _, rfl, M.hm, T.cM, T.n_words, mF_w, w_, _, _, _, rfl, rfl, M.hw, ixN_in (by decide) (by rw [List.length_map, M.lm]; decide), ?_⟩
    rw [set_map]
    exact q
  · have e : ¬ i = 770 := fun z => of_decide_eq_false h (by rw [z])
    rw [if_neg e] at q
    refine ⟨_, rfl, _, rfl, m, CM, dm, _, _, rfl, M.hm, T.cM, T.n_words, mF_w, _, rfl, w_, _, _, _, rfl, rfl, M.hw, ixN_in i0 (by rw [List.length_map, M.lm]; exact i1), ?_⟩
    rw [set_map]
    exact q
abbrev sMcalled : Stmt := inClass (topS 52) 4
def scMcalledN : List Str := ["self"]
theorem scMcalled : FnScope scMcalledN ["self"] (defScope sMcalled) := ⟨rfl, rfl, rfl, by decide +kernel, rfl, by decide +kernel, by decide +kernel⟩
theorem ok_Mcalled {f : Addr} {fd : FuncData} (F : Fun K "called_flags" "Memory.called_flags" sMcalled f fd) (T : Tx K mg CB CM) : FnOk P w K mg base CX0 1 f fd ["self"] (spMCall CM) := by
  refine F.ok scMcalled (fun vs H Q E h => by obtain ⟨_, _, _, _, _, rfl, _⟩ := h; rfl) (fun cdv A outer s H vs Q E hr h => ?_)
  have hu := hu_of hr
  obtain ⟨t_FLAGS, g_FLAGS⟩ := T.g_FLAGS
  obtain ⟨t_MASK, g_MASK⟩ := T.g_MASK
  obtain ⟨m, dm, w_, s_, mem, rfl, M, q⟩ := h
  refine ⟨_, (pss_one (ps_ret (pe_op op_and (pe_ix ix_list (pe_fld (pv 0) rfl) (pgI g_FLAGS) (fun _ _ => rfl)) (pe_ix ix_list (pe_fld (pv 0) rfl) (pgI g_MASK) (fun _ _ => rfl))))), ?_⟩
  exact ⟨_, rfl, m, CM, dm, _, _, rfl, M.hm, T.cM, T.n_words, mF_w, w_, _, _, _, rfl, rfl, SqL.of M.hw, atI_rd (by decide) (by rw [M.lm]; decide), _, rfl, m, CM, dm, _, _, rfl, M.hm, T.cM, T.n_words, mF_w, w_, _, _, _, rfl, rfl, SqL.of M.hw, atI_rd (by decide) (by rw [M.lm]; decide), _, _, rfl, rfl, q⟩
abbrev sMtake : Stmt := inClass (topS 52) 5
def scMtakeN : List Str := ["self", "value", "rises"]
theorem scMtake : FnScope scMtakeN ["self", "value"] (defScope sMtake) := ⟨rfl, rfl, rfl, by decide +kernel, rfl, by decide +kernel, by decide +kernel⟩
theorem ok_Mtake {f : Addr} {fd : FuncData} (F : Fun K "take_line" "Memory.take_line" sMtake f fd) (T : Tx K mg CB CM) : FnOk P w K mg base CX0 1 f fd ["self", "value"] (spMTake CM) := by
  refine F.ok scMtake (fun vs H Q E h => by obtain ⟨_, _, _, _, _, _, rfl, _⟩ := h; rfl) (fun cdv A outer s H vs Q E hr h => ?_)
  have hu := hu_of hr
  obtain ⟨t_FLAGS, g_FLAGS⟩ := T.g_FLAGS
  obtain ⟨t_LINE_FLAG, g_LINE_FLAG⟩ := T.g_LINE_FLAG
  obtain ⟨t_LINE_IN, g_LINE_IN⟩ := T.g_LINE_IN
  obtain ⟨m, dm, w_, s_, mem, v, rfl, M, q⟩ := h
  refine ⟨_, (pss_cons (ps_set (i := 2) scMtake.nd rfl (.inl rfl) (pe_cmpR op_gt (pe_op op_mod (pv 1) pe_int) (pe_op op_mod (pe_ix ix_list (pe_fld (pv 0) rfl) (pgI g_LINE_IN) (fun _ _ => rfl)) pe_int) (nomark _)))
    (pss_cons (ps_asg (pv 1) (pg_sub (pe_fld (pv 0) rfl) (pgI g_LINE_IN) set_list))
    (pss_one (ps_if (pt_val (pv 2)) (pss_one (ps_asg (pe_op op_or (pe_ix ix_list (pe_fld (pv 0) rfl) (pgI g_FLAGS) (fun _ _ => rfl)) (pgI g_LINE_FLAG)) (pg_sub (pe_fld (pv 0) rfl) (pgI g_FLAGS) set_list))) pss_nil)))), ?_⟩
  unfold takeLineM at q
  refine ⟨_, rfl, _, _, rfl, rfl, (by show (0 : Int) < 2; decide), _, rfl, m, CM, dm, _, _, rfl, M.hm, T.cM, T.n_words, mF_w, w_, _, _, _, rfl, rfl, SqL.of M.hw, atI_rd (by decide) (by rw [M.lm]; decide), _, _, rfl, rfl, (by show (0 : Int) < 2; decide), _, _, rfl, rfl, ?_⟩
  refine ⟨_, rfl, _, rfl, m, CM, dm, _, _, rfl, M.hm, T.cM, T.n_words, mF_w, w_, _, _, _, rfl, rfl, M.hw, ixN_in (by decide) (by rw [List.length_map, M.lm]; decide), ?_⟩
  rw [set_map]
  have mw : m ≠ w_ := ne_of M.hm M.hw (by intro q; cases q)
  have hw2 : upd H w_ (.lst ((stM mem 772 v).map V.int)) w_ = some (.lst ((stM mem 772 v).map V.int)) := upd_same
  have hm2 : upd H w_ (.lst ((stM mem 772 v).map V.int)) m = some (.ins CM dm (mmF w_ s_)) := by rw [upd_ne mw]; exact M.hm
  have l2 : (stM mem 772 v).length = 774 := by rw [stM_len]; exact M.lm
  refine ⟨_, rfl, _, rfl, ifB (fun h => ?_) (fun h => ?_)⟩
  · rw [if_pos (of_decide_eq_true h)] at q
    refine ⟨_, rfl, m, CM, dm, _, _, rfl, hm2, T.cM, T.n_words, mF_w, w_, _, _, _, rfl, rfl, SqL.of hw2, atI_rd (by decide) (by rw [l2]; decide), _, _, rfl, rfl, ?_⟩
    refine ⟨_, rfl, m, CM, dm, _, _, rfl, hm2, T.cM, T.n_words, mF_w, w_, _, _, _, rfl, rfl, hw2, ixN_in (by decide) (by rw [List.length_map, l2]; decide), ?_⟩
    rw [set_map, upd_upd]
    exact q
  · rw [if_neg (of_decide_eq_false h)] at q
    exact q
abbrev sMtimer : Stmt := inClass (topS 52) 6
def scMtimerN : List Str := ["self", "top", "count"]
theorem scMtimer : FnScope scMtimerN ["self"] (defScope sMtimer) := ⟨rfl, rfl, rfl, by decide +kernel, rfl, by decide +kernel, by decide +kernel⟩
theorem ok_Mtimer {f : Addr} {fd : FuncData} (F : Fun K "go_timer" "Memory.go_timer" sMtimer f fd) (T : Tx K mg CB CM) : FnOk P w K mg base CX0 1 f fd ["self"] (spMTim CM) := by
  refine F.ok scMtimer (fun vs H Q E h => by obtain ⟨_, _, _, _, _, rfl, _⟩ := h; rfl) (fun cdv A outer s H vs Q E hr h => ?_)
  have hu := hu_of hr
  obtain ⟨t_COUNT, g_COUNT⟩ := T.g_COUNT
  obtain ⟨t_FLAGS, g_FLAGS⟩ := T.g_FLAGS
  obtain ⟨t_TIMER_FLAG, g_TIMER_FLAG⟩ := T.g_TIMER_FLAG
  obtain ⟨t_TOP, g_TOP⟩ := T.g_TOP
  obtain ⟨m, dm, w_, s_, mem, rfl, M, q⟩ := h
  refine ⟨_, (pss_cons (ps_set (i := 1) scMtimer.nd rfl (.inl rfl) (pe_ix ix_list (pe_fld (pv 0) rfl) (pgI g_TOP) (fun _ _ => rfl)))
    (pss_cons (ps_if (pt_cmpR op_eq (pv 1) pe_int (nomark _)) (pss_one ps_retN) pss_nil)
    (pss_cons (ps_set (i := 2) scMtimer.nd rfl (.inl rfl) (pe_op op_add (pe_ix ix_list (pe_fld (pv 0) rfl) (pgI g_COUNT) (fun _ _ => rfl)) pe_int))
    (pss_cons (ps_if (pt_cmpR op_ge (pv 2) (pv 1) (nomark _)) (pss_cons (ps_set (i := 2) scMtimer.nd rfl (.inl rfl) pe_int)
    (pss_one (ps_asg (pe_op op_or (pe_ix ix_list (pe_fld (pv 0) rfl) (pgI g_FLAGS) (fun _ _ => rfl)) (pgI g_TIMER_FLAG)) (pg_sub (pe_fld (pv 0) rfl) (pgI g_FLAGS) set_list)))) pss_nil)
    (pss_one (ps_asg (pv 2) (pg_sub (pe_fld (pv 0) rfl) (pgI g_COUNT) set_list))))))), ?_⟩
  unfold goTimerM at q
  refine ⟨_, rfl, m, CM, dm, _, _, rfl, M.hm, T.cM, T.n_words, mF_w, w_, _, _, _, rfl, rfl, SqL.of M.hw, atI_rd (by decide) (by rw [M.lm]; decide), ?_⟩
  refine ⟨_, rfl, rfl, _, rfl, ifB (fun h => ?_) (fun h => ?_)⟩
  · rw [if_pos (V.int.inj (of_decide_eq_true h)), upd_id M.hw] at q
    exact q
  · rw [if_neg (fun z => of_decide_eq_false h (by rw [z]))] at q
    refine ⟨_, rfl, m, CM, dm, _, _, rfl, M.hm, T.cM, T.n_words, mF_w, w_, _, _, _, rfl, rfl, SqL.of M.hw, atI_rd (by decide) (by rw [M.lm]; decide), _, _, rfl, rfl, ?_⟩
    refine ⟨_, rfl, _, rfl, _, _, rfl, rfl, _, rfl, ifB (fun h2 => ?_) (fun h2 => ?_)⟩
    · rw [if_pos (of_decide_eq_true h2)] at q
      have mw : m ≠ w_ := ne_of M.hm M.hw (by intro q; cases q)
      refine ⟨_, rfl, m, CM, dm, _, _, rfl, M.hm, T.cM, T.n_words, mF_w, w_, _, _, _, rfl, rfl, SqL.of M.hw, atI_rd (by decide) (by rw [M.lm]; decide), _, _, rfl, rfl, ?_⟩
      refine ⟨_, rfl, m, CM, dm, _, _, rfl, M.hm, T.cM, T.n_words, mF_w, w_, _, _, _, rfl, rfl, M.hw, ixN_in (by decide) (by rw [List.length_map, M.lm]; decide), ?_⟩
      rw [set_map]
      refine ⟨_, rfl, _, rfl, m, CM, dm, _, _, rfl, (by rw [upd_ne mw]; exact M.hm), T.cM, T.n_words, mF_w, w_, _, _, _, rfl, rfl, upd_same, ixN_in (by decide) (by rw [List.length_map, stM_len, M.lm]; decide), ?_⟩
      rw [set_map, upd_upd]
      exact q
    · rw [if_neg (of_decide_eq_false h2)] at q
      refine ⟨_, rfl, _, rfl, m, CM, dm, _, _, rfl, M.hm, T.cM, T.n_words, mF_w, w_, _, _, _, rfl, rfl, M.hw, ixN_in (by decide) (by rw [List.length_map, M.lm]; decide), ?_⟩
      rw [set_map]
      exact q
end
end Bh

/-! What words, images and lines are; a memory is made. -/
namespace Bh
open PySem PySem.Spec PyProof.Rows L2
theorem flat_rep (n : Nat) (v : Int) : (List.replicate n [V.int v]).flatten = (List.replicate n v).map V.int := by
  induction n with
  | zero => rfl
  | succ n ih => rw [List.replicate_succ, List.flatten_cons, ih, List.replicate_succ, List.map_cons]; rfl
section
variable {P : Program} {w : World} {K : PySem.W.Frag} {mg : Str → Option Value} {base : Heap} {CB CM : Addr}
abbrev sFwhole : Stmt := topS 57
def scFwholeN : List Str := ["thing"]
theorem scFwhole : FnScope scFwholeN ["thing"] (defScope sFwhole) := ⟨rfl, rfl, rfl, by decide +kernel, rfl, by decide +kernel, by decide +kernel⟩
theorem ok_Fwhole {f : Addr} {fd : FuncData} (F : Fun K "is_whole" "is_whole" sFwhole f fd) (T : Tx K mg CB CM) : FnOk P w K mg base CX0 1 f fd ["thing"] (spWhole) := by
  refine F.ok scFwhole (fun vs H Q E h => by obtain ⟨_, rfl, _⟩ := h; rfl) (fun cdv A outer s H vs Q E hr h => ?_)
  have hu := hu_of hr
  have z_bool := T.z_bool
  have z_int := T.z_int
  have z_isinstance := T.z_isinstance
  obtain ⟨i, rfl, q⟩ := h
  refine ⟨_, (pss_one (ps_ret (pe_and (pe_callB call_isi (by rfl) z_isinstance (by decide +kernel) (pa_cons (pv 0) (pa_cons (pe_bltn (v := .ty "int") (u := .type "int") (by rfl) z_int (by decide +kernel) rfl) pa_nil))) (pe_one (pe_not (pe_callB call_isi (by rfl) z_isinstance (by decide +kernel) (pa_cons (pv 0) (pa_cons (pe_bltn (v := .ty "bool") (u := .type "bool") (by rfl) z_bool (by decide +kernel) rfl) pa_nil)))))))), ?_⟩
  refine ⟨_, rfl, .int i, .ty "int", _, _, true, rfl, .ty "int", .base (.int i), kit_ty (by decide +kernel), _, rfl, ifB (fun _ => ?_) (fun h => by cases h)⟩
  exact ⟨_, rfl, .int i, .ty "bool", _, _, false, rfl, .ty "bool", .base (.int i), kit_ty (by decide +kernel), _, rfl, q⟩
abbrev sFbetw : Stmt := topS 58
def scFbetwN : List Str := ["thing", "least", "greatest"]
theorem scFbetw : FnScope scFbetwN ["thing", "least", "greatest"] (defScope sFbetw) := ⟨rfl, rfl, rfl, by decide +kernel, rfl, by decide +kernel, by decide +kernel⟩
theorem ok_Fbetw {f : Addr} {fd : FuncData} {fF_whole : Addr} {dF_whole : FuncData} (F : Fun K "is_between" "is_between" sFbetw f fd) (T : Tx K mg CB CM)
    (F_whole : CalF P w K mg base 1 "is_whole" ["thing"] (spWhole) fF_whole dF_whole) : FnOk P w K mg base CX0 2 f fd ["thing", "least", "greatest"] (spBetw) := by
  refine F.ok scFbetw (fun vs H Q E h => by obtain ⟨_, _, _, rfl, _⟩ := h; rfl) (fun cdv A outer s H vs Q E hr h => ?_)
  have hu := hu_of hr
  obtain ⟨i, a, b, rfl, q⟩ := h
  refine ⟨_, (pss_one (ps_ret (pe_and (pe_call F_whole.G (hr.mono (by decide)) (by rfl) F_whole.g F_whole.kp F_whole.b .nil pass0 (pa_cons (pv 0) pa_nil)) (pe_one (pe_chain op_le op_le (pv 1) (pv 0) (pv 2)))))), ?_⟩
  refine ⟨_, rfl, i, rfl, _, rfl, ifB (fun _ => ?_) (fun h => by cases h)⟩
  refine ⟨_, rfl, _, rfl, _, _, rfl, rfl, _, rfl, ifB (fun h => ?_) (fun h => ?_)⟩
  · have h' := of_decide_eq_true h
    have e : decide (a ≤ i ∧ i ≤ b) = decide (i ≤ b) := by simp [h']
    rw [e] at q
    exact ⟨_, rfl, _, _, rfl, rfl, q⟩
  · have h' := of_decide_eq_false h
    have e : decide (a ≤ i ∧ i ≤ b) = false := by simp [h']
    rw [e] at q
    exact q
abbrev sFword : Stmt := topS 59
def scFwordN : List Str := ["thing"]
theorem scFword : FnScope scFwordN ["thing"] (defScope sFword) := ⟨rfl, rfl, rfl, by decide +kernel, rfl, by decide +kernel, by decide +kernel⟩
theorem ok_Fword {f : Addr} {fd : FuncData} {fF_betw : Addr} {dF_betw : FuncData} (F : Fun K "is_word" "is_word" sFword f fd) (T : Tx K mg CB CM)
    (F_betw : CalF P w K mg base 2 "is_between" ["thing", "least", "greatest"] (spBetw) fF_betw dF_betw) : FnOk P w K mg base CX0 3 f fd ["thing"] (spWord) := by
  refine F.ok scFword (fun vs H Q E h => by obtain ⟨_, rfl, _⟩ := h; rfl) (fun cdv A outer s H vs Q E hr h => ?_)
  have hu := hu_of hr
  obtain ⟨t_WORD_MOST, g_WORD_MOST⟩ := T.g_WORD_MOST
  obtain ⟨i, rfl, q⟩ := h
  refine ⟨_, (pss_one (ps_ret (pe_call F_betw.G (hr.mono (by decide)) (by rfl) F_betw.g F_betw.kp F_betw.b .nil pass0 (pa_cons (pv 0) (pa_cons pe_int (pa_cons (pgI g_WORD_MOST) pa_nil)))))), ?_⟩
  exact ⟨_, rfl, i, 0, 65535, rfl, q⟩
abbrev sFimage : Stmt := topS 60
def scFimageN : List Str := ["thing", "word"]
theorem scFimage : FnScope scFimageN ["thing"] (defScope sFimage) := ⟨rfl, rfl, rfl, by decide +kernel, rfl, by decide +kernel, by decide +kernel⟩
theorem ok_Fimage {f : Addr} {fd : FuncData} {fF_word : Addr} {dF_word : FuncData} (F : Fun K "is_image" "is_image" sFimage f fd) (T : Tx K mg CB CM)
    (F_word : CalF P w K mg base 3 "is_word" ["thing"] (spWord) fF_word dF_word) : FnOk P w K mg base CX0 4 f fd ["thing"] (spImg) := by
  refine F.ok scFimage (fun vs H Q E h => by obtain ⟨_, _, rfl, _⟩ := h; rfl) (fun cdv A outer s H vs Q E hr h => ?_)
  have hu := hu_of hr
  obtain ⟨t_FLASH_END, g_FLASH_END⟩ := T.g_FLASH_END
  have z_all := T.z_all
  have z_isinstance := T.z_isinstance
  have z_len := T.z_len
  have z_list := T.z_list
  obtain ⟨im, ns, rfl, hm, hl, hw, q⟩ := h
  refine ⟨_, (pss_one (ps_ret (pe_and (pe_callB call_isi (by rfl) z_isinstance (by decide +kernel) (pa_cons (pv 0) (pa_cons (pe_bltn (v := .ty "list") (u := .type "list") (by rfl) z_list (by decide +kernel) rfl) pa_nil))) (pe_and (pe_cmpR op_le (pe_callB call_len_seq (by rfl) z_len PySem.boot_len (pa_cons (pv 0) pa_nil)) (pgI g_FLASH_END) (nomark _)) (pe_one (pe_callB (cr_all rfl) (by rfl) z_all (by decide +kernel) (pa_cons (pe_lc (own := [("word", 1)]) (g := gName 1) (tt := tYes) (by rfl) scFimage.nd (pi_list (pv 0)) (blkOk_by (own := [("word", 1)]) (N := scFimageN) (sc := defScope sFimage) (by decide +kernel)) (fun _ _ _ _ _ => (pg_name (i := 1) scFimage.nd rfl (.inl rfl))) (fun _ _ _ _ _ => pts_nil) (fun _ _ _ _ _ => (pe_call F_word.G (hr.mono (by decide)) (by rfl) F_word.g F_word.kp F_word.b .nil pass0 (pa_cons (pv 1) pa_nil)))) pa_nil))))))), ?_⟩
  refine ⟨_, rfl, .ref im, .ty "list", _, _, true, rfl, .ty "list", .base (.lst hm), kit_ty (by decide +kernel), _, rfl, ifB (fun _ => ?_) (fun h => by cases h)⟩
  refine ⟨_, rfl, im, _, rfl, .inl (SqL.of hm), _, _, rfl, rfl, _, rfl, ifB (fun _ => ?_) (fun h => absurd (show ((ns.map V.int).length : Int) ≤ 512 by rw [List.length_map]; omega) (of_decide_eq_false h))⟩
  refine ⟨_, rfl, im, rfl, ⟨_, SqL.of hm⟩, fun D nD => ?_⟩
  refine lc_list (K := K) (a := im) (xs := ns.map V.int) (fun i H' => Same H H' ∧ H' D = some (.lst ((List.replicate i true).map V.bl))) ⟨same_upd' nD, upd_same⟩ (fun i H' _ h => SqL.of (h.1 _ _ hm)) ?_ ?_
  · rintro j v H' hv ⟨sm, hD⟩
    obtain ⟨n, hn, rfl⟩ : ∃ n, ns[j]? = some n ∧ V.int n = v := by
      rw [List.getElem?_map] at hv
      cases e : ns[j]? with
      | none => rw [e] at hv; cases hv
      | some n => rw [e] at hv; exact ⟨n, rfl, Option.some.inj hv⟩
    have hj := (List.getElem?_eq_some_iff.mp hn).1
    refine ⟨rfl, ?_⟩
    refine ⟨_, rfl, n, rfl, ?_⟩
    rw [decide_eq_true (hw n (List.mem_of_getElem? hn))]
    refine ⟨_, hD, ?_, same_of sm nD, ?_⟩
    · rw [List.length_map, List.length_replicate]
      exact small1000 (by omega)
    · rw [upd_same, List.replicate_succ', List.map_append]
      rfl
  · rintro H4 ⟨sm, hD⟩
    refine ⟨D, _, rfl, SqL.of hD, ?_⟩
    have e : (List.replicate (ns.map V.int).length true).all id = true := by simp
    rw [e]
    exact q _ sm
abbrev sFlrow : Stmt := topS 62
def scFlrowN : List Str := ["row", "last"]
theorem scFlrow : FnScope scFlrowN ["row", "last"] (defScope sFlrow) := ⟨rfl, rfl, rfl, by decide +kernel, rfl, by decide +kernel, by decide +kernel⟩
theorem ok_Flrow {f : Addr} {fd : FuncData} {fF_betw : Addr} {dF_betw : FuncData} {fF_whole : Addr} {dF_whole : FuncData} (F : Fun K "is_line_row" "is_line_row" sFlrow f fd) (T : Tx K mg CB CM)
    (F_betw : CalF P w K mg base 2 "is_between" ["thing", "least", "greatest"] (spBetw) fF_betw dF_betw)
    (F_whole : CalF P w K mg base 1 "is_whole" ["thing"] (spWhole) fF_whole dF_whole) : FnOk P w K mg base CX0 3 f fd ["row", "last"] (spLRow) := by
  refine F.ok scFlrow (fun vs H Q E h => by obtain ⟨_, _, _, rfl, _⟩ := h; rfl) (fun cdv A outer s H vs Q E hr h => ?_)
  have hu := hu_of hr
  obtain ⟨t_LINE_MOST, g_LINE_MOST⟩ := T.g_LINE_MOST
  have z_isinstance := T.z_isinstance
  have z_len := T.z_len
  have z_tuple := T.z_tuple
  obtain ⟨t, r, n, rfl, ht, h1, h2, h3, q⟩ := h
  refine ⟨_, (pss_cons (ps_if (PW.pt (pw_or (pt_not (pt_val (pe_callB call_isi (by rfl) z_isinstance (by decide +kernel) (pa_cons (pv 0) (pa_cons (pe_bltn (v := .ty "tuple") (u := .type "tuple") (by rfl) z_tuple (by decide +kernel) rfl) pa_nil))))) (pw_or1 (pt_cmpR op_ne (pe_callB call_len_seq (by rfl) z_len PySem.boot_len (pa_cons (pv 0) pa_nil)) pe_int (nomark _))))) (pss_one (ps_ret pe_bl)) pss_nil)
    (pss_one (ps_ret (pe_and (pe_call F_whole.G (hr.mono (by decide)) (by rfl) F_whole.g F_whole.kp F_whole.b .nil pass0 (pa_cons (pe_ix ix_tup (pv 0) pe_int (fun _ _ => rfl)) pa_nil)) (pe_and (pe_cmpR op_gt (pe_ix ix_tup (pv 0) pe_int (fun _ _ => rfl)) (pv 1) (nomark _)) (pe_one (pe_call F_betw.G (hr.mono (by decide)) (by rfl) F_betw.g F_betw.kp F_betw.b .nil pass0 (pa_cons (pe_ix ix_tup (pv 0) pe_int (fun _ _ => rfl)) (pa_cons pe_int (pa_cons (pgI g_LINE_MOST) pa_nil)))))))))), ?_⟩
  refine ⟨_, rfl, .ref t, .ty "tuple", _, _, true, rfl, .ty "tuple", .base (.tup ht), kit_ty (by decide +kernel), _, rfl, ifN (fun h => by cases h) (fun _ => ?_)⟩
  refine ⟨_, rfl, t, _, rfl, .inr (SqT.of ht), rfl, _, rfl, ifN (fun h => absurd rfl (of_decide_eq_false h)) (fun _ => ?_)⟩
  refine ⟨_, rfl, t, _, 0, _, rfl, rfl, SqT.of ht, atI_nat (j := 0) rfl, _, rfl, _, rfl, ifB (fun _ => ?_) (fun h => by cases h)⟩
  refine ⟨_, rfl, t, _, 0, _, rfl, rfl, SqT.of ht, atI_nat (j := 0) rfl, _, rfl, _, _, rfl, rfl, _, rfl, ifB (fun _ => ?_) (fun h => absurd h1 (of_decide_eq_false h))⟩
  refine ⟨_, rfl, t, _, 1, _, rfl, rfl, SqT.of ht, atI_nat (j := 1) rfl, r.2, 0, 3, rfl, ?_⟩
  rw [decide_eq_true (⟨h2, h3⟩ : 0 ≤ r.2 ∧ r.2 ≤ 3)]
  exact q
theorem rise_get : ∀ {ls : List (Int × Int)} {n : Int} {i : Nat} {r : Int × Int}, riseM n ls → ls[i]? = some r → (if i = 0 then n else (ls.getD (i - 1) (0, 0)).1) < r.1 ∧ 0 ≤ r.2 ∧ r.2 ≤ 3
  | [], _, _, _, _, h => by cases h
  | u :: us, n, 0, r, ⟨a, b, c, _⟩, h => by
    cases h
    exact ⟨a, b, c⟩
  | u :: us, n, 1, r, ⟨_, _, _, d⟩, h => by
    have := rise_get (i := 0) d h
    exact this
  | u :: us, n, i + 2, r, ⟨_, _, _, d⟩, h => by
    have := rise_get (i := i + 1) d h
    exact this
abbrev sFline : Stmt := topS 61
def scFlineN : List Str := ["thing", "last", "row"]
theorem scFline : FnScope scFlineN ["thing"] (defScope sFline) := ⟨rfl, rfl, rfl, by decide +kernel, rfl, by decide +kernel, by decide +kernel⟩
theorem ok_Fline {f : Addr} {fd : FuncData} {fF_lrow : Addr} {dF_lrow : FuncData} (F : Fun K "is_line" "is_line" sFline f fd) (T : Tx K mg CB CM)
    (F_lrow : CalF P w K mg base 3 "is_line_row" ["row", "last"] (spLRow) fF_lrow dF_lrow) : FnOk P w K mg base CX0 4 f fd ["thing"] (spLine) := by
  refine F.ok scFline (fun vs H Q E h => by obtain ⟨_, _, _, rfl, _⟩ := h; rfl) (fun cdv A outer s H vs Q E hr h => ?_)
  have hu := hu_of hr
  have z_isinstance := T.z_isinstance
  have z_list := T.z_list
  obtain ⟨l, us, ls, rfl, hl, ht, hr2, q⟩ := h
  refine ⟨_, (pss_cons (ps_if (pt_not (pt_val (pe_callB call_isi (by rfl) z_isinstance (by decide +kernel) (pa_cons (pv 0) (pa_cons (pe_bltn (v := .ty "list") (u := .type "list") (by rfl) z_list (by decide +kernel) rfl) pa_nil))))) (pss_one (ps_ret pe_bl)) pss_nil)
    (pss_cons (ps_set (i := 1) scFline.nd rfl (.inl rfl) pe_int)
    (pss_cons (ps_for PassesOwn.never rfl (pi_list (pv 0)) (pg_name (i := 2) scFline.nd rfl (.inl rfl))
      (pss_cons (ps_if (pt_not (pt_val (pe_call F_lrow.G (hr.mono (by decide)) (by rfl) F_lrow.g F_lrow.kp F_lrow.b .nil pass0 (pa_cons (pv 2) (pa_cons (pv 1) pa_nil))))) (pss_one (ps_ret pe_bl)) pss_nil)
    (pss_one (ps_set (i := 1) scFline.nd rfl (.inl rfl) (pe_ix ix_tup (pv 2) pe_int (fun _ _ => rfl))))))
    (pss_one (ps_ret pe_bl))))), ?_⟩
  refine ⟨_, rfl, .ref l, .ty "list", _, _, true, rfl, .ty "list", .base (.lst hl), kit_ty (by decide +kernel), _, rfl, ifN (fun h => by cases h) (fun _ => ?_)⟩
  refine ⟨_, rfl, l, rfl, ⟨_, SqL.of hl⟩, ?_⟩
  refine for_list (K := K) (a := l) (xs := us) (fun i σ H' => H' = H ∧ ∃ y, σ = [some (.ref l), some (.int (if i = 0 then 0 else (ls.getD (i - 1) (0, 0)).1)), y]) ⟨rfl, none, rfl⟩ (fun i σ H' _ h => by obtain ⟨rfl, _⟩ := h; exact SqL.of hl) ?_ ?_
  · rintro i v σ H' hv ⟨rfl, y, rfl⟩
    have hi : i < ls.length := by
      rw [← TupsAt.len ht]
      exact (List.getElem?_eq_some_iff.mp hv).1
    obtain ⟨t, e1, e2⟩ := TupsAt.get ht hi
    have hv2 : v = .ref t := Option.some.inj (hv.symm.trans e1)
    subst hv2
    have hg : ls[i]? = some (ls.getD i (0, 0)) := by rw [List.getD_eq_getElem?_getD, List.getElem?_eq_getElem hi]; rfl
    obtain ⟨r1, r2, r3⟩ := rise_get hr2 hg
    refine ⟨_, rfl, _, rfl, t, _, _, rfl, e2, r1, r2, r3, _, rfl, ifN (fun h => by cases h) (fun _ => ?_)⟩
    refine ⟨_, rfl, t, _, 0, _, rfl, rfl, SqT.of e2, atI_nat (j := 0) rfl, rfl, some (.ref t), rfl⟩
  · rintro σ H' ⟨rfl, y, rfl⟩
    exact q
abbrev sCmem : Stmt := inClass (topS 52) 0
def scCmemN : List Str := ["self", "image", "erased", "nought"]
theorem scCmem : FnScope scCmemN ["self", "image"] (defScope sCmem) := ⟨rfl, rfl, rfl, by decide +kernel, rfl, by decide +kernel, by decide +kernel⟩
theorem ok_Cmem {f : Addr} {fd : FuncData} (F : Fun K "__init__" "Memory.__init__" sCmem f fd) (T : Tx K mg CB CM) : FnOk P w K mg base CX0 1 f fd ["self", "image"] (spMI CM) := by
  refine F.ok scCmem (fun vs H Q E h => by obtain ⟨_, _, _, _, rfl, _⟩ := h; rfl) (fun cdv A outer s H vs Q E hr h => ?_)
  have hu := hu_of hr
  obtain ⟨t_ERASED, g_ERASED⟩ := T.g_ERASED
  obtain ⟨t_FLASH_END, g_FLASH_END⟩ := T.g_FLASH_END
  obtain ⟨t_PLACES_END, g_PLACES_END⟩ := T.g_PLACES_END
  have z_len := T.z_len
  have z_list := T.z_list
  obtain ⟨m, dm, im, ns, rfl, hm, him, hl, q⟩ := h
  refine ⟨_, (pss_cons (ps_set (i := 2) scCmem.nd rfl (.inl rfl) (pe_op op_rep (pe_lst (pa_cons (pgI g_ERASED) pa_nil)) (pe_op op_sub (pgI g_FLASH_END) (pe_callB call_len_seq (by rfl) z_len PySem.boot_len (pa_cons (pv 1) pa_nil)))))
    (pss_cons (ps_set (i := 3) scCmem.nd rfl (.inl rfl) (pe_op op_rep (pe_lst (pa_cons pe_int pa_nil)) (pe_op op_sub (pgI g_PLACES_END) (pgI g_FLASH_END))))
    (pss_cons (ps_fld (pv 0) (pe_op op_cat (pe_op op_cat (pe_callTy call_list_of (by rfl) z_list (by decide +kernel) (pa_cons (pv 1) pa_nil)) (pv 2)) (pv 3)) rfl)
    (pss_one (ps_fld (pv 0) pe_dnewK rfl))))), ?_⟩
  have mim : m ≠ im := ne_of hm him (by intro q; cases q)
  refine ⟨(by show 1 ≤ sizeLine; decide), fun l1 n1 => ?_⟩
  have s1 : Same H (upd H l1 (.lst [.int 65535])) := same_upd' n1
  refine ⟨_, rfl, im, _, rfl, .inl (SqL.of (s1 _ _ him)), _, _, rfl, rfl, l1, _, _, rfl, rfl, upd_same, ?_, ?_, ?_, fun l2 n2 => ?_⟩
  · rw [List.length_map]; omega
  · rw [List.length_map]; omega
  · rw [List.length_map, List.length_singleton]; exact hsz (by omega)
  have e2 : (List.replicate (512 - ((ns.map V.int).length : Int)).toNat [V.int 65535]).flatten = (List.replicate (512 - ns.length) (65535 : Int)).map V.int := by
    rw [List.length_map, show (512 - (ns.length : Int)).toNat = 512 - ns.length by omega]
    exact flat_rep _ _
  rw [e2]
  have s2 := s1.trans (same_upd' (o := .lst ((List.replicate (512 - ns.length) (65535 : Int)).map V.int)) n2)
  have h2 : upd (upd H l1 (.lst [.int 65535])) l2 (.lst ((List.replicate (512 - ns.length) (65535 : Int)).map V.int)) l2 = _ := upd_same
  generalize upd (upd H l1 (.lst [.int 65535])) l2 (.lst ((List.replicate (512 - ns.length) (65535 : Int)).map V.int)) = H2 at *
  refine ⟨(by show 1 ≤ sizeLine; decide), fun l3 n3 => ?_⟩
  have s3 := s2.trans (same_upd' (o := .lst [.int 0]) n3)
  have h23 := same_upd' (o := .lst [.int 0]) n3 _ _ h2
  refine ⟨_, _, rfl, rfl, l3, _, _, rfl, rfl, upd_same, by omega, by omega, (by show 1 * 262 ≤ sizeLine; decide), fun l4 n4 => ?_⟩
  have e4 : (List.replicate ((774 : Int) - 512).toNat [V.int 0]).flatten = (List.replicate 262 (0 : Int)).map V.int := flat_rep 262 0
  rw [e4]
  have s4 := s3.trans (same_upd' (o := .lst ((List.replicate 262 (0 : Int)).map V.int)) n4)
  have h24 := same_upd' (o := .lst ((List.replicate 262 (0 : Int)).map V.int)) n4 _ _ h23
  have h4 : upd (upd H2 l3 (.lst [.int 0])) l4 (.lst ((List.replicate 262 (0 : Int)).map V.int)) l4 = _ := upd_same
  generalize upd (upd H2 l3 (.lst [.int 0])) l4 (.lst ((List.replicate 262 (0 : Int)).map V.int)) = H4 at *
  refine ⟨_, rfl, im, _, rfl, .inl (SqL.of (s4 _ _ him)), fun l5 n5 => ?_⟩
  have s5 := s4.trans (same_upd' (o := .lst (ns.map V.int)) n5)
  have h25 := same_upd' (o := .lst (ns.map V.int)) n5 _ _ h24
  have h45 := same_upd' (o := .lst (ns.map V.int)) n5 _ _ h4
  refine ⟨_, rfl, l5, l2, _, _, rfl, rfl, upd_same, h25, ?_, fun l6 n6 => ?_⟩
  · rw [List.length_map, List.length_map, List.length_replicate]; exact hsz (by omega)
  have s6 := s5.trans (same_upd' (o := .lst (ns.map V.int ++ (List.replicate (512 - ns.length) (65535 : Int)).map V.int)) n6)
  have h46 := same_upd' (o := .lst (ns.map V.int ++ (List.replicate (512 - ns.length) (65535 : Int)).map V.int)) n6 _ _ h45
  refine ⟨_, rfl, l6, l4, _, _, rfl, rfl, upd_same, h46, ?_, fun l7 n7 => ?_⟩
  · rw [List.length_append, List.length_map, List.length_map, List.length_map, List.length_replicate, List.length_replicate]; exact hsz (by omega)
  have em : ns.map V.int ++ (List.replicate (512 - ns.length) (65535 : Int)).map V.int ++ (List.replicate 262 (0 : Int)).map V.int = (memOf ns).map V.int := by
    unfold memOf
    rw [List.map_append, List.map_append]
  rw [em]
  have s7 := s6.trans (same_upd' (o := .lst ((memOf ns).map V.int)) n7)
  have f7 : H l7 = none := s6.free n7
  generalize upd (upd H4 l5 (.lst (ns.map V.int))) l6 (.lst (ns.map V.int ++ (List.replicate (512 - ns.length) (65535 : Int)).map V.int)) = H6 at *
  have h7 : upd H6 l7 (.lst ((memOf ns).map V.int)) l7 = _ := upd_same
  generalize upd H6 l7 (.lst ((memOf ns).map V.int)) = H7 at *
  have ml : m ≠ l7 := ne_of_none hm f7
  refine ⟨_, rfl, m, CM, dm, [], rfl, s7 _ _ hm, T.cM, T.n_words, (by show 0 < 1000; decide), ?_⟩
  intro s_ ns_
  have ms : m ≠ s_ := fun e => by rw [← e, upd_same] at ns_; cases ns_
  rw [upd_ne ms.symm] at ns_
  refine ⟨_, rfl, m, CM, dm, _, rfl, (by rw [upd_ne ms]; exact upd_same), T.cM, T.n_swapped, (by show 1 < 1000; decide), ?_⟩
  refine q _ l7 s_ ?_ (by rw [upd_ne ms.symm, upd_same]; rfl) ?_ f7 (s7.free ns_)
  · refine ⟨?_, ?_, ?_, ?_⟩
    · rw [upd_same]
      exact congrArg (fun z => some (HO.ins CM dm z)) (by kernel_rfl)
    · rw [upd_ne ml.symm, upd_ne (ne_of_none h7 ns_), upd_ne ml.symm]
      exact h7
    · exact ⟨_, by rw [upd_ne ms.symm, upd_same]⟩
    · unfold memOf
      rw [List.length_append, List.length_append, List.length_replicate, List.length_replicate]
      omega
  · intro b o hb e
    rw [upd_ne hb, upd_ne (ne_of_none (s7 _ _ e) ns_), upd_ne hb]
    exact s7 _ _ e
end
end Bh

/-! What deeds touch, and what they do. -/
namespace Bh
open PySem PySem.Spec PyProof.Rows L2
def touN (nm : Str) (n b sp : Int) : List (Bool × Int) :=
  if nm ∈ rdN then [(false, n)] else if nm = "put" then [(true, n)] else if nm = "getb" then [(false, n + b)] else if nm = "putb" then [(true, n + b)]
  else if nm ∈ [("call" : Str), "push"] then [(true, sp)] else if nm ∈ [("ret" : Str), "pop"] then [(false, sp + 1)] else if nm = "back" then [(false, sp + 1), (false, sp + 2)] else []
def nmOf (op : Nat) : Str := opN.getD op Str.empty
theorem touN_op (op : Nat) (h : op < 23) (n b sp : Int) : touN (nmOf op) n b sp = touM op n b sp := by
  match op, h with
  | 0, _ => kernel_rfl
  | 1, _ => kernel_rfl
  | 2, _ => kernel_rfl
  | 3, _ => kernel_rfl
  | 4, _ => kernel_rfl
  | 5, _ => kernel_rfl
  | 6, _ => kernel_rfl
  | 7, _ => kernel_rfl
  | 8, _ => kernel_rfl
  | 9, _ => kernel_rfl
  | 10, _ => kernel_rfl
  | 11, _ => kernel_rfl
  | 12, _ => kernel_rfl
  | 13, _ => kernel_rfl
  | 14, _ => kernel_rfl
  | 15, _ => kernel_rfl
  | 16, _ => kernel_rfl
  | 17, _ => kernel_rfl
  | 18, _ => kernel_rfl
  | 19, _ => kernel_rfl
  | 20, _ => kernel_rfl
  | 21, _ => kernel_rfl
  | 22, _ => kernel_rfl
  | n + 23, h => omega
def TouAt (H : Hp) : List V → List (Bool × Int) → Prop := Paired fun v t => ∃ q, v = .ref q ∧ H q = some (.tup [.str (kS t.1), .int t.2])
theorem TouAt.mono {H H' : Hp} (k : ∀ t xs, H t = some (.tup xs) → H' t = some (.tup xs)) : ∀ {us : List V} {ls : List (Bool × Int)}, TouAt H us ls → TouAt H' us ls
  | _, _, .nil => .nil
  | _, _, .cons h r => .cons (let ⟨t, e, q⟩ := h; ⟨t, e, k _ _ q⟩) (TouAt.mono k r)
theorem TouAt.len {H : Hp} : ∀ {us : List V} {ls : List (Bool × Int)}, TouAt H us ls → us.length = ls.length
  | _, _, .nil => rfl
  | _, _, .cons _ r => by rw [List.length_cons, List.length_cons, TouAt.len r]
theorem TouAt.get {H : Hp} : ∀ {us : List V} {ls : List (Bool × Int)} {i : Nat} {v : V}, TouAt H us ls → us[i]? = some v → ∃ q t, v = .ref q ∧ ls[i]? = some t ∧ H q = some (.tup [.str (kS t.1), .int t.2])
  | _, _, _, _, .nil, h => by cases h
  | _, _, 0, _, .cons h r, e => by
    obtain ⟨t, rfl, q⟩ := h
    cases e
    exact ⟨t, _, rfl, rfl, q⟩
  | _, _, i + 1, _, .cons h r, e => TouAt.get (i := i) r e
theorem in_strs (z : Str) : ∀ ys : List Str, inV (.str z) (ys.map V.str) = decide (z ∈ ys)
  | [] => rfl
  | y :: ys => by
    have ih := in_strs z ys
    unfold inV at ih ⊢
    rw [List.map_cons, List.any_cons, ih]
    show ((y == z) || decide (z ∈ ys)) = decide (z ∈ y :: ys)
    by_cases e : y = z
    · subst e
      simp
    · have e2 : ¬ z = y := fun q => e q.symm
      have : (y == z) = false := by simpa using e
      rw [this]
      simp [e2]
theorem flat_strs' (ys : List Str) : (ys.map V.str).all flatV = true := by
  rw [List.all_eq_true]
  intro v hv
  obtain ⟨y, _, rfl⟩ := List.mem_map.mp hv
  rfl
def spTou : Sp := fun vs H Q _ => ∃ (nm : Str) (n : Int) (r : Addr) (a b pc sp : Int), vs = [.str nm, .int n, .ref r] ∧ H r = some (.dK (regD a b pc sp)) ∧
  ∀ (H' : Hp) (l : Addr) (us : List V), Same H H' → H l = none → H' l = some (.lst us) → TouAt H' us (touN nm n b sp) → Q (.ref l) H'
/-- how many words it reads -/
def nR (op : Nat) : Nat :=
  match op with
  | 2 => 1
  | 4 => 1
  | 5 => 1
  | 6 => 1
  | 7 => 1
  | 8 => 1
  | 16 => 1
  | 18 => 1
  | 21 => 2
  | _ => 0
def spDo (CB CM : Addr) (op : Nat) : Sp := fun vs H Q _ => ∃ (H0 : Hp) (p lw : Addr) (x : Bd) (n : Int) (ws : List Int), vs = [.ref p, .int n, .ref lw] ∧ BoardAt CB CM H0 H p x ∧ H lw = some (.lst (ws.map V.int)) ∧ ws.length = nR op ∧
  (∀ t ∈ touM op n x.b x.sp, 0 ≤ t.2 ∧ t.2 < 774) ∧ x.sent.length < 1000000 ∧ ∀ H', BoardAt CB CM H0 H' p (doM op n ws x) → Q .non H'
def spGive (CB CM : Addr) : Sp := fun vs H Q _ => ∃ (H0 : Hp) (p : Addr) (x : Bd) (v : Int), vs = [.ref p, .int v] ∧ BoardAt CB CM H0 H p x ∧ ∀ H', BoardAt CB CM H0 H' p (giveM v x) → Q .non H'
def spPw (CB CM : Addr) : Sp := fun vs H Q _ => ∃ (H0 : Hp) (p : Addr) (x : Bd) (a v : Int), vs = [.ref p, .int a, .int v] ∧ BoardAt CB CM H0 H p x ∧ x.sent.length < 1000000 ∧ 0 ≤ a ∧ a < 774 ∧ ∀ H', BoardAt CB CM H0 H' p (putWM a v x) → Q .non H'
def spPt (CB CM : Addr) : Sp := fun vs H Q _ => ∃ (H0 : Hp) (p : Addr) (x : Bd) (a v : Int), vs = [.ref p, .int a, .int v] ∧ BoardAt CB CM H0 H p x ∧ x.sent.length < 1000000 ∧ 0 ≤ a ∧ a < 774 ∧ ∀ H', BoardAt CB CM H0 H' p (putTM a v x) → Q .non H'
theorem len1 {α : Type} {l : List α} (h : l.length = 1) : ∃ v, l = [v] := by
  match l, h with
  | [v], _ => exact ⟨v, rfl⟩
theorem len2 {α : Type} {l : List α} (h : l.length = 2) : ∃ v w, l = [v, w] := by
  match l, h with
  | [v, w], _ => exact ⟨v, w, rfl⟩
section
variable {P : Program} {w : World} {K : PySem.W.Frag} {mg : Str → Option Value} {base : Heap} {CB CM : Addr}
abbrev sFtou : Stmt := topS 5
def scFtouN : List Str := ["name", "x", "registers"]
theorem scFtou : FnScope scFtouN ["name", "x", "registers"] (defScope sFtou) := ⟨rfl, rfl, rfl, by decide +kernel, rfl, by decide +kernel, by decide +kernel⟩
theorem ok_Ftou {f : Addr} {fd : FuncData} (F : Fun K "touches_of" "touches_of" sFtou f fd) (T : Tx K mg CB CM) : FnOk P w K mg base CX0 1 f fd ["name", "x", "registers"] (spTou) := by
  refine F.ok scFtou (fun vs H Q E h => by obtain ⟨_, _, _, _, _, _, _, rfl, _⟩ := h; rfl) (fun cdv A outer s H vs Q E hr h => ?_)
  have hu := hu_of hr
  obtain ⟨nm, n, r, a, b, pc, sp, rfl, hR, q⟩ := h
  obtain ⟨aR, g_READS_AT_X, vR⟩ := T.g_READS_AT_X
  unfold touN at q
  refine ⟨_, (pss_cons (ps_if (pt_cmpR op_in_seq (pv 0) (pgR g_READS_AT_X) (by rfl)) (pss_one (ps_ret (pe_lst (pa_cons (pe_tup (pa_cons pe_str (pa_cons (pv 1) pa_nil))) pa_nil)))) pss_nil)
    (pss_cons (ps_if (pt_cmpR op_eq (pv 0) pe_str (nomark _)) (pss_one (ps_ret (pe_lst (pa_cons (pe_tup (pa_cons pe_str (pa_cons (pv 1) pa_nil))) pa_nil)))) pss_nil)
    (pss_cons (ps_if (pt_cmpR op_eq (pv 0) pe_str (nomark _)) (pss_one (ps_ret (pe_lst (pa_cons (pe_tup (pa_cons pe_str (pa_cons (pe_op op_add (pv 1) (pe_dget hu (pv 2) pe_str (fun _ _ => rfl))) pa_nil))) pa_nil)))) pss_nil)
    (pss_cons (ps_if (pt_cmpR op_eq (pv 0) pe_str (nomark _)) (pss_one (ps_ret (pe_lst (pa_cons (pe_tup (pa_cons pe_str (pa_cons (pe_op op_add (pv 1) (pe_dget hu (pv 2) pe_str (fun _ _ => rfl))) pa_nil))) pa_nil)))) pss_nil)
    (pss_cons (ps_if (pt_cmpR op_in_seq (pv 0) (pe_tup (pa_cons pe_str (pa_cons pe_str pa_nil))) (by rfl)) (pss_one (ps_ret (pe_lst (pa_cons (pe_tup (pa_cons pe_str (pa_cons (pe_dget hu (pv 2) pe_str (fun _ _ => rfl)) pa_nil))) pa_nil)))) pss_nil)
    (pss_cons (ps_if (pt_cmpR op_in_seq (pv 0) (pe_tup (pa_cons pe_str (pa_cons pe_str pa_nil))) (by rfl)) (pss_one (ps_ret (pe_lst (pa_cons (pe_tup (pa_cons pe_str (pa_cons (pe_op op_add (pe_dget hu (pv 2) pe_str (fun _ _ => rfl)) pe_int) pa_nil))) pa_nil)))) pss_nil)
    (pss_cons (ps_if (pt_cmpR op_eq (pv 0) pe_str (nomark _)) (pss_one (ps_ret (pe_lst (pa_cons (pe_tup (pa_cons pe_str (pa_cons (pe_op op_add (pe_dget hu (pv 2) pe_str (fun _ _ => rfl)) pe_int) pa_nil))) (pa_cons (pe_tup (pa_cons pe_str (pa_cons (pe_op op_add (pe_dget hu (pv 2) pe_str (fun _ _ => rfl)) pe_int) pa_nil))) pa_nil))))) pss_nil)
    (pss_one (ps_ret (pe_lst pa_nil)))))))))), ?_⟩
  refine ⟨_, rfl, aR, _, rfl, .inr (vR _), rfl, flat_strs' rdN, _, rfl, ?_⟩
  rw [if_neg Bool.false_ne_true, in_strs]
  refine ifB (fun h => ?_) (fun h => ?_)
  · rw [if_pos (of_decide_eq_true h)] at q
    exact ⟨_, rfl, (by show 2 ≤ sizeLine; decide), fun t nt => ⟨(by show 1 ≤ sizeLine; decide), fun l nl => q _ l [.ref t] ((same_upd' nt).trans (same_upd' nl)) ((same_upd' nt).free nl) upd_same (.cons ⟨t, rfl, same_upd' nl _ _ upd_same⟩ .nil)⟩⟩
  rw [if_neg (of_decide_eq_false h)] at q
  refine ⟨_, rfl, rfl, _, rfl, ifB (fun h => ?_) (fun h => ?_)⟩
  · rw [if_pos (V.str.inj (of_decide_eq_true h))] at q
    exact ⟨_, rfl, (by show 2 ≤ sizeLine; decide), fun t nt => ⟨(by show 1 ≤ sizeLine; decide), fun l nl => q _ l [.ref t] ((same_upd' nt).trans (same_upd' nl)) ((same_upd' nt).free nl) upd_same (.cons ⟨t, rfl, same_upd' nl _ _ upd_same⟩ .nil)⟩⟩
  rw [if_neg (fun z => of_decide_eq_false h (congrArg V.str z))] at q
  refine ⟨_, rfl, rfl, _, rfl, ifB (fun h => ?_) (fun h => ?_)⟩
  · rw [if_pos (V.str.inj (of_decide_eq_true h))] at q
    exact ⟨_, rfl, _, rfl, r, _, rfl, dg (k := Sum.inr "b") hR rG_b, _, _, rfl, rfl, (by show 2 ≤ sizeLine; decide), fun t nt => ⟨(by show 1 ≤ sizeLine; decide), fun l nl => q _ l [.ref t] ((same_upd' nt).trans (same_upd' nl)) ((same_upd' nt).free nl) upd_same (.cons ⟨t, rfl, same_upd' nl _ _ upd_same⟩ .nil)⟩⟩
  rw [if_neg (fun z => of_decide_eq_false h (congrArg V.str z))] at q
  refine ⟨_, rfl, rfl, _, rfl, ifB (fun h => ?_) (fun h => ?_)⟩
  · rw [if_pos (V.str.inj (of_decide_eq_true h))] at q
    exact ⟨_, rfl, _, rfl, r, _, rfl, dg (k := Sum.inr "b") hR rG_b, _, _, rfl, rfl, (by show 2 ≤ sizeLine; decide), fun t nt => ⟨(by show 1 ≤ sizeLine; decide), fun l nl => q _ l [.ref t] ((same_upd' nt).trans (same_upd' nl)) ((same_upd' nt).free nl) upd_same (.cons ⟨t, rfl, same_upd' nl _ _ upd_same⟩ .nil)⟩⟩
  rw [if_neg (fun z => of_decide_eq_false h (congrArg V.str z))] at q
  refine ⟨_, rfl, (by show 2 ≤ sizeLine; decide), fun c1 nc1 => ?_⟩
  have sc1 := same_upd' (o := .tup [V.str "call", V.str "push"]) nc1
  have hc1 : upd H c1 (.tup [V.str "call", V.str "push"]) c1 = some (.tup ([("call" : Str), "push"].map V.str)) := upd_same
  generalize upd H c1 (.tup [V.str "call", V.str "push"]) = H1 at *
  refine ⟨c1, _, rfl, .inr (SqT.of hc1), rfl, flat_strs' _, _, rfl, ?_⟩
  rw [if_neg Bool.false_ne_true, in_strs]
  refine ifB (fun h => ?_) (fun h => ?_)
  · rw [if_pos (of_decide_eq_true h)] at q
    exact ⟨_, rfl, r, _, rfl, dg (k := Sum.inr "sp") (sc1 _ _ hR) rG_sp, (by show 2 ≤ sizeLine; decide), fun t nt => ⟨(by show 1 ≤ sizeLine; decide), fun l nl => q _ l [.ref t] ((sc1.trans (same_upd' nt)).trans (same_upd' nl)) ((sc1.trans (same_upd' nt)).free nl) upd_same (.cons ⟨t, rfl, same_upd' nl _ _ upd_same⟩ .nil)⟩⟩
  rw [if_neg (of_decide_eq_false h)] at q
  refine ⟨_, rfl, (by show 2 ≤ sizeLine; decide), fun c2 nc2 => ?_⟩
  have sc2 := sc1.trans (same_upd' (o := .tup [V.str "ret", V.str "pop"]) nc2)
  have hc2 : upd H1 c2 (.tup [V.str "ret", V.str "pop"]) c2 = some (.tup ([("ret" : Str), "pop"].map V.str)) := upd_same
  generalize upd H1 c2 (.tup [V.str "ret", V.str "pop"]) = H2 at *
  refine ⟨c2, _, rfl, .inr (SqT.of hc2), rfl, flat_strs' _, _, rfl, ?_⟩
  rw [if_neg Bool.false_ne_true, in_strs]
  refine ifB (fun h => ?_) (fun h => ?_)
  · rw [if_pos (of_decide_eq_true h)] at q
    exact ⟨_, rfl, r, _, rfl, dg (k := Sum.inr "sp") (sc2 _ _ hR) rG_sp, _, _, rfl, rfl, (by show 2 ≤ sizeLine; decide), fun t nt => ⟨(by show 1 ≤ sizeLine; decide), fun l nl => q _ l [.ref t] ((sc2.trans (same_upd' nt)).trans (same_upd' nl)) ((sc2.trans (same_upd' nt)).free nl) upd_same (.cons ⟨t, rfl, same_upd' nl _ _ upd_same⟩ .nil)⟩⟩
  rw [if_neg (of_decide_eq_false h)] at q
  refine ⟨_, rfl, rfl, _, rfl, ifB (fun h => ?_) (fun h => ?_)⟩
  · rw [if_pos (V.str.inj (of_decide_eq_true h))] at q
    refine ⟨_, rfl, r, _, rfl, dg (k := Sum.inr "sp") (sc2 _ _ hR) rG_sp, _, _, rfl, rfl, (by show 2 ≤ sizeLine; decide), fun t nt => ?_⟩
    have sc3 := sc2.trans (same_upd' (o := .tup [V.str "r", V.int (sp + 1)]) nt)
    have ht : upd H2 t (.tup [V.str "r", V.int (sp + 1)]) t = some (.tup [V.str "r", V.int (sp + 1)]) := upd_same
    generalize upd H2 t (.tup [V.str "r", V.int (sp + 1)]) = H3 at *
    refine ⟨_, rfl, r, _, rfl, dg (k := Sum.inr "sp") (sc3 _ _ hR) rG_sp, _, _, rfl, rfl, (by show 2 ≤ sizeLine; decide), fun t2 nt2 => ⟨(by show 2 ≤ sizeLine; decide), fun l nl => ?_⟩⟩
    exact q _ l [.ref t, .ref t2] ((sc3.trans (same_upd' nt2)).trans (same_upd' nl)) ((sc3.trans (same_upd' nt2)).free nl) upd_same (.cons ⟨t, rfl, same_upd' nl _ _ (same_upd' nt2 _ _ ht)⟩ (.cons ⟨t2, rfl, same_upd' nl _ _ upd_same⟩ .nil))
  rw [if_neg (fun z => of_decide_eq_false h (congrArg V.str z))] at q
  exact ⟨Nat.zero_le _, fun l nl => q _ l [] (sc2.trans (same_upd' nl)) (sc2.free nl) upd_same .nil⟩
abbrev sFgive : Stmt := topS 6
def scFgiveN : List Str := ["board", "word"]
theorem scFgive : FnScope scFgiveN ["board", "word"] (defScope sFgive) := ⟨rfl, rfl, rfl, by decide +kernel, rfl, by decide +kernel, by decide +kernel⟩
theorem ok_Fgive {f : Addr} {fd : FuncData} (F : Fun K "give" "give" sFgive f fd) (T : Tx K mg CB CM) : FnOk P w K mg base CX0 1 f fd ["board", "word"] (spGive CB CM) := by
  refine F.ok scFgive (fun vs H Q E h => by obtain ⟨_, _, _, _, rfl, _⟩ := h; rfl) (fun cdv A outer s H vs Q E hr h => ?_)
  have hu := hu_of hr
  obtain ⟨H0, p, x, v, rfl, R, k⟩ := h
  obtain ⟨A, ts, ls, B⟩ := R
  obtain ⟨sv, tv, dv, hp, hz⟩ := B.hp
  refine ⟨_, (pss_cons (ps_dput hu (pe_fld (pv 0) rfl) pe_str (pv 1) rfl)
    (pss_one (ps_fld (pv 0) (pe_cmpR op_eq (pv 1) pe_int (nomark _)) rfl))), ?_⟩
  refine ⟨_, rfl, _, rfl, p, CB, A.dx, _, _, rfl, hp, T.cB, T.n_registers, bF_reg, A.r, _, rfl, dp (k := Sum.inr "a") B.hr rP_a, ?_⟩
  have B1 := B.regs (a := v) (b := x.b) (pc := x.pc) (sp := x.sp)
  obtain ⟨sv1, tv1, dv1, hp1, hz1⟩ := B1.hp
  refine ⟨_, rfl, rfl, _, rfl, p, CB, A.dx, _, rfl, hp1, T.cB, T.n_zero, (by show 13 < 1000; decide), ?_⟩
  rw [bP_zero]
  have B2 := B1.fld (z := decide (V.int v = V.int 0)) (le := x.lets) (as := x.asleep) (bt := x.beat) (sv := sv1) (la := x.la) (tv := tv1) (dv := dv1) hz1
  have e : decide (V.int v = V.int 0) = decide (v = 0) := by
    by_cases h : v = 0
    · rw [decide_eq_true h, h]; rfl
    · rw [decide_eq_false h]; exact decide_eq_false fun z => h (V.int.inj z)
  rw [e] at B2 ⊢
  exact k _ ⟨A, ts, ls, B2⟩
abbrev sMpw : Stmt := inClass (topS 69) 11
def scMpwN : List Str := ["self", "address", "word"]
theorem scMpw : FnScope scMpwN ["self", "address", "word"] (defScope sMpw) := ⟨rfl, rfl, rfl, by decide +kernel, rfl, by decide +kernel, by decide +kernel⟩
theorem ok_Mpw {f : Addr} {fd : FuncData} {fM_put : Addr} {dM_put : FuncData} (F : Fun K "put_word" "Board.put_word" sMpw f fd) (T : Tx K mg CB CM)
    (M_put : CalM P w K mg base CM 1 "put" ["self", "address", "word"] (spMPut CM) fM_put dM_put) : FnOk P w K mg base CX0 2 f fd ["self", "address", "word"] (spPw CB CM) := by
  refine F.ok scMpw (fun vs H Q E h => by obtain ⟨_, _, _, _, _, rfl, _⟩ := h; rfl) (fun cdv A outer s H vs Q E hr h => ?_)
  have hu := hu_of hr
  obtain ⟨t_LINE_OUT, g_LINE_OUT⟩ := T.g_LINE_OUT
  obtain ⟨H0, p, x, a, v, rfl, R, hsl, a0, a1, k⟩ := h
  obtain ⟨A, ts, ls, B⟩ := R
  obtain ⟨sv, tv, dv, hp, hz⟩ := B.hp
  refine ⟨_, (pss_cons (ps_if (pt_cmpR op_eq (pv 1) (pgI g_LINE_OUT) (nomark _)) (pss_one (ps_expr (pe_bm PySem.F.plainAttrs_list PySem.F.slot_list_append PySem.F.type_list_append mt_append (pe_fld (pv 0) rfl) (pa_cons (pe_tup (pa_cons (pe_fld (pv 0) rfl) (pa_cons (pv 2) pa_nil))) pa_nil)))) pss_nil)
    (pss_one (ps_expr (pe_meth (pe_fld (pv 0) rfl) M_put.c M_put.m M_put.G (hr.mono (by decide)) M_put.b .nil pass0 (pa_cons (pv 1) (pa_cons (pv 2) pa_nil)))))), ?_⟩
  have fin : ∀ H1 y ts1, Bp CB CM H0 H1 p A ts1 ls y → y = sendM a v x → ∃ sv tv dv, H1 p = some (.ins CB A.dx (bdF A.r A.t A.m A.l y.zero y.lets y.asleep y.beat sv y.la tv dv y.bend)) ∧ MemAt CM H1 A.m A.dm A.w A.s y.mem ∧ Q .non (upd H1 A.w (.lst ((putMM a v y.mem).map V.int))) := fun H1 y ts1 B1 e => by
    obtain ⟨sv, tv, dv, hp, hz⟩ := B1.hp
    refine ⟨sv, tv, dv, hp, B1.mem, k _ ⟨A, ts1, ls, ?_⟩⟩
    have B2 := B1.wds (m := putMM a v y.mem) (by rw [putMM_len]; exact B1.lm)
    have e2 : putWM a v x = { y with mem := putMM a v y.mem } := by
      unfold putWM
      rw [e]
      have : (sendM a v x).mem = x.mem := by unfold sendM; split <;> rfl
      rw [this]
    rw [e2]
    exact B2
  refine ⟨_, rfl, rfl, _, rfl, ifB (fun h => ?_) (fun h => ?_)⟩
  · have ea := V.int.inj (of_decide_eq_true h)
    refine ⟨_, rfl, p, CB, A.dx, _, _, rfl, hp, T.cB, T.n_sent, bF_sent, .inl ⟨rfl, _, SqL.of B.ht⟩, _, rfl, p, CB, A.dx, _, _, rfl, hp, T.cB, T.n_beat, bF_beat, _, rfl, (by show 2 ≤ sizeLine; decide), fun q nq => ?_⟩
    have B1 := B.more (o := .tup [V.int x.beat, V.int v]) nq
    refine ⟨A.t, ts, _, rfl, rfl, B1.ht, (by rw [TupsAt.len B.us]; exact Nat.lt_of_lt_of_le hsl (by decide)), ?_⟩
    have B2 := B1.snd (q := q) (u := (x.beat, v)) upd_same
    obtain ⟨sv2, tv2, dv2, hp2, M2, fin2⟩ := fin _ _ _ B2 (by unfold sendM; rw [if_pos ea])
    exact ⟨_, rfl, p, CB, A.dx, _, _, rfl, hp2, T.cB, T.n_memory, bF_mem, A.m, A.dm, _, rfl, M2.hm, mN_put, _, rfl, _, rfl, A.m, A.dm, A.w, A.s, _, a, v, rfl, M2, a0, a1, fin2⟩
  · have ea : ¬ a = 773 := fun z => of_decide_eq_false h (congrArg V.int z)
    obtain ⟨sv2, tv2, dv2, hp2, M2, fin2⟩ := fin _ _ _ B (by unfold sendM; rw [if_neg ea])
    exact ⟨_, rfl, p, CB, A.dx, _, _, rfl, hp2, T.cB, T.n_memory, bF_mem, A.m, A.dm, _, rfl, M2.hm, mN_put, _, rfl, _, rfl, A.m, A.dm, A.w, A.s, _, a, v, rfl, M2, a0, a1, fin2⟩
abbrev sMpbt : Stmt := inClass (topS 69) 10
def scMpbtN : List Str := ["self", "address", "word"]
theorem scMpbt : FnScope scMpbtN ["self", "address", "word"] (defScope sMpbt) := ⟨rfl, rfl, rfl, by decide +kernel, rfl, by decide +kernel, by decide +kernel⟩
theorem ok_Mpbt {f : Addr} {fd : FuncData} {fM_pw : Addr} {dM_pw : FuncData} (F : Fun K "put_by_turn" "Board.put_by_turn" sMpbt f fd) (T : Tx K mg CB CM)
    (M_pw : CalM P w K mg base CB 2 "put_word" ["self", "address", "word"] (spPw CB CM) fM_pw dM_pw) : FnOk P w K mg base CX0 3 f fd ["self", "address", "word"] (spPt CB CM) := by
  refine F.ok scMpbt (fun vs H Q E h => by obtain ⟨_, _, _, _, _, rfl, _⟩ := h; rfl) (fun cdv A outer s H vs Q E hr h => ?_)
  have hu := hu_of hr
  obtain ⟨H0, p, x, a, v, rfl, R, hsl, a0, a1, k⟩ := h
  obtain ⟨A, ts, ls, B⟩ := R
  obtain ⟨sv, tv, dv, hp, hz⟩ := B.hp
  refine ⟨_, (pss_cons (ps_if (pt_cmp (pc_din hu (pv 1) (pe_fld (pe_fld (pv 0) rfl) rfl))) (pss_one (ps_ddel (pe_fld (pe_fld (pv 0) rfl) rfl) (pv 1))) pss_nil)
    (pss_one (ps_expr (pe_meth (pv 0) M_pw.c M_pw.m M_pw.G (hr.mono (by decide)) M_pw.b .nil pass0 (pa_cons (pv 1) (pa_cons (pv 2) pa_nil)))))), ?_⟩
  refine ⟨_, rfl, _, rfl, p, CB, A.dx, _, _, rfl, hp, T.cB, T.n_memory, bF_mem, A.m, CM, A.dm, _, _, rfl, B.hm, T.cM, T.n_swapped, mF_s, A.s, _, rfl, DGet.k (k := Sum.inl a) B.hs, _, rfl, ?_⟩
  rw [swD_some]
  refine ifB (fun h1 => ?_) (fun h1 => ?_)
  · refine ⟨_, rfl, p, CB, A.dx, _, _, rfl, hp, T.cB, T.n_memory, bF_mem, A.m, CM, A.dm, _, _, rfl, B.hm, T.cM, T.n_swapped, mF_s, _, rfl, A.s, swD x.sw, Sum.inl a, rfl, B.hs, rfl, (by rw [swD_some]; exact h1), ?_⟩
    rw [swD_drop]
    have B1 := B.swp (sw := x.sw.filter fun i => decide (i ≠ a))
    obtain ⟨sv1, tv1, dv1, hp1, hz1⟩ := B1.hp
    exact ⟨_, rfl, p, A.dx, _, rfl, hp1, bN_pw, _, rfl, _, rfl, H0, p, _, a, v, rfl, ⟨A, ts, ls, B1⟩, hsl, a0, a1, k⟩
  · have e : (x.sw.filter fun i => decide (i ≠ a)) = x.sw := by
      rw [List.filter_eq_self]
      intro i hi
      exact decide_eq_true fun z => of_decide_eq_false h1 (z ▸ hi)
    unfold putTM at k
    rw [e] at k
    exact ⟨_, rfl, p, A.dx, _, rfl, hp, bN_pw, _, rfl, _, rfl, H0, p, x, a, v, rfl, ⟨A, ts, ls, B⟩, hsl, a0, a1, k⟩
end
end Bh

/-! What each deed does. -/
namespace Bh
open PySem PySem.Spec PyProof.Rows L2
section
variable {P : Program} {w : World} {K : PySem.W.Frag} {mg : Str → Option Value} {base : Heap} {CB CM : Addr}
abbrev sD1 : Stmt := topS 7
def scD1N : List Str := ["board", "x", "words"]
theorem scD1 : FnScope scD1N ["board", "x", "words"] (defScope sD1) := ⟨rfl, rfl, rfl, by decide +kernel, rfl, by decide +kernel, by decide +kernel⟩
theorem ok_D1 {f : Addr} {fd : FuncData} {fF_give : Addr} {dF_give : FuncData} (F : Fun K "do_lit" "do_lit" sD1 f fd) (T : Tx K mg CB CM)
    (F_give : CalF P w K mg base 1 "give" ["board", "word"] (spGive CB CM) fF_give dF_give) : FnOk P w K mg base CX0 4 f fd ["board", "x", "words"] (spDo CB CM 1) := by
  refine F.ok scD1 (fun vs H Q E h => by obtain ⟨_, _, _, _, _, _, rfl, _⟩ := h; rfl) (fun cdv A outer s H vs Q E hr h => ?_)
  have hu := hu_of hr
  obtain ⟨H0, p, lw, x, n, ws, rfl, R, hlw, hws, hto, hsl, k⟩ := h
  refine ⟨_, (pss_one (ps_expr (pe_call F_give.G (hr.mono (by decide)) (by rfl) F_give.g F_give.kp F_give.b .nil pass0 (pa_cons (pv 0) (pa_cons (pv 1) pa_nil))))), ?_⟩
  exact ⟨_, rfl, _, rfl, H0, p, x, n, rfl, R, k⟩
abbrev sD2 : Stmt := topS 8
def scD2N : List Str := ["board", "x", "words"]
theorem scD2 : FnScope scD2N ["board", "x", "words"] (defScope sD2) := ⟨rfl, rfl, rfl, by decide +kernel, rfl, by decide +kernel, by decide +kernel⟩
theorem ok_D2 {f : Addr} {fd : FuncData} {fF_give : Addr} {dF_give : FuncData} (F : Fun K "do_get" "do_get" sD2 f fd) (T : Tx K mg CB CM)
    (F_give : CalF P w K mg base 1 "give" ["board", "word"] (spGive CB CM) fF_give dF_give) : FnOk P w K mg base CX0 4 f fd ["board", "x", "words"] (spDo CB CM 2) := by
  refine F.ok scD2 (fun vs H Q E h => by obtain ⟨_, _, _, _, _, _, rfl, _⟩ := h; rfl) (fun cdv A outer s H vs Q E hr h => ?_)
  have hu := hu_of hr
  obtain ⟨H0, p, lw, x, n, ws, rfl, R, hlw, hws, hto, hsl, k⟩ := h
  obtain ⟨v, rfl⟩ := len1 hws
  refine ⟨_, (pss_one (ps_expr (pe_call F_give.G (hr.mono (by decide)) (by rfl) F_give.g F_give.kp F_give.b .nil pass0 (pa_cons (pv 0) (pa_cons (pe_ix ix_list (pv 2) pe_int (fun _ _ => rfl)) pa_nil))))), ?_⟩
  exact ⟨_, rfl, _, rfl, lw, _, 0, _, rfl, rfl, SqL.of hlw, atI_nat (j := 0) rfl, H0, p, x, v, rfl, R, k⟩
abbrev sD8 : Stmt := topS 8
def scD8N : List Str := ["board", "x", "words"]
theorem scD8 : FnScope scD8N ["board", "x", "words"] (defScope sD8) := ⟨rfl, rfl, rfl, by decide +kernel, rfl, by decide +kernel, by decide +kernel⟩
theorem ok_D8 {f : Addr} {fd : FuncData} {fF_give : Addr} {dF_give : FuncData} (F : Fun K "do_get" "do_get" sD8 f fd) (T : Tx K mg CB CM)
    (F_give : CalF P w K mg base 1 "give" ["board", "word"] (spGive CB CM) fF_give dF_give) : FnOk P w K mg base CX0 4 f fd ["board", "x", "words"] (spDo CB CM 8) := by
  refine F.ok scD8 (fun vs H Q E h => by obtain ⟨_, _, _, _, _, _, rfl, _⟩ := h; rfl) (fun cdv A outer s H vs Q E hr h => ?_)
  have hu := hu_of hr
  obtain ⟨H0, p, lw, x, n, ws, rfl, R, hlw, hws, hto, hsl, k⟩ := h
  obtain ⟨v, rfl⟩ := len1 hws
  refine ⟨_, (pss_one (ps_expr (pe_call F_give.G (hr.mono (by decide)) (by rfl) F_give.g F_give.kp F_give.b .nil pass0 (pa_cons (pv 0) (pa_cons (pe_ix ix_list (pv 2) pe_int (fun _ _ => rfl)) pa_nil))))), ?_⟩
  exact ⟨_, rfl, _, rfl, lw, _, 0, _, rfl, rfl, SqL.of hlw, atI_nat (j := 0) rfl, H0, p, x, v, rfl, R, k⟩
abbrev sD3 : Stmt := topS 9
def scD3N : List Str := ["board", "x", "words"]
theorem scD3 : FnScope scD3N ["board", "x", "words"] (defScope sD3) := ⟨rfl, rfl, rfl, by decide +kernel, rfl, by decide +kernel, by decide +kernel⟩
theorem ok_D3 {f : Addr} {fd : FuncData} {fM_pbt : Addr} {dM_pbt : FuncData} (F : Fun K "do_put" "do_put" sD3 f fd) (T : Tx K mg CB CM)
    (M_pbt : CalM P w K mg base CB 3 "put_by_turn" ["self", "address", "word"] (spPt CB CM) fM_pbt dM_pbt) : FnOk P w K mg base CX0 4 f fd ["board", "x", "words"] (spDo CB CM 3) := by
  refine F.ok scD3 (fun vs H Q E h => by obtain ⟨_, _, _, _, _, _, rfl, _⟩ := h; rfl) (fun cdv A outer s H vs Q E hr h => ?_)
  have hu := hu_of hr
  obtain ⟨H0, p, lw, x, n, ws, rfl, R, hlw, hws, hto, hsl, k⟩ := h
  obtain ⟨A, ts, ls, B⟩ := R
  obtain ⟨sv, tv, dv, hp, hz⟩ := B.hp
  obtain ⟨t0, t1⟩ := hto (true, n) (List.mem_singleton.mpr rfl)
  refine ⟨_, (pss_one (ps_expr (pe_meth (pv 0) M_pbt.c M_pbt.m M_pbt.G (hr.mono (by decide)) M_pbt.b .nil pass0 (pa_cons (pv 1) (pa_cons (pe_dget hu (pe_fld (pv 0) rfl) pe_str (fun _ _ => rfl)) pa_nil))))), ?_⟩
  exact ⟨_, rfl, p, A.dx, _, rfl, hp, bN_pbt, _, rfl, _, rfl, p, CB, A.dx, _, _, rfl, hp, T.cB, T.n_registers, bF_reg, A.r, _, rfl, dg (k := Sum.inr "a") B.hr rG_a, H0, p, x, n, x.a, rfl, ⟨A, ts, ls, B⟩, hsl, t0, t1, k⟩
abbrev sD4 : Stmt := topS 10
def scD4N : List Str := ["board", "x", "words"]
theorem scD4 : FnScope scD4N ["board", "x", "words"] (defScope sD4) := ⟨rfl, rfl, rfl, by decide +kernel, rfl, by decide +kernel, by decide +kernel⟩
theorem ok_D4 {f : Addr} {fd : FuncData} {fF_give : Addr} {dF_give : FuncData} (F : Fun K "do_add" "do_add" sD4 f fd) (T : Tx K mg CB CM)
    (F_give : CalF P w K mg base 1 "give" ["board", "word"] (spGive CB CM) fF_give dF_give) : FnOk P w K mg base CX0 4 f fd ["board", "x", "words"] (spDo CB CM 4) := by
  refine F.ok scD4 (fun vs H Q E h => by obtain ⟨_, _, _, _, _, _, rfl, _⟩ := h; rfl) (fun cdv A outer s H vs Q E hr h => ?_)
  have hu := hu_of hr
  obtain ⟨t_WORDS, g_WORDS⟩ := T.g_WORDS
  obtain ⟨H0, p, lw, x, n, ws, rfl, R, hlw, hws, hto, hsl, k⟩ := h
  obtain ⟨v, rfl⟩ := len1 hws
  obtain ⟨A, ts, ls, B⟩ := R
  obtain ⟨sv, tv, dv, hp, hz⟩ := B.hp
  refine ⟨_, (pss_one (ps_expr (pe_call F_give.G (hr.mono (by decide)) (by rfl) F_give.g F_give.kp F_give.b .nil pass0 (pa_cons (pv 0) (pa_cons (pe_op op_mod (pe_op op_add (pe_dget hu (pe_fld (pv 0) rfl) pe_str (fun _ _ => rfl)) (pe_ix ix_list (pv 2) pe_int (fun _ _ => rfl))) (pgI g_WORDS)) pa_nil))))), ?_⟩
  exact ⟨_, rfl, _, rfl, p, CB, A.dx, _, _, rfl, hp, T.cB, T.n_registers, bF_reg, A.r, _, rfl, dg (k := Sum.inr "a") B.hr rG_a, _, rfl, lw, _, 0, _, rfl, rfl, SqL.of hlw, atI_nat (j := 0) rfl, _, _, rfl, rfl, _, _, rfl, rfl, (by show (0 : Int) < 65536; decide), H0, p, x, (x.a + v) % 65536, rfl, ⟨A, ts, ls, B⟩, k⟩
abbrev sD5 : Stmt := topS 11
def scD5N : List Str := ["board", "x", "words"]
theorem scD5 : FnScope scD5N ["board", "x", "words"] (defScope sD5) := ⟨rfl, rfl, rfl, by decide +kernel, rfl, by decide +kernel, by decide +kernel⟩
theorem ok_D5 {f : Addr} {fd : FuncData} {fF_give : Addr} {dF_give : FuncData} (F : Fun K "do_sub" "do_sub" sD5 f fd) (T : Tx K mg CB CM)
    (F_give : CalF P w K mg base 1 "give" ["board", "word"] (spGive CB CM) fF_give dF_give) : FnOk P w K mg base CX0 4 f fd ["board", "x", "words"] (spDo CB CM 5) := by
  refine F.ok scD5 (fun vs H Q E h => by obtain ⟨_, _, _, _, _, _, rfl, _⟩ := h; rfl) (fun cdv A outer s H vs Q E hr h => ?_)
  have hu := hu_of hr
  obtain ⟨t_WORDS, g_WORDS⟩ := T.g_WORDS
  obtain ⟨H0, p, lw, x, n, ws, rfl, R, hlw, hws, hto, hsl, k⟩ := h
  obtain ⟨v, rfl⟩ := len1 hws
  obtain ⟨A, ts, ls, B⟩ := R
  obtain ⟨sv, tv, dv, hp, hz⟩ := B.hp
  refine ⟨_, (pss_one (ps_expr (pe_call F_give.G (hr.mono (by decide)) (by rfl) F_give.g F_give.kp F_give.b .nil pass0 (pa_cons (pv 0) (pa_cons (pe_op op_mod (pe_op op_sub (pe_dget hu (pe_fld (pv 0) rfl) pe_str (fun _ _ => rfl)) (pe_ix ix_list (pv 2) pe_int (fun _ _ => rfl))) (pgI g_WORDS)) pa_nil))))), ?_⟩
  exact ⟨_, rfl, _, rfl, p, CB, A.dx, _, _, rfl, hp, T.cB, T.n_registers, bF_reg, A.r, _, rfl, dg (k := Sum.inr "a") B.hr rG_a, _, rfl, lw, _, 0, _, rfl, rfl, SqL.of hlw, atI_nat (j := 0) rfl, _, _, rfl, rfl, _, _, rfl, rfl, (by show (0 : Int) < 65536; decide), H0, p, x, (x.a - v) % 65536, rfl, ⟨A, ts, ls, B⟩, k⟩
abbrev sD6 : Stmt := topS 12
def scD6N : List Str := ["board", "x", "words"]
theorem scD6 : FnScope scD6N ["board", "x", "words"] (defScope sD6) := ⟨rfl, rfl, rfl, by decide +kernel, rfl, by decide +kernel, by decide +kernel⟩
theorem ok_D6 {f : Addr} {fd : FuncData} {fF_give : Addr} {dF_give : FuncData} (F : Fun K "do_and" "do_and" sD6 f fd) (T : Tx K mg CB CM)
    (F_give : CalF P w K mg base 1 "give" ["board", "word"] (spGive CB CM) fF_give dF_give) : FnOk P w K mg base CX0 4 f fd ["board", "x", "words"] (spDo CB CM 6) := by
  refine F.ok scD6 (fun vs H Q E h => by obtain ⟨_, _, _, _, _, _, rfl, _⟩ := h; rfl) (fun cdv A outer s H vs Q E hr h => ?_)
  have hu := hu_of hr
  obtain ⟨H0, p, lw, x, n, ws, rfl, R, hlw, hws, hto, hsl, k⟩ := h
  obtain ⟨v, rfl⟩ := len1 hws
  obtain ⟨A, ts, ls, B⟩ := R
  obtain ⟨sv, tv, dv, hp, hz⟩ := B.hp
  refine ⟨_, (pss_one (ps_expr (pe_call F_give.G (hr.mono (by decide)) (by rfl) F_give.g F_give.kp F_give.b .nil pass0 (pa_cons (pv 0) (pa_cons (pe_op op_and (pe_dget hu (pe_fld (pv 0) rfl) pe_str (fun _ _ => rfl)) (pe_ix ix_list (pv 2) pe_int (fun _ _ => rfl))) pa_nil))))), ?_⟩
  exact ⟨_, rfl, _, rfl, p, CB, A.dx, _, _, rfl, hp, T.cB, T.n_registers, bF_reg, A.r, _, rfl, dg (k := Sum.inr "a") B.hr rG_a, _, rfl, lw, _, 0, _, rfl, rfl, SqL.of hlw, atI_nat (j := 0) rfl, _, _, rfl, rfl, H0, p, x, Builtin.bitAnd x.a v, rfl, ⟨A, ts, ls, B⟩, k⟩
abbrev sD7 : Stmt := topS 13
def scD7N : List Str := ["board", "x", "words"]
theorem scD7 : FnScope scD7N ["board", "x", "words"] (defScope sD7) := ⟨rfl, rfl, rfl, by decide +kernel, rfl, by decide +kernel, by decide +kernel⟩
theorem ok_D7 {f : Addr} {fd : FuncData} {fF_give : Addr} {dF_give : FuncData} (F : Fun K "do_xor" "do_xor" sD7 f fd) (T : Tx K mg CB CM)
    (F_give : CalF P w K mg base 1 "give" ["board", "word"] (spGive CB CM) fF_give dF_give) : FnOk P w K mg base CX0 4 f fd ["board", "x", "words"] (spDo CB CM 7) := by
  refine F.ok scD7 (fun vs H Q E h => by obtain ⟨_, _, _, _, _, _, rfl, _⟩ := h; rfl) (fun cdv A outer s H vs Q E hr h => ?_)
  have hu := hu_of hr
  obtain ⟨H0, p, lw, x, n, ws, rfl, R, hlw, hws, hto, hsl, k⟩ := h
  obtain ⟨v, rfl⟩ := len1 hws
  obtain ⟨A, ts, ls, B⟩ := R
  obtain ⟨sv, tv, dv, hp, hz⟩ := B.hp
  refine ⟨_, (pss_one (ps_expr (pe_call F_give.G (hr.mono (by decide)) (by rfl) F_give.g F_give.kp F_give.b .nil pass0 (pa_cons (pv 0) (pa_cons (pe_op op_xor (pe_dget hu (pe_fld (pv 0) rfl) pe_str (fun _ _ => rfl)) (pe_ix ix_list (pv 2) pe_int (fun _ _ => rfl))) pa_nil))))), ?_⟩
  exact ⟨_, rfl, _, rfl, p, CB, A.dx, _, _, rfl, hp, T.cB, T.n_registers, bF_reg, A.r, _, rfl, dg (k := Sum.inr "a") B.hr rG_a, _, rfl, lw, _, 0, _, rfl, rfl, SqL.of hlw, atI_nat (j := 0) rfl, _, _, rfl, rfl, H0, p, x, Builtin.bitXor x.a v, rfl, ⟨A, ts, ls, B⟩, k⟩
abbrev sD9 : Stmt := topS 14
def scD9N : List Str := ["board", "x", "words"]
theorem scD9 : FnScope scD9N ["board", "x", "words"] (defScope sD9) := ⟨rfl, rfl, rfl, by decide +kernel, rfl, by decide +kernel, by decide +kernel⟩
theorem ok_D9 {f : Addr} {fd : FuncData} {fM_pbt : Addr} {dM_pbt : FuncData} (F : Fun K "do_putb" "do_putb" sD9 f fd) (T : Tx K mg CB CM)
    (M_pbt : CalM P w K mg base CB 3 "put_by_turn" ["self", "address", "word"] (spPt CB CM) fM_pbt dM_pbt) : FnOk P w K mg base CX0 4 f fd ["board", "x", "words"] (spDo CB CM 9) := by
  refine F.ok scD9 (fun vs H Q E h => by obtain ⟨_, _, _, _, _, _, rfl, _⟩ := h; rfl) (fun cdv A outer s H vs Q E hr h => ?_)
  have hu := hu_of hr
  obtain ⟨H0, p, lw, x, n, ws, rfl, R, hlw, hws, hto, hsl, k⟩ := h
  obtain ⟨A, ts, ls, B⟩ := R
  obtain ⟨sv, tv, dv, hp, hz⟩ := B.hp
  obtain ⟨t0, t1⟩ := hto (true, n + x.b) (List.mem_singleton.mpr rfl)
  refine ⟨_, (pss_one (ps_expr (pe_meth (pv 0) M_pbt.c M_pbt.m M_pbt.G (hr.mono (by decide)) M_pbt.b .nil pass0 (pa_cons (pe_op op_add (pv 1) (pe_dget hu (pe_fld (pv 0) rfl) pe_str (fun _ _ => rfl))) (pa_cons (pe_dget hu (pe_fld (pv 0) rfl) pe_str (fun _ _ => rfl)) pa_nil))))), ?_⟩
  exact ⟨_, rfl, p, A.dx, _, rfl, hp, bN_pbt, _, rfl, _, rfl, p, CB, A.dx, _, _, rfl, hp, T.cB, T.n_registers, bF_reg, A.r, _, rfl, dg (k := Sum.inr "b") B.hr rG_b, _, _, rfl, rfl, _, rfl, p, CB, A.dx, _, _, rfl, hp, T.cB, T.n_registers, bF_reg, A.r, _, rfl, dg (k := Sum.inr "a") B.hr rG_a, H0, p, x, (n + x.b), x.a, rfl, ⟨A, ts, ls, B⟩, hsl, t0, t1, k⟩
abbrev sD10 : Stmt := topS 15
def scD10N : List Str := ["board", "x", "words"]
theorem scD10 : FnScope scD10N ["board", "x", "words"] (defScope sD10) := ⟨rfl, rfl, rfl, by decide +kernel, rfl, by decide +kernel, by decide +kernel⟩
theorem ok_D10 {f : Addr} {fd : FuncData} (F : Fun K "do_tob" "do_tob" sD10 f fd) (T : Tx K mg CB CM) : FnOk P w K mg base CX0 4 f fd ["board", "x", "words"] (spDo CB CM 10) := by
  refine F.ok scD10 (fun vs H Q E h => by obtain ⟨_, _, _, _, _, _, rfl, _⟩ := h; rfl) (fun cdv A outer s H vs Q E hr h => ?_)
  have hu := hu_of hr
  obtain ⟨H0, p, lw, x, n, ws, rfl, R, hlw, hws, hto, hsl, k⟩ := h
  obtain ⟨A, ts, ls, B⟩ := R
  obtain ⟨sv, tv, dv, hp, hz⟩ := B.hp
  refine ⟨_, (pss_one (ps_dput hu (pe_fld (pv 0) rfl) pe_str (pe_dget hu (pe_fld (pv 0) rfl) pe_str (fun _ _ => rfl)) rfl)), ?_⟩
  exact ⟨_, rfl, p, CB, A.dx, _, _, rfl, hp, T.cB, T.n_registers, bF_reg, A.r, _, rfl, dg (k := Sum.inr "a") B.hr rG_a, _, rfl, p, CB, A.dx, _, _, rfl, hp, T.cB, T.n_registers, bF_reg, A.r, _, rfl, dp (k := Sum.inr "b") B.hr rP_b, k _ ⟨A, ts, ls, B.regs (a := x.a) (b := x.a) (pc := x.pc) (sp := x.sp)⟩⟩
abbrev sD11 : Stmt := topS 16
def scD11N : List Str := ["board", "x", "words", "a"]
theorem scD11 : FnScope scD11N ["board", "x", "words"] (defScope sD11) := ⟨rfl, rfl, rfl, by decide +kernel, rfl, by decide +kernel, by decide +kernel⟩
theorem ok_D11 {f : Addr} {fd : FuncData} {fF_give : Addr} {dF_give : FuncData} (F : Fun K "do_swap" "do_swap" sD11 f fd) (T : Tx K mg CB CM)
    (F_give : CalF P w K mg base 1 "give" ["board", "word"] (spGive CB CM) fF_give dF_give) : FnOk P w K mg base CX0 4 f fd ["board", "x", "words"] (spDo CB CM 11) := by
  refine F.ok scD11 (fun vs H Q E h => by obtain ⟨_, _, _, _, _, _, rfl, _⟩ := h; rfl) (fun cdv A outer s H vs Q E hr h => ?_)
  have hu := hu_of hr
  obtain ⟨H0, p, lw, x, n, ws, rfl, R, hlw, hws, hto, hsl, k⟩ := h
  obtain ⟨A, ts, ls, B⟩ := R
  obtain ⟨sv, tv, dv, hp, hz⟩ := B.hp
  refine ⟨_, (pss_cons (ps_set (i := 3) scD11.nd rfl (.inl rfl) (pe_dget hu (pe_fld (pv 0) rfl) pe_str (fun _ _ => rfl)))
    (pss_cons (ps_expr (pe_call F_give.G (hr.mono (by decide)) (by rfl) F_give.g F_give.kp F_give.b .nil pass0 (pa_cons (pv 0) (pa_cons (pe_dget hu (pe_fld (pv 0) rfl) pe_str (fun _ _ => rfl)) pa_nil))))
    (pss_one (ps_dput hu (pe_fld (pv 0) rfl) pe_str (pv 3) rfl)))), ?_⟩
  refine ⟨_, rfl, p, CB, A.dx, _, _, rfl, hp, T.cB, T.n_registers, bF_reg, A.r, _, rfl, dg (k := Sum.inr "a") B.hr rG_a, _, rfl, _, rfl, p, CB, A.dx, _, _, rfl, hp, T.cB, T.n_registers, bF_reg, A.r, _, rfl, dg (k := Sum.inr "b") B.hr rG_b, H0, p, x, x.b, rfl, ⟨A, ts, ls, B⟩, fun H1 R1 => ?_⟩
  obtain ⟨A1, ts1, ls1, B1⟩ := R1
  obtain ⟨sv1, tv1, dv1, hp1, hz1⟩ := B1.hp
  exact ⟨_, rfl, _, rfl, p, CB, A1.dx, _, _, rfl, hp1, T.cB, T.n_registers, bF_reg, A1.r, _, rfl, dp (k := Sum.inr "b") B1.hr rP_b, k _ ⟨A1, ts1, ls1, B1.regs (a := x.b) (b := x.a) (pc := x.pc) (sp := x.sp)⟩⟩
abbrev sD12 : Stmt := topS 17
def scD12N : List Str := ["board", "x", "words"]
theorem scD12 : FnScope scD12N ["board", "x", "words"] (defScope sD12) := ⟨rfl, rfl, rfl, by decide +kernel, rfl, by decide +kernel, by decide +kernel⟩
theorem ok_D12 {f : Addr} {fd : FuncData} (F : Fun K "do_go" "do_go" sD12 f fd) (T : Tx K mg CB CM) : FnOk P w K mg base CX0 4 f fd ["board", "x", "words"] (spDo CB CM 12) := by
  refine F.ok scD12 (fun vs H Q E h => by obtain ⟨_, _, _, _, _, _, rfl, _⟩ := h; rfl) (fun cdv A outer s H vs Q E hr h => ?_)
  have hu := hu_of hr
  obtain ⟨H0, p, lw, x, n, ws, rfl, R, hlw, hws, hto, hsl, k⟩ := h
  obtain ⟨A, ts, ls, B⟩ := R
  obtain ⟨sv, tv, dv, hp, hz⟩ := B.hp
  refine ⟨_, (pss_one (ps_dput hu (pe_fld (pv 0) rfl) pe_str (pv 1) rfl)), ?_⟩
  exact ⟨_, rfl, _, rfl, p, CB, A.dx, _, _, rfl, hp, T.cB, T.n_registers, bF_reg, A.r, _, rfl, dp (k := Sum.inr "pc") B.hr rP_pc, k _ ⟨A, ts, ls, B.regs (a := x.a) (b := x.b) (pc := n) (sp := x.sp)⟩⟩
abbrev sD13 : Stmt := topS 18
def scD13N : List Str := ["board", "x", "words"]
theorem scD13 : FnScope scD13N ["board", "x", "words"] (defScope sD13) := ⟨rfl, rfl, rfl, by decide +kernel, rfl, by decide +kernel, by decide +kernel⟩
theorem ok_D13 {f : Addr} {fd : FuncData} (F : Fun K "do_ifz" "do_ifz" sD13 f fd) (T : Tx K mg CB CM) : FnOk P w K mg base CX0 4 f fd ["board", "x", "words"] (spDo CB CM 13) := by
  refine F.ok scD13 (fun vs H Q E h => by obtain ⟨_, _, _, _, _, _, rfl, _⟩ := h; rfl) (fun cdv A outer s H vs Q E hr h => ?_)
  have hu := hu_of hr
  obtain ⟨H0, p, lw, x, n, ws, rfl, R, hlw, hws, hto, hsl, k⟩ := h
  obtain ⟨A, ts, ls, B⟩ := R
  obtain ⟨sv, tv, dv, hp, hz⟩ := B.hp
  refine ⟨_, (pss_one (ps_if (pt_val (pe_fld (pv 0) rfl)) (pss_one (ps_dput hu (pe_fld (pv 0) rfl) pe_str (pv 1) rfl)) pss_nil)), ?_⟩
  refine ⟨_, rfl, p, CB, A.dx, _, _, rfl, hp, T.cB, T.n_zero, bF_zero, _, rfl, ifB (fun h => ?_) (fun h => ?_)⟩
  · have e : doM 13 n ws x = { x with pc := n } := if_pos h
    rw [e] at k
    exact ⟨_, rfl, _, rfl, p, CB, A.dx, _, _, rfl, hp, T.cB, T.n_registers, bF_reg, A.r, _, rfl, dp (k := Sum.inr "pc") B.hr rP_pc, k _ ⟨A, ts, ls, B.regs (a := x.a) (b := x.b) (pc := n) (sp := x.sp)⟩⟩
  · have e : doM 13 n ws x = x := if_neg (by rw [h]; decide)
    rw [e] at k
    exact k _ ⟨A, ts, ls, B⟩
abbrev sD14 : Stmt := topS 19
def scD14N : List Str := ["board", "x", "words"]
theorem scD14 : FnScope scD14N ["board", "x", "words"] (defScope sD14) := ⟨rfl, rfl, rfl, by decide +kernel, rfl, by decide +kernel, by decide +kernel⟩
theorem ok_D14 {f : Addr} {fd : FuncData} (F : Fun K "do_ifn" "do_ifn" sD14 f fd) (T : Tx K mg CB CM) : FnOk P w K mg base CX0 4 f fd ["board", "x", "words"] (spDo CB CM 14) := by
  refine F.ok scD14 (fun vs H Q E h => by obtain ⟨_, _, _, _, _, _, rfl, _⟩ := h; rfl) (fun cdv A outer s H vs Q E hr h => ?_)
  have hu := hu_of hr
  obtain ⟨t_HIGH, g_HIGH⟩ := T.g_HIGH
  obtain ⟨H0, p, lw, x, n, ws, rfl, R, hlw, hws, hto, hsl, k⟩ := h
  obtain ⟨A, ts, ls, B⟩ := R
  obtain ⟨sv, tv, dv, hp, hz⟩ := B.hp
  refine ⟨_, (pss_one (ps_if (pt_cmpR op_ge (pe_dget hu (pe_fld (pv 0) rfl) pe_str (fun _ _ => rfl)) (pgI g_HIGH) (nomark _)) (pss_one (ps_dput hu (pe_fld (pv 0) rfl) pe_str (pv 1) rfl)) pss_nil)), ?_⟩
  refine ⟨_, rfl, p, CB, A.dx, _, _, rfl, hp, T.cB, T.n_registers, bF_reg, A.r, _, rfl, dg (k := Sum.inr "a") B.hr rG_a, _, _, rfl, rfl, _, rfl, ifB (fun h => ?_) (fun h => ?_)⟩
  · have e : doM 14 n ws x = { x with pc := n } := if_pos (of_decide_eq_true h)
    rw [e] at k
    exact ⟨_, rfl, _, rfl, p, CB, A.dx, _, _, rfl, hp, T.cB, T.n_registers, bF_reg, A.r, _, rfl, dp (k := Sum.inr "pc") B.hr rP_pc, k _ ⟨A, ts, ls, B.regs (a := x.a) (b := x.b) (pc := n) (sp := x.sp)⟩⟩
  · have e : doM 14 n ws x = x := if_neg (of_decide_eq_false h)
    rw [e] at k
    exact k _ ⟨A, ts, ls, B⟩
abbrev sD15 : Stmt := topS 20
def scD15N : List Str := ["board", "x", "words"]
theorem scD15 : FnScope scD15N ["board", "x", "words"] (defScope sD15) := ⟨rfl, rfl, rfl, by decide +kernel, rfl, by decide +kernel, by decide +kernel⟩
theorem ok_D15 {f : Addr} {fd : FuncData} {fM_pbt : Addr} {dM_pbt : FuncData} (F : Fun K "do_call" "do_call" sD15 f fd) (T : Tx K mg CB CM)
    (M_pbt : CalM P w K mg base CB 3 "put_by_turn" ["self", "address", "word"] (spPt CB CM) fM_pbt dM_pbt) : FnOk P w K mg base CX0 4 f fd ["board", "x", "words"] (spDo CB CM 15) := by
  refine F.ok scD15 (fun vs H Q E h => by obtain ⟨_, _, _, _, _, _, rfl, _⟩ := h; rfl) (fun cdv A outer s H vs Q E hr h => ?_)
  have hu := hu_of hr
  obtain ⟨H0, p, lw, x, n, ws, rfl, R, hlw, hws, hto, hsl, k⟩ := h
  obtain ⟨A, ts, ls, B⟩ := R
  obtain ⟨sv, tv, dv, hp, hz⟩ := B.hp
  obtain ⟨t0, t1⟩ := hto (true, x.sp) (List.mem_singleton.mpr rfl)
  refine ⟨_, (pss_cons (ps_expr (pe_meth (pv 0) M_pbt.c M_pbt.m M_pbt.G (hr.mono (by decide)) M_pbt.b .nil pass0 (pa_cons (pe_dget hu (pe_fld (pv 0) rfl) pe_str (fun _ _ => rfl)) (pa_cons (pe_dget hu (pe_fld (pv 0) rfl) pe_str (fun _ _ => rfl)) pa_nil))))
    (pss_cons (ps_daug hu (pe_fld (pv 0) rfl) pe_str pe_int in_sub (fun _ _ _ => rfl))
    (pss_one (ps_dput hu (pe_fld (pv 0) rfl) pe_str (pv 1) rfl)))), ?_⟩
  refine ⟨_, rfl, p, A.dx, _, rfl, hp, bN_pbt, _, rfl, p, CB, A.dx, _, _, rfl, hp, T.cB, T.n_registers, bF_reg, A.r, _, rfl, dg (k := Sum.inr "sp") B.hr rG_sp, _, rfl, p, CB, A.dx, _, _, rfl, hp, T.cB, T.n_registers, bF_reg, A.r, _, rfl, dg (k := Sum.inr "pc") B.hr rG_pc, H0, p, x, x.sp, x.pc, rfl, ⟨A, ts, ls, B⟩, hsl, t0, t1, fun H1 R1 => ?_⟩
  obtain ⟨A1, ts1, ls1, B1⟩ := R1
  obtain ⟨sv1, tv1, dv1, hp1, hz1⟩ := B1.hp
  have e0 : ∀ a v, ((putTM a v x).a = x.a ∧ (putTM a v x).b = x.b ∧ (putTM a v x).pc = x.pc ∧ (putTM a v x).sp = x.sp) := fun a v => by
    unfold putTM putWM sendM
    split <;> exact ⟨rfl, rfl, rfl, rfl⟩
  obtain ⟨ea, eb, ec, ed⟩ := e0 x.sp x.pc
  refine ⟨_, rfl, p, CB, A1.dx, _, _, rfl, hp1, T.cB, T.n_registers, bF_reg, A1.r, _, rfl, dg (k := Sum.inr "sp") B1.hr rG_sp, _, _, rfl, rfl, _, dp (k := Sum.inr "sp") B1.hr rP_sp, ?_⟩
  have B2 := B1.regs (a := (putTM x.sp x.pc x).a) (b := (putTM x.sp x.pc x).b) (pc := (putTM x.sp x.pc x).pc) (sp := (putTM x.sp x.pc x).sp - 1)
  obtain ⟨sv2, tv2, dv2, hp2, hz2⟩ := B2.hp
  refine ⟨_, rfl, _, rfl, p, CB, A1.dx, _, _, rfl, hp2, T.cB, T.n_registers, bF_reg, A1.r, _, rfl, dp (k := Sum.inr "pc") B2.hr rP_pc, k _ ⟨A1, ts1, ls1, ?_⟩⟩
  have B3 := B2.regs (a := (putTM x.sp x.pc x).a) (b := (putTM x.sp x.pc x).b) (pc := n) (sp := (putTM x.sp x.pc x).sp - 1)
  rw [ed] at B3 ⊢
  exact B3
abbrev sD16 : Stmt := topS 21
def scD16N : List Str := ["board", "x", "words"]
theorem scD16 : FnScope scD16N ["board", "x", "words"] (defScope sD16) := ⟨rfl, rfl, rfl, by decide +kernel, rfl, by decide +kernel, by decide +kernel⟩
theorem ok_D16 {f : Addr} {fd : FuncData} (F : Fun K "do_ret" "do_ret" sD16 f fd) (T : Tx K mg CB CM) : FnOk P w K mg base CX0 4 f fd ["board", "x", "words"] (spDo CB CM 16) := by
  refine F.ok scD16 (fun vs H Q E h => by obtain ⟨_, _, _, _, _, _, rfl, _⟩ := h; rfl) (fun cdv A outer s H vs Q E hr h => ?_)
  have hu := hu_of hr
  obtain ⟨H0, p, lw, x, n, ws, rfl, R, hlw, hws, hto, hsl, k⟩ := h
  obtain ⟨v, rfl⟩ := len1 hws
  obtain ⟨A, ts, ls, B⟩ := R
  obtain ⟨sv, tv, dv, hp, hz⟩ := B.hp
  refine ⟨_, (pss_cons (ps_daug hu (pe_fld (pv 0) rfl) pe_str pe_int in_add (fun _ _ _ => rfl))
    (pss_one (ps_dput hu (pe_fld (pv 0) rfl) pe_str (pe_ix ix_list (pv 2) pe_int (fun _ _ => rfl)) rfl))), ?_⟩
  refine ⟨_, rfl, p, CB, A.dx, _, _, rfl, hp, T.cB, T.n_registers, bF_reg, A.r, _, rfl, dg (k := Sum.inr "sp") B.hr rG_sp, _, _, rfl, rfl, _, dp (k := Sum.inr "sp") B.hr rP_sp, ?_⟩
  have B1 := B.regs (a := x.a) (b := x.b) (pc := x.pc) (sp := x.sp + 1)
  obtain ⟨sv1, tv1, dv1, hp1, hz1⟩ := B1.hp
  have hlw1 : upd H A.r (.dK (regD x.a x.b x.pc (x.sp + 1))) lw = some (.lst [.int v]) := by rw [upd_ne (ne_of hlw B.hr (by intro q; cases q))]; exact hlw
  exact ⟨_, rfl, lw, _, 0, _, rfl, rfl, SqL.of hlw1, atI_nat (j := 0) rfl, _, rfl, p, CB, A.dx, _, _, rfl, hp1, T.cB, T.n_registers, bF_reg, A.r, _, rfl, dp (k := Sum.inr "pc") B1.hr rP_pc, k _ ⟨A, ts, ls, B1.regs (a := x.a) (b := x.b) (pc := v) (sp := x.sp + 1)⟩⟩
abbrev sD17 : Stmt := topS 22
def scD17N : List Str := ["board", "x", "words"]
theorem scD17 : FnScope scD17N ["board", "x", "words"] (defScope sD17) := ⟨rfl, rfl, rfl, by decide +kernel, rfl, by decide +kernel, by decide +kernel⟩
theorem ok_D17 {f : Addr} {fd : FuncData} {fM_pbt : Addr} {dM_pbt : FuncData} (F : Fun K "do_push" "do_push" sD17 f fd) (T : Tx K mg CB CM)
    (M_pbt : CalM P w K mg base CB 3 "put_by_turn" ["self", "address", "word"] (spPt CB CM) fM_pbt dM_pbt) : FnOk P w K mg base CX0 4 f fd ["board", "x", "words"] (spDo CB CM 17) := by
  refine F.ok scD17 (fun vs H Q E h => by obtain ⟨_, _, _, _, _, _, rfl, _⟩ := h; rfl) (fun cdv A outer s H vs Q E hr h => ?_)
  have hu := hu_of hr
  obtain ⟨H0, p, lw, x, n, ws, rfl, R, hlw, hws, hto, hsl, k⟩ := h
  obtain ⟨A, ts, ls, B⟩ := R
  obtain ⟨sv, tv, dv, hp, hz⟩ := B.hp
  obtain ⟨t0, t1⟩ := hto (true, x.sp) (List.mem_singleton.mpr rfl)
  refine ⟨_, (pss_cons (ps_expr (pe_meth (pv 0) M_pbt.c M_pbt.m M_pbt.G (hr.mono (by decide)) M_pbt.b .nil pass0 (pa_cons (pe_dget hu (pe_fld (pv 0) rfl) pe_str (fun _ _ => rfl)) (pa_cons (pe_dget hu (pe_fld (pv 0) rfl) pe_str (fun _ _ => rfl)) pa_nil))))
    (pss_one (ps_daug hu (pe_fld (pv 0) rfl) pe_str pe_int in_sub (fun _ _ _ => rfl)))), ?_⟩
  refine ⟨_, rfl, p, A.dx, _, rfl, hp, bN_pbt, _, rfl, p, CB, A.dx, _, _, rfl, hp, T.cB, T.n_registers, bF_reg, A.r, _, rfl, dg (k := Sum.inr "sp") B.hr rG_sp, _, rfl, p, CB, A.dx, _, _, rfl, hp, T.cB, T.n_registers, bF_reg, A.r, _, rfl, dg (k := Sum.inr "a") B.hr rG_a, H0, p, x, x.sp, x.a, rfl, ⟨A, ts, ls, B⟩, hsl, t0, t1, fun H1 R1 => ?_⟩
  obtain ⟨A1, ts1, ls1, B1⟩ := R1
  obtain ⟨sv1, tv1, dv1, hp1, hz1⟩ := B1.hp
  have e0 : ∀ a v, ((putTM a v x).a = x.a ∧ (putTM a v x).b = x.b ∧ (putTM a v x).pc = x.pc ∧ (putTM a v x).sp = x.sp) := fun a v => by
    unfold putTM putWM sendM
    split <;> exact ⟨rfl, rfl, rfl, rfl⟩
  obtain ⟨ea, eb, ec, ed⟩ := e0 x.sp x.a
  refine ⟨_, rfl, p, CB, A1.dx, _, _, rfl, hp1, T.cB, T.n_registers, bF_reg, A1.r, _, rfl, dg (k := Sum.inr "sp") B1.hr rG_sp, _, _, rfl, rfl, _, dp (k := Sum.inr "sp") B1.hr rP_sp, k _ ⟨A1, ts1, ls1, ?_⟩⟩
  have B2 := B1.regs (a := (putTM x.sp x.a x).a) (b := (putTM x.sp x.a x).b) (pc := (putTM x.sp x.a x).pc) (sp := (putTM x.sp x.a x).sp - 1)
  rw [ed] at B2 ⊢
  exact B2
abbrev sD18 : Stmt := topS 23
def scD18N : List Str := ["board", "x", "words"]
theorem scD18 : FnScope scD18N ["board", "x", "words"] (defScope sD18) := ⟨rfl, rfl, rfl, by decide +kernel, rfl, by decide +kernel, by decide +kernel⟩
theorem ok_D18 {f : Addr} {fd : FuncData} {fF_give : Addr} {dF_give : FuncData} (F : Fun K "do_pop" "do_pop" sD18 f fd) (T : Tx K mg CB CM)
    (F_give : CalF P w K mg base 1 "give" ["board", "word"] (spGive CB CM) fF_give dF_give) : FnOk P w K mg base CX0 4 f fd ["board", "x", "words"] (spDo CB CM 18) := by
  refine F.ok scD18 (fun vs H Q E h => by obtain ⟨_, _, _, _, _, _, rfl, _⟩ := h; rfl) (fun cdv A outer s H vs Q E hr h => ?_)
  have hu := hu_of hr
  obtain ⟨H0, p, lw, x, n, ws, rfl, R, hlw, hws, hto, hsl, k⟩ := h
  obtain ⟨v, rfl⟩ := len1 hws
  obtain ⟨A, ts, ls, B⟩ := R
  obtain ⟨sv, tv, dv, hp, hz⟩ := B.hp
  refine ⟨_, (pss_cons (ps_daug hu (pe_fld (pv 0) rfl) pe_str pe_int in_add (fun _ _ _ => rfl))
    (pss_one (ps_expr (pe_call F_give.G (hr.mono (by decide)) (by rfl) F_give.g F_give.kp F_give.b .nil pass0 (pa_cons (pv 0) (pa_cons (pe_ix ix_list (pv 2) pe_int (fun _ _ => rfl)) pa_nil)))))), ?_⟩
  refine ⟨_, rfl, p, CB, A.dx, _, _, rfl, hp, T.cB, T.n_registers, bF_reg, A.r, _, rfl, dg (k := Sum.inr "sp") B.hr rG_sp, _, _, rfl, rfl, _, dp (k := Sum.inr "sp") B.hr rP_sp, ?_⟩
  have B1 := B.regs (a := x.a) (b := x.b) (pc := x.pc) (sp := x.sp + 1)
  have hlw1 : upd H A.r (.dK (regD x.a x.b x.pc (x.sp + 1))) lw = some (.lst [.int v]) := by rw [upd_ne (ne_of hlw B.hr (by intro q; cases q))]; exact hlw
  exact ⟨_, rfl, _, rfl, lw, _, 0, _, rfl, rfl, SqL.of hlw1, atI_nat (j := 0) rfl, H0, p, _, v, rfl, ⟨A, ts, ls, B1⟩, k⟩
abbrev sD19 : Stmt := topS 24
def scD19N : List Str := ["board", "x", "words"]
theorem scD19 : FnScope scD19N ["board", "x", "words"] (defScope sD19) := ⟨rfl, rfl, rfl, by decide +kernel, rfl, by decide +kernel, by decide +kernel⟩
theorem ok_D19 {f : Addr} {fd : FuncData} (F : Fun K "do_sleep" "do_sleep" sD19 f fd) (T : Tx K mg CB CM) : FnOk P w K mg base CX0 4 f fd ["board", "x", "words"] (spDo CB CM 19) := by
  refine F.ok scD19 (fun vs H Q E h => by obtain ⟨_, _, _, _, _, _, rfl, _⟩ := h; rfl) (fun cdv A outer s H vs Q E hr h => ?_)
  have hu := hu_of hr
  obtain ⟨H0, p, lw, x, n, ws, rfl, R, hlw, hws, hto, hsl, k⟩ := h
  obtain ⟨A, ts, ls, B⟩ := R
  obtain ⟨sv, tv, dv, hp, hz⟩ := B.hp
  refine ⟨_, (pss_one (ps_fld (pv 0) pe_bl rfl)), ?_⟩
  refine ⟨_, rfl, p, CB, A.dx, _, rfl, hp, T.cB, T.n_asleep, (by show 13 < 1000; decide), ?_⟩
  rw [bP_asleep]
  exact k _ ⟨A, ts, ls, B.fld (z := x.zero) (le := x.lets) (as := true) (bt := x.beat) (sv := sv) (la := x.la) (tv := tv) (dv := dv) hz⟩
abbrev sD20 : Stmt := topS 25
def scD20N : List Str := ["board", "x", "words"]
theorem scD20 : FnScope scD20N ["board", "x", "words"] (defScope sD20) := ⟨rfl, rfl, rfl, by decide +kernel, rfl, by decide +kernel, by decide +kernel⟩
theorem ok_D20 {f : Addr} {fd : FuncData} (F : Fun K "do_let" "do_let" sD20 f fd) (T : Tx K mg CB CM) : FnOk P w K mg base CX0 4 f fd ["board", "x", "words"] (spDo CB CM 20) := by
  refine F.ok scD20 (fun vs H Q E h => by obtain ⟨_, _, _, _, _, _, rfl, _⟩ := h; rfl) (fun cdv A outer s H vs Q E hr h => ?_)
  have hu := hu_of hr
  obtain ⟨H0, p, lw, x, n, ws, rfl, R, hlw, hws, hto, hsl, k⟩ := h
  obtain ⟨A, ts, ls, B⟩ := R
  obtain ⟨sv, tv, dv, hp, hz⟩ := B.hp
  refine ⟨_, (pss_one (ps_fld (pv 0) (pe_cmpR op_eq (pe_op op_mod (pv 1) pe_int) pe_int (nomark _)) rfl)), ?_⟩
  have eb : ∀ u : Int, decide (V.int (u % 2) = V.int 1) = decide (u % 2 = 1) := fun u => by
    by_cases h : u % 2 = 1
    · rw [decide_eq_true h, h]; rfl
    · rw [decide_eq_false h]; exact decide_eq_false fun z => h (V.int.inj z)
  refine ⟨_, rfl, _, _, rfl, rfl, (by show (0 : Int) < 2; decide), rfl, _, rfl, p, CB, A.dx, _, rfl, hp, T.cB, T.n_lets, (by show 13 < 1000; decide), ?_⟩
  rw [bP_lets, eb]
  exact k _ ⟨A, ts, ls, B.fld (z := x.zero) (le := decide (n % 2 = 1)) (as := x.asleep) (bt := x.beat) (sv := sv) (la := x.la) (tv := tv) (dv := dv) hz⟩
abbrev sD21 : Stmt := topS 26
def scD21N : List Str := ["board", "x", "words"]
theorem scD21 : FnScope scD21N ["board", "x", "words"] (defScope sD21) := ⟨rfl, rfl, rfl, by decide +kernel, rfl, by decide +kernel, by decide +kernel⟩
theorem ok_D21 {f : Addr} {fd : FuncData} (F : Fun K "do_back" "do_back" sD21 f fd) (T : Tx K mg CB CM) : FnOk P w K mg base CX0 4 f fd ["board", "x", "words"] (spDo CB CM 21) := by
  refine F.ok scD21 (fun vs H Q E h => by obtain ⟨_, _, _, _, _, _, rfl, _⟩ := h; rfl) (fun cdv A outer s H vs Q E hr h => ?_)
  have hu := hu_of hr
  obtain ⟨H0, p, lw, x, n, ws, rfl, R, hlw, hws, hto, hsl, k⟩ := h
  obtain ⟨v, v2, rfl⟩ := len2 hws
  obtain ⟨A, ts, ls, B⟩ := R
  obtain ⟨sv, tv, dv, hp, hz⟩ := B.hp
  refine ⟨_, (pss_cons (ps_daug hu (pe_fld (pv 0) rfl) pe_str pe_int in_add (fun _ _ _ => rfl))
    (pss_cons (ps_fld (pv 0) (pe_cmpR op_eq (pe_op op_mod (pe_ix ix_list (pv 2) pe_int (fun _ _ => rfl)) pe_int) pe_int (nomark _)) rfl)
    (pss_cons (ps_dput hu (pe_fld (pv 0) rfl) pe_str (pe_ix ix_list (pv 2) pe_int (fun _ _ => rfl)) rfl)
    (pss_one (ps_fld (pv 0) pe_bl rfl))))), ?_⟩
  have eb : ∀ u : Int, decide (V.int (u % 2) = V.int 1) = decide (u % 2 = 1) := fun u => by
    by_cases h : u % 2 = 1
    · rw [decide_eq_true h, h]; rfl
    · rw [decide_eq_false h]; exact decide_eq_false fun z => h (V.int.inj z)
  refine ⟨_, rfl, p, CB, A.dx, _, _, rfl, hp, T.cB, T.n_registers, bF_reg, A.r, _, rfl, dg (k := Sum.inr "sp") B.hr rG_sp, _, _, rfl, rfl, _, dp (k := Sum.inr "sp") B.hr rP_sp, ?_⟩
  have B1 := B.regs (a := x.a) (b := x.b) (pc := x.pc) (sp := x.sp + 2)
  obtain ⟨sv1, tv1, dv1, hp1, hz1⟩ := B1.hp
  have hlw1 : upd H A.r (.dK (regD x.a x.b x.pc (x.sp + 2))) lw = some (.lst [.int v, .int v2]) := by rw [upd_ne (ne_of hlw B.hr (by intro q; cases q))]; exact hlw
  refine ⟨_, rfl, lw, _, 0, _, rfl, rfl, SqL.of hlw1, atI_nat (j := 0) rfl, _, _, rfl, rfl, (by show (0 : Int) < 2; decide), rfl, _, rfl, p, CB, A.dx, _, rfl, hp1, T.cB, T.n_zero, (by show 13 < 1000; decide), ?_⟩
  rw [bP_zero, eb]
  have B2 := B1.fld (z := decide (v % 2 = 1)) (le := x.lets) (as := x.asleep) (bt := x.beat) (sv := sv1) (la := x.la) (tv := tv1) (dv := dv1) hz1
  have hlw2 := hlw1
  rw [← upd_ne (H := upd H A.r (.dK (regD x.a x.b x.pc (x.sp + 2)))) (o := .ins CB A.dx (bdF A.r A.t A.m A.l (decide (v % 2 = 1)) x.lets x.asleep x.beat sv1 x.la tv1 dv1 x.bend)) (ne_of hlw1 hp1 (by intro q; cases q))] at hlw2
  obtain ⟨sv2, tv2, dv2, hp2, hz2⟩ := B2.hp
  refine ⟨_, rfl, lw, _, 1, _, rfl, rfl, SqL.of hlw2, atI_nat (j := 1) rfl, _, rfl, p, CB, A.dx, _, _, rfl, hp2, T.cB, T.n_registers, bF_reg, A.r, _, rfl, dp (k := Sum.inr "pc") B2.hr rP_pc, ?_⟩
  have B3 := B2.regs (a := x.a) (b := x.b) (pc := v2) (sp := x.sp + 2)
  obtain ⟨sv3, tv3, dv3, hp3, hz3⟩ := B3.hp
  refine ⟨_, rfl, p, CB, A.dx, _, rfl, hp3, T.cB, T.n_lets, (by show 13 < 1000; decide), ?_⟩
  rw [bP_lets]
  exact k _ ⟨A, ts, ls, B3.fld (z := decide (v % 2 = 1)) (le := true) (as := x.asleep) (bt := x.beat) (sv := sv3) (la := x.la) (tv := tv3) (dv := dv3) hz3⟩
abbrev sD22 : Stmt := topS 27
def scD22N : List Str := ["board", "x", "words"]
theorem scD22 : FnScope scD22N ["board", "x", "words"] (defScope sD22) := ⟨rfl, rfl, rfl, by decide +kernel, rfl, by decide +kernel, by decide +kernel⟩
theorem ok_D22 {f : Addr} {fd : FuncData} {fF_give : Addr} {dF_give : FuncData} (F : Fun K "do_half" "do_half" sD22 f fd) (T : Tx K mg CB CM)
    (F_give : CalF P w K mg base 1 "give" ["board", "word"] (spGive CB CM) fF_give dF_give) : FnOk P w K mg base CX0 4 f fd ["board", "x", "words"] (spDo CB CM 22) := by
  refine F.ok scD22 (fun vs H Q E h => by obtain ⟨_, _, _, _, _, _, rfl, _⟩ := h; rfl) (fun cdv A outer s H vs Q E hr h => ?_)
  have hu := hu_of hr
  obtain ⟨H0, p, lw, x, n, ws, rfl, R, hlw, hws, hto, hsl, k⟩ := h
  obtain ⟨A, ts, ls, B⟩ := R
  obtain ⟨sv, tv, dv, hp, hz⟩ := B.hp
  refine ⟨_, (pss_one (ps_expr (pe_call F_give.G (hr.mono (by decide)) (by rfl) F_give.g F_give.kp F_give.b .nil pass0 (pa_cons (pv 0) (pa_cons (pe_op op_fdiv (pe_dget hu (pe_fld (pv 0) rfl) pe_str (fun _ _ => rfl)) pe_int) pa_nil))))), ?_⟩
  exact ⟨_, rfl, _, rfl, p, CB, A.dx, _, _, rfl, hp, T.cB, T.n_registers, bF_reg, A.r, _, rfl, dg (k := Sum.inr "a") B.hr rG_a, _, _, rfl, rfl, ⟨by decide, by decide⟩, H0, p, x, x.a / 2, rfl, ⟨A, ts, ls, B⟩, k⟩
end
end Bh

/-! Beats, stops, what may be touched. -/
namespace Bh
open PySem PySem.Spec PyProof.Rows L2
def spCome (CB CM : Addr) : Sp := fun vs H Q _ => ∃ (H0 : Hp) (p : Addr) (x : Bd), vs = [.ref p] ∧ BoardAt CB CM H0 H p x ∧ ∀ H', BoardAt CB CM H0 H' p (comeM x) → Q .non H'
def spPass (CB CM : Addr) : Sp := fun vs H Q _ => ∃ (H0 : Hp) (p : Addr) (x : Bd) (n : Nat), vs = [.ref p, .int (n : Int)] ∧ BoardAt CB CM H0 H p x ∧ n ≤ 1000 ∧ ∀ H', BoardAt CB CM H0 H' p (passM n x) → Q .non H'
def spStop (CB CM : Addr) : Sp := fun vs H Q _ => ∃ (H0 : Hp) (p q : Addr) (x : Bd) (s : Str) (ns : List Int), vs = [.ref p, .ref q] ∧ BoardAt CB CM H0 H p x ∧ H q = some (.tup (.str s :: ns.map V.int)) ∧ ∀ H', BoardAt CB CM H0 H' p { x with stop := some (s, ns) } → Q (.str "stopped") H'
def mayM (T : V) (x : Bd) (ts : List (Bool × Int)) : Bool × Bd := match firstBad ts with
  | some r => (false, { x with stop := some (r.1, [x.pc, r.2]) })
  | none => (true, { x with tv := T })
def spMay (CB CM : Addr) : Sp := fun vs H Q _ => ∃ (H0 : Hp) (p l : Addr) (x : Bd) (us : List V) (ts : List (Bool × Int)), vs = [.ref p, .ref l] ∧ BoardAt CB CM H0 H p x ∧ H l = some (.lst us) ∧ TouAt H us ts ∧ ∀ H', BoardAt CB CM H0 H' p (mayM (.ref l) x ts).2 → Q (.bl (mayM (.ref l) x ts).1) H'
def comingM (x : Bd) : Str := if x.stop ≠ none then "stopped" else if x.asleep = true ∧ calledM x = 0 then "asleep" else if x.lets = true ∧ calledM x ≠ 0 then "interrupt" else "deed"
def spComing (CB CM : Addr) : Sp := fun vs H Q _ => ∃ (H0 : Hp) (p : Addr) (x : Bd), vs = [.ref p] ∧ BoardAt CB CM H0 H p x ∧ Q (.str (comingM x)) H
section
variable {P : Program} {w : World} {K : PySem.W.Frag} {mg : Str → Option Value} {base : Heap} {CB CM : Addr}
abbrev sMcome : Stmt := inClass (topS 69) 13
def scMcomeN : List Str := ["self"]
theorem scMcome : FnScope scMcomeN ["self"] (defScope sMcome) := ⟨rfl, rfl, rfl, by decide +kernel, rfl, by decide +kernel, by decide +kernel⟩
theorem ok_Mcome {f : Addr} {fd : FuncData} {fM_take : Addr} {dM_take : FuncData} (F : Fun K "come_line" "Board.come_line" sMcome f fd) (T : Tx K mg CB CM)
    (M_take : CalM P w K mg base CM 1 "take_line" ["self", "value"] (spMTake CM) fM_take dM_take) : FnOk P w K mg base CX0 2 f fd ["self"] (spCome CB CM) := by
  refine F.ok scMcome (fun vs H Q E h => by obtain ⟨_, _, _, rfl, _⟩ := h; rfl) (fun cdv A outer s H vs Q E hr h => ?_)
  have hu := hu_of hr
  have z_len := T.z_len
  obtain ⟨H0, p, x, rfl, R, k⟩ := h
  obtain ⟨A, ts, ls, B⟩ := R
  obtain ⟨sv, tv, dv, hp, hz⟩ := B.hp
  refine ⟨_, (pss_one (ps_if (PW.pt (pw_and (pt_cmpR op_lt (pe_fld (pv 0) rfl) (pe_callB call_len_seq (by rfl) z_len PySem.boot_len (pa_cons (pe_fld (pv 0) rfl) pa_nil)) (nomark _)) (pw_and1 (pt_cmpR op_eq (pe_ix ix_tup (pe_ix ix_list (pe_fld (pv 0) rfl) (pe_fld (pv 0) rfl) (fun _ _ => rfl)) pe_int (fun _ _ => rfl)) (pe_fld (pv 0) rfl) (nomark _))))) (pss_cons (ps_expr (pe_meth (pe_fld (pv 0) rfl) M_take.c M_take.m M_take.G (hr.mono (by decide)) M_take.b .nil pass0 (pa_cons (pe_ix ix_tup (pe_ix ix_list (pe_fld (pv 0) rfl) (pe_fld (pv 0) rfl) (fun _ _ => rfl)) pe_int (fun _ _ => rfl)) pa_nil)))
    (pss_one (ps_fldaug (pv 0) pe_int in_add))) pss_nil)), ?_⟩
  unfold comeM at k
  refine ⟨_, rfl, p, CB, A.dx, _, _, rfl, hp, T.cB, T.n_line_at, bF_la, _, rfl, p, CB, A.dx, _, _, rfl, hp, T.cB, T.n_line, bF_line, A.l, _, rfl, .inl (SqL.of B.hl), _, _, rfl, rfl, _, rfl, ifB (fun h => ?_) (fun h => ?_)⟩
  · have hl : x.la < x.line.length := by
      have := of_decide_eq_true h
      rw [TupsAt.len B.ll] at this
      omega
    obtain ⟨t, e1, e2⟩ := TupsAt.get B.ll hl
    refine ⟨_, rfl, p, CB, A.dx, _, _, rfl, hp, T.cB, T.n_line, bF_line, _, rfl, p, CB, A.dx, _, _, rfl, hp, T.cB, T.n_line_at, bF_la, A.l, _, _, _, rfl, rfl, SqL.of B.hl, atI_nat e1, t, _, 0, _, rfl, rfl, SqT.of e2, atI_nat (j := 0) rfl, _, rfl, p, CB, A.dx, _, _, rfl, hp, T.cB, T.n_beat, bF_beat, rfl, _, rfl, ifB (fun h2 => ?_) (fun h2 => ?_)⟩
    · have hb : (x.line.getD x.la (0, 0)).1 = x.beat := V.int.inj (of_decide_eq_true h2)
      rw [if_pos ⟨hl, hb⟩] at k
      refine ⟨_, rfl, p, CB, A.dx, _, _, rfl, hp, T.cB, T.n_memory, bF_mem, A.m, A.dm, _, rfl, B.hm, mN_take, _, rfl, p, CB, A.dx, _, _, rfl, hp, T.cB, T.n_line, bF_line, _, rfl, p, CB, A.dx, _, _, rfl, hp, T.cB, T.n_line_at, bF_la, A.l, _, _, _, rfl, rfl, SqL.of B.hl, atI_nat e1, t, _, 1, _, rfl, rfl, SqT.of e2, atI_nat (j := 1) rfl, A.m, A.dm, A.w, A.s, x.mem, _, rfl, B.mem, ?_⟩
      have B1 := B.wds (m := takeLineM (x.line.getD x.la (0, 0)).2 x.mem) (by rw [takeLineM_len]; exact B.lm)
      obtain ⟨sv1, tv1, dv1, hp1, hz1⟩ := B1.hp
      refine ⟨_, rfl, p, CB, A.dx, _, _, rfl, hp1, T.cB, T.n_line_at, bF_la, _, _, rfl, rfl, A.dx, _, hp1, (by show 13 < 1000; decide), ?_⟩
      rw [bP_la (n := 0)]
      exact k _ ⟨A, ts, ls, B1.fld (z := x.zero) (le := x.lets) (as := x.asleep) (bt := x.beat) (sv := sv1) (la := x.la + 1) (tv := tv1) (dv := dv1) hz1⟩
    · rw [if_neg (fun z => of_decide_eq_false h2 (congrArg V.int z.2))] at k
      exact k _ ⟨A, ts, ls, B⟩
  · have hl : ¬ x.la < x.line.length := by
      have := of_decide_eq_false h
      rw [TupsAt.len B.ll] at this
      omega
    rw [if_neg (fun z => hl z.1)] at k
    exact k _ ⟨A, ts, ls, B⟩
abbrev sMpass : Stmt := inClass (topS 69) 12
def scMpassN : List Str := ["self", "many", "_"]
theorem scMpass : FnScope scMpassN ["self", "many"] (defScope sMpass) := ⟨rfl, rfl, rfl, by decide +kernel, rfl, by decide +kernel, by decide +kernel⟩
theorem ok_Mpass {f : Addr} {fd : FuncData} {fM_come : Addr} {dM_come : FuncData} {fM_timer : Addr} {dM_timer : FuncData} (F : Fun K "pass_beats" "Board.pass_beats" sMpass f fd) (T : Tx K mg CB CM)
    (M_come : CalM P w K mg base CB 2 "come_line" ["self"] (spCome CB CM) fM_come dM_come)
    (M_timer : CalM P w K mg base CM 1 "go_timer" ["self"] (spMTim CM) fM_timer dM_timer) : FnOk P w K mg base CX0 3 f fd ["self", "many"] (spPass CB CM) := by
  refine F.ok scMpass (fun vs H Q E h => by obtain ⟨_, _, _, _, rfl, _⟩ := h; rfl) (fun cdv A outer s H vs Q E hr h => ?_)
  have hu := hu_of hr
  have z_range := T.z_range
  obtain ⟨H0, p, x, n, rfl, R, hn, k⟩ := h
  refine ⟨_, (pss_one (ps_for PassesOwn.never rfl (pi_range1 (by rfl) z_range (pa_cons (pv 1) pa_nil)) (pg_name (i := 2) scMpass.nd rfl (.inl rfl))
      (pss_cons (ps_fldaug (pv 0) pe_int in_add)
    (pss_cons (ps_expr (pe_meth0 (pv 0) M_come.c M_come.m M_come.G (hr.mono (by decide)) M_come.b .nil pass0))
    (pss_one (ps_expr (pe_meth0 (pe_fld (pv 0) rfl) M_timer.c M_timer.m M_timer.G (hr.mono (by decide)) M_timer.b .nil pass0))))))), ?_⟩
  refine ⟨_, rfl, (n : Int), rfl, by omega, by omega, ?_⟩
  refine for_range (lo := 0) (n := ((n : Int)).toNat) (fun i σ H' => ∃ (y : Option V) (z : Bd), σ = [some (.ref p), some (.int (n : Int)), y] ∧ BoardAt CB CM H0 H' p z ∧ passM (n - i) z = passM n x) ⟨none, x, rfl, R, rfl⟩ ?_ ?_
  · rintro i σ H1 hi ⟨y, z, rfl, R, e⟩
    have hin : i < n := by omega
    obtain ⟨A, ts, ls, B⟩ := R
    obtain ⟨sv, tv, dv, hp, hz⟩ := B.hp
    refine ⟨_, rfl, p, CB, A.dx, _, _, rfl, hp, T.cB, T.n_beat, bF_beat, _, _, rfl, rfl, A.dx, _, hp, (by show 13 < 1000; decide), ?_⟩
    rw [bP_beat]
    have B1 := B.fld (z := z.zero) (le := z.lets) (as := z.asleep) (bt := z.beat + 1) (sv := sv) (la := z.la) (tv := tv) (dv := dv) hz
    obtain ⟨sv1, tv1, dv1, hp1, hz1⟩ := B1.hp
    refine ⟨_, rfl, p, A.dx, _, rfl, hp1, bN_come, H0, p, _, rfl, ⟨A, ts, ls, B1⟩, fun H2 R2 => ?_⟩
    obtain ⟨A2, ts2, ls2, B2⟩ := R2
    obtain ⟨sv2, tv2, dv2, hp2, hz2⟩ := B2.hp
    refine ⟨_, rfl, p, CB, A2.dx, _, _, rfl, hp2, T.cB, T.n_memory, bF_mem, A2.m, A2.dm, _, rfl, B2.hm, mN_timer, A2.m, A2.dm, A2.w, A2.s, _, rfl, B2.mem, ?_⟩
    have B3 := B2.wds (m := goTimerM (comeM { z with beat := z.beat + 1 }).mem) (by rw [goTimerM_len]; exact B2.lm)
    refine ⟨some (.int (0 + (i : Int))), passOneM z, rfl, ⟨A2, ts2, ls2, B3⟩, ?_⟩
    have e3 : n - i = (n - (i + 1)) + 1 := by omega
    rw [e3] at e
    exact e
  · rintro σ H1 ⟨y, z, rfl, R, e⟩
    have e0 : n - ((n : Int)).toNat = 0 := by omega
    rw [e0] at e
    rw [← e] at k
    exact k _ R
abbrev sMstop : Stmt := inClass (topS 69) 9
def scMstopN : List Str := ["self", "stop"]
theorem scMstop : FnScope scMstopN ["self", "stop"] (defScope sMstop) := ⟨rfl, rfl, rfl, by decide +kernel, rfl, by decide +kernel, by decide +kernel⟩
theorem ok_Mstop {f : Addr} {fd : FuncData} (F : Fun K "stop" "Board.stop" sMstop f fd) (T : Tx K mg CB CM) : FnOk P w K mg base CX0 1 f fd ["self", "stop"] (spStop CB CM) := by
  refine F.ok scMstop (fun vs H Q E h => by obtain ⟨_, _, _, _, _, _, rfl, _⟩ := h; rfl) (fun cdv A outer s H vs Q E hr h => ?_)
  have hu := hu_of hr
  obtain ⟨H0, p, q, x, s_, ns, rfl, R, hq, k⟩ := h
  obtain ⟨A, ts, ls, B⟩ := R
  obtain ⟨sv, tv, dv, hp, hz⟩ := B.hp
  refine ⟨_, (pss_cons (ps_fld (pv 0) (pv 1) rfl)
    (pss_one (ps_ret pe_str))), ?_⟩
  refine ⟨_, rfl, _, rfl, p, CB, A.dx, _, rfl, hp, T.cB, T.n_stopped, (by show 13 < 1000; decide), ?_⟩
  rw [bP_stop]
  exact k _ ⟨A, ts, ls, B.fld (z := x.zero) (le := x.lets) (as := x.asleep) (bt := x.beat) (sv := .ref q) (la := x.la) (tv := tv) (dv := dv) (so := some (s_, ns)) ⟨⟨q, rfl, hq⟩, hz.2⟩⟩
abbrev sMmay : Stmt := inClass (topS 69) 8
def scMmayN : List Str := ["self", "touches", "kind", "address", "why"]
theorem scMmay : FnScope scMmayN ["self", "touches"] (defScope sMmay) := ⟨rfl, rfl, rfl, by decide +kernel, rfl, by decide +kernel, by decide +kernel⟩
theorem ok_Mmay {f : Addr} {fd : FuncData} {fF_bar : Addr} {dF_bar : FuncData} {fM_stop : Addr} {dM_stop : FuncData} (F : Fun K "may_touch" "Board.may_touch" sMmay f fd) (T : Tx K mg CB CM)
    (F_bar : CalF P w K mg base 1 "bar_of" ["kind", "address"] (spBar) fF_bar dF_bar)
    (M_stop : CalM P w K mg base CB 1 "stop" ["self", "stop"] (spStop CB CM) fM_stop dM_stop) : FnOk P w K mg base CX0 2 f fd ["self", "touches"] (spMay CB CM) := by
  refine F.ok scMmay (fun vs H Q E h => by obtain ⟨_, _, _, _, _, _, rfl, _⟩ := h; rfl) (fun cdv A outer s H vs Q E hr h => ?_)
  have hu := hu_of hr
  obtain ⟨H0, p, l, x, us, tl, rfl, R, hl, ht, k⟩ := h
  obtain ⟨A, ts, ls, B⟩ := R
  obtain ⟨sv, tv, dv, hp, hz⟩ := B.hp
  refine ⟨_, (pss_cons (ps_for PassesOwn.never rfl (pi_list (pv 1)) (pg_tup rfl (pgs_cons (pg_name (i := 2) scMmay.nd rfl (.inl rfl)) (pgs_cons (pg_name (i := 3) scMmay.nd rfl (.inl rfl)) pgs_nil)))
      (pss_cons (ps_set (i := 4) scMmay.nd rfl (.inl rfl) (pe_call F_bar.G (hr.mono (by decide)) (by rfl) F_bar.g F_bar.kp F_bar.b .nil pass0 (pa_cons (pv 2) (pa_cons (pv 3) pa_nil))))
    (pss_one (ps_if (pt_cmp (pc_notN (pv 4))) (pss_cons (ps_expr (pe_meth (pv 0) M_stop.c M_stop.m M_stop.G (hr.mono (by decide)) M_stop.b .nil pass0 (pa_cons (pe_tup (pa_cons (pv 4) (pa_cons (pe_dget hu (pe_fld (pv 0) rfl) pe_str (fun _ _ => rfl)) (pa_cons (pv 3) pa_nil)))) pa_nil)))
    (pss_one (ps_ret pe_bl))) pss_nil))))
    (pss_cons (ps_fld (pv 0) (pv 1) rfl)
    (pss_one (ps_ret pe_bl)))), ?_⟩
  refine ⟨_, rfl, l, rfl, ⟨_, SqL.of hl⟩, ?_⟩
  refine for_list (K := K) (a := l) (xs := us) (fun i σ H' => H' = H ∧ firstBad (tl.drop i) = firstBad tl ∧ ∃ y2 y3 y4, σ = [some (.ref p), some (.ref l), y2, y3, y4]) ⟨rfl, rfl, none, none, none, rfl⟩ (fun i σ H' _ h => by obtain ⟨rfl, _⟩ := h; exact SqL.of hl) ?_ ?_
  · rintro i v σ H' hv ⟨rfl, hf, y2, y3, y4, rfl⟩
    obtain ⟨q, t, rfl, e1, e2⟩ := TouAt.get ht hv
    have hil : i < tl.length := (List.getElem?_eq_some_iff.mp e1).1
    have hd : tl.drop i = t :: tl.drop (i + 1) := by
      rw [List.drop_eq_getElem_cons hil]
      have : tl[i] = t := Option.some.inj ((List.getElem?_eq_getElem hil).symm.trans e1)
      rw [this]
    rw [hd, firstBad_cons] at hf
    refine ⟨q, _, rfl, SqT.of e2, rfl, _, _, rfl, _, _, rfl, rfl, ?_⟩
    refine ⟨_, rfl, _, rfl, t, rfl, ?_⟩
    cases e : barM t with
    | none =>
      rw [e] at hf
      refine ⟨_, rfl, _, rfl, ifN (fun h => absurd rfl (of_decide_eq_false h)) (fun _ => ?_)⟩
      exact ⟨rfl, hf, _, _, _, rfl⟩
    | some wy =>
      rw [e] at hf
      refine ⟨_, rfl, _, rfl, ifN (fun _ => ?_) (fun h => by cases (of_decide_eq_true h))⟩
      have em : mayM (.ref l) x tl = (false, { x with stop := some (wy, [x.pc, t.2]) }) := by
        unfold mayM
        rw [← hf]
      rw [em] at k
      exact ⟨_, rfl, p, A.dx, _, rfl, hp, bN_stop, _, rfl, _, rfl, p, CB, A.dx, _, _, rfl, hp, T.cB, T.n_registers, bF_reg, A.r, _, rfl, dg (k := Sum.inr "pc") B.hr rG_pc, _, rfl, (by show 3 ≤ sizeLine; decide), fun q2 nq => ⟨H0, p, q2, x, wy, [x.pc, t.2], rfl, ⟨A, ts, ls, B.more nq⟩, upd_same, fun H2 R2 => k _ R2⟩⟩
  · rintro σ H' ⟨rfl, hf, y2, y3, y4, rfl⟩
    rw [TouAt.len ht, List.drop_length] at hf
    have em : mayM (.ref l) x tl = (true, { x with tv := .ref l }) := by
      unfold mayM
      rw [← hf]
      rfl
    rw [em] at k
    refine ⟨_, rfl, _, rfl, p, CB, A.dx, _, rfl, hp, T.cB, T.n_touched, (by show 13 < 1000; decide), ?_⟩
    rw [bP_tou]
    exact k _ ⟨A, ts, ls, B.fld (z := x.zero) (le := x.lets) (as := x.asleep) (bt := x.beat) (sv := sv) (la := x.la) (tv := .ref l) (dv := dv) ⟨hz.1, rfl, hz.2.2⟩⟩
abbrev sMcoming : Stmt := inClass (topS 69) 4
def scMcomingN : List Str := ["self", "called"]
theorem scMcoming : FnScope scMcomingN ["self"] (defScope sMcoming) := ⟨rfl, rfl, rfl, by decide +kernel, rfl, by decide +kernel, by decide +kernel⟩
theorem ok_Mcoming {f : Addr} {fd : FuncData} {fM_called : Addr} {dM_called : FuncData} (F : Fun K "coming" "Board.coming" sMcoming f fd) (T : Tx K mg CB CM)
    (M_called : CalM P w K mg base CM 1 "called_flags" ["self"] (spMCall CM) fM_called dM_called) : FnOk P w K mg base CX0 2 f fd ["self"] (spComing CB CM) := by
  refine F.ok scMcoming (fun vs H Q E h => by obtain ⟨_, _, _, rfl, _⟩ := h; rfl) (fun cdv A outer s H vs Q E hr h => ?_)
  have hu := hu_of hr
  obtain ⟨H0, p, x, rfl, R, q⟩ := h
  obtain ⟨A, ts, ls, B⟩ := R
  obtain ⟨sv, tv, dv, hp, hz⟩ := B.hp
  refine ⟨_, (pss_cons (ps_if (pt_cmp (pc_notN (pe_fld (pv 0) rfl))) (pss_one (ps_ret pe_str)) pss_nil)
    (pss_cons (ps_set (i := 1) scMcoming.nd rfl (.inl rfl) (pe_cmpR op_ne (pe_meth0 (pe_fld (pv 0) rfl) M_called.c M_called.m M_called.G (hr.mono (by decide)) M_called.b .nil pass0) pe_int (nomark _)))
    (pss_cons (ps_if (PW.pt (pw_and (pt_val (pe_fld (pv 0) rfl)) (pw_and1 (pt_not (pt_val (pv 1)))))) (pss_one (ps_ret pe_str)) pss_nil)
    (pss_cons (ps_if (PW.pt (pw_and (pt_val (pe_fld (pv 0) rfl)) (pw_and1 (pt_val (pv 1))))) (pss_one (ps_ret pe_str)) pss_nil)
    (pss_one (ps_ret pe_str)))))), ?_⟩
  unfold comingM at q
  refine ⟨_, rfl, p, CB, A.dx, _, _, rfl, hp, T.cB, T.n_stopped, bF_stop, _, rfl, ?_⟩
  cases es : x.stop with
  | some r =>
    rw [es] at hz q
    obtain ⟨⟨q1, rfl, hq1⟩, hz2⟩ := hz
    refine ifN (fun _ => ?_) (fun h => by cases (of_decide_eq_true h))
    rw [if_pos (by intro z; cases z)] at q
    exact q
  | none =>
    rw [es] at hz q
    obtain rfl : sv = V.non := hz.1
    refine ifN (fun h => absurd rfl (of_decide_eq_false h)) (fun _ => ?_)
    rw [if_neg (fun z => z rfl)] at q
    refine ⟨_, rfl, p, CB, A.dx, _, _, rfl, hp, T.cB, T.n_memory, bF_mem, A.m, A.dm, _, rfl, B.hm, mN_called, A.m, A.dm, A.w, A.s, _, rfl, B.mem, rfl, ?_⟩
    have ec : decide (V.int (Builtin.bitAnd (rd x.mem 770) (rd x.mem 771)) = V.int 0) = decide (calledM x = 0) := by
      by_cases h : calledM x = 0
      · rw [decide_eq_true h]; exact decide_eq_true (congrArg V.int h)
      · rw [decide_eq_false h]; exact decide_eq_false fun z => h (V.int.inj z)
    rw [ec]
    refine ⟨_, rfl, p, CB, A.dx, _, _, rfl, hp, T.cB, T.n_asleep, bF_asleep, _, rfl, ifB (fun ha => ?_) (fun ha => ?_)⟩
    · refine ⟨_, rfl, _, rfl, ?_⟩
      by_cases hc : calledM x = 0
      · rw [if_pos ⟨ha, hc⟩] at q
        rw [decide_eq_true hc]
        exact q
      · rw [if_neg (fun z => hc z.2)] at q
        rw [decide_eq_false hc]
        refine ⟨_, rfl, p, CB, A.dx, _, _, rfl, hp, T.cB, T.n_lets, bF_lets, _, rfl, ifB (fun hl => ?_) (fun hl => ?_)⟩
        · rw [if_pos ⟨hl, hc⟩] at q
          exact ⟨_, rfl, _, rfl, q⟩
        · rw [if_neg (fun z => by rw [hl] at z; cases z.1)] at q
          exact q
    · rw [if_neg (fun z => by rw [ha] at z; cases z.1)] at q
      refine ⟨_, rfl, p, CB, A.dx, _, _, rfl, hp, T.cB, T.n_lets, bF_lets, _, rfl, ifB (fun hl => ?_) (fun hl => ?_)⟩
      · refine ⟨_, rfl, _, rfl, ?_⟩
        by_cases hc : calledM x = 0
        · rw [if_neg (fun z => z.2 hc)] at q
          rw [decide_eq_true hc]
          exact q
        · rw [if_pos ⟨hl, hc⟩] at q
          rw [decide_eq_false hc]
          exact q
      · rw [if_neg (fun z => by rw [hl] at z; cases z.1)] at q
        exact q
end
end Bh

/-! Interrupts, deeds, turns. -/
namespace Bh
open PySem PySem.Spec PyProof.Rows L2
def PcOk (x : Bd) : Prop := 0 ≤ x.pc → x.pc < 768 → 0 ≤ rd x.mem x.pc
/-- what stands in touched: a new list of these tuples -/
def TouV (H0 H' : Hp) (T : V) (ts : List (Bool × Int)) : Prop := ∃ tl us, T = .ref tl ∧ H0 tl = none ∧ H' tl = some (.lst us) ∧ TouAt H' us ts
def touT (x : Bd) : List (Bool × Int) := if (turnM x).1 = "deed" then toM x else if (turnM x).1 = "interrupt" then [(true, x.sp), (true, x.sp - 1)] else []
def didV (x : Bd) : V := if (turnM x).1 = "deed" then .str (nmOf (opM x)) else .non
theorem n_sd : ¬ ("stopped" : Str) = "deed" := by decide +kernel
theorem n_si : ¬ ("stopped" : Str) = "interrupt" := by decide +kernel
theorem n_ad : ¬ ("asleep" : Str) = "deed" := by decide +kernel
theorem n_ai : ¬ ("asleep" : Str) = "interrupt" := by decide +kernel
theorem n_id : ¬ ("interrupt" : Str) = "deed" := by decide +kernel
def spBegin (CB CM : Addr) : Sp := fun vs H Q _ => ∃ (H0 : Hp) (p : Addr) (x : Bd), vs = [.ref p] ∧ BoardAt CB CM H0 H p x ∧ x.sent.length < 900000 ∧
  (∀ y, intM x = (("stopped" : Str), y) → ∀ H', BoardAt CB CM H0 H' p y → Q (.str "stopped") H') ∧
  (intM x = (("interrupt" : Str), begunM x) → ∀ H' T, TouV H0 H' T [(true, x.sp), (true, x.sp - 1)] → BoardAt CB CM H0 H' p (begunM { x with tv := T }) → Q (.str "interrupt") H')
def spDeed (CB CM : Addr) : Sp := fun vs H Q _ => ∃ (H0 : Hp) (p : Addr) (x : Bd), vs = [.ref p] ∧ BoardAt CB CM H0 H p x ∧ x.sent.length < 900000 ∧ PcOk x ∧
  (∀ y, deedM x = (("stopped" : Str), y) → ∀ H', BoardAt CB CM H0 H' p y → Q (.str "stopped") H') ∧
  (deedM x = (("deed" : Str), doneM x) → ∀ H' T, TouV H0 H' T (toM x) → BoardAt CB CM H0 H' p (doneM { x with tv := T, dv := .str (nmOf (opM x)) }) → Q (.str "deed") H')
def spTurn (CB CM : Addr) : Sp := fun vs H Q _ => ∃ (H0 : Hp) (p : Addr) (x : Bd), vs = [.ref p] ∧ BoardAt CB CM H0 H p x ∧ x.sent.length < 900000 ∧ PcOk x ∧ ∀ H' T, TouV H0 H' T (touT x) → BoardAt CB CM H0 H' p ((turnM x).2.tvd T (didV x)) → Q (.str (turnM x).1) H'
structure DoF (P : Program) (w : World) (K : PySem.W.Frag) (mg : Str → Option Value) (base : Heap) (CB CM : Addr) (adr : Nat → Addr) (fdr : Nat → FuncData) : Prop where
  G : ∀ op, 1 ≤ op → op < 23 → FnOk P w K mg base CX0 4 (adr op) (fdr op) ["board", "x", "words"] (spDo CB CM op)
  kp : ∀ op, 1 ≤ op → op < 23 → PySem.W.keepIn K (.ref (adr op)) = true
  b : ∀ op, 1 ≤ op → op < 23 → Binds K (fdr op) ["board", "x", "words"] []
  D : ∃ a, mg "DOINGS" = some (.ref a) ∧ ∀ op, 1 ≤ op → op < 23 → KDct K w a (nmOf op) (.ref (adr op))
theorem iteb {c : Bool} {Q : V → Hp → Prop} {H : Hp} {σ : L2.St} (h : tC (.int (b2n c)) σ H Q) : if c = true then tC (.int 1) σ H Q else tC (.int 0) σ H Q := by
  cases c with
  | true => exact h
  | false => exact h
theorem putWM_zero (a v : Int) (x : Bd) : (putWM a v x).zero = x.zero := by
  unfold putWM sendM
  split <;> rfl
theorem putWM_sent (a v : Int) (x : Bd) : (putWM a v x).sent.length ≤ x.sent.length + 1 := by
  unfold putWM sendM
  split
  · show (x.sent ++ [(x.beat, v)]).length ≤ _
    rw [List.length_append]
    exact Nat.le_refl _
  · exact Nat.le_succ _
theorem joinR {Goal : Prop} {I : Hp → Prop} (R : Hp → Prop) (body : (∀ G', I G' → R G') → Goal) (key : ∀ G', I G' → R G') : Goal := body key
theorem rdS_pc (m sw : List Int) (pc : Int) : rdS m sw pc pc = rd m pc := if_neg fun z => z.2 rfl
theorem Bp.solid' {CB CM p : Addr} {H0 H : Hp} {A : Ad} {ts ls : List V} {x : Bd} (B : Bp CB CM H0 H p A ts ls x) : ∀ b, (b = p ∨ b = A.r ∨ b = A.w ∨ b = A.t ∨ b = A.m ∨ b = A.s ∨ b = A.l) → ∃ o, H b = some o := fun b h => by
  obtain ⟨sv, tv, dv, hp, _⟩ := B.hp
  rcases h with h | h | h | h | h | h | h <;> rw [h]
  · exact ⟨_, hp⟩
  · exact ⟨_, B.hr⟩
  · exact ⟨_, B.hw⟩
  · exact ⟨_, B.ht⟩
  · exact ⟨_, B.hm⟩
  · exact ⟨_, B.hs⟩
  · exact ⟨_, B.hl⟩
/-- a thing of another's changes, no tuple -/
theorem Bp.off {CB CM p : Addr} {H0 H : Hp} {A : Ad} {ts ls : List V} {x : Bd} (B : Bp CB CM H0 H p A ts ls x) {D : Addr} {o : HO} (f0 : H0 D = none) (n : ¬ (D = p ∨ D = A.r ∨ D = A.w ∨ D = A.t ∨ D = A.m ∨ D = A.s ∨ D = A.l)) (nt : ∃ o, H D = some o ∧ ∀ xs, o ≠ .tup xs) : Bp CB CM H0 (upd H D o) p A ts ls x := by
  obtain ⟨sv, tv, dv, hp, hz⟩ := B.hp
  obtain ⟨oD, hD, hn⟩ := nt
  have t : ∀ q xs, H q = some (.tup xs) → upd H D o q = some (.tup xs) := fun q xs e => by
    rw [upd_ne (fun z => by rw [z, hD] at e; exact hn xs (Option.some.inj e))]
    exact e
  have k : ∀ {b : Addr} {y : HO}, b ≠ D → H b = some y → upd H D o b = some y := fun z e => by rw [upd_ne z]; exact e
  exact { B with
    sm := same_of B.sm f0
    hp := ⟨sv, tv, dv, k (fun z => n (.inl z.symm)) hp, hz.mono t⟩
    hr := k (fun z => n (.inr (.inl z.symm))) B.hr
    hw := k (fun z => n (.inr (.inr (.inl z.symm)))) B.hw
    ht := k (fun z => n (.inr (.inr (.inr (.inl z.symm))))) B.ht
    hm := k (fun z => n (.inr (.inr (.inr (.inr (.inl z.symm)))))) B.hm
    hs := k (fun z => n (.inr (.inr (.inr (.inr (.inr (.inl z.symm))))))) B.hs
    hl := k (fun z => n (.inr (.inr (.inr (.inr (.inr (.inr z.symm))))))) B.hl
    us := B.us.mono t
    ll := B.ll.mono t }
theorem putTM_zero (a v : Int) (x : Bd) : (putTM a v x).zero = x.zero := putWM_zero a v _
theorem putTM_sent (a v : Int) (x : Bd) : (putTM a v x).sent.length ≤ x.sent.length + 1 := putWM_sent a v { x with sw := x.sw.filter fun i => decide (i ≠ a) }
theorem bendW_len (b : Int) (l : List Int) : (bendW b l).length = l.length := by cases l <;> rfl
theorem kS_r (b : Bool) : decide (V.str (kS b) = V.str "r") = !b := by
  cases b with
  | true => exact ne_wr
  | false => exact decide_eq_true rfl
theorem nm_at {op : Nat} (h : op < 23) : atI (opN.map V.str) (op : Int) = some (.str (nmOf op)) := by
  have hj : op < opN.length := h
  refine atI_nat ?_
  rw [List.getElem?_map, List.getElem?_eq_getElem hj]
  unfold nmOf
  rw [List.getD_eq_getElem?_getD, List.getElem?_eq_getElem hj]
  rfl
theorem nm_mark : ∀ op : Nat, op < 23 → decide (V.str (nmOf op) = V.str "mark") = decide (op = 0) := by decide +kernel
theorem reads_len (ts : List (Bool × Int)) (m sw : List Int) (pc : Int) : (readsM m sw pc ts).length = (ts.filter fun t => !t.1).length := List.length_map ..
theorem nR_ok (op : Nat) (n b sp : Int) (m sw : List Int) (pc : Int) (h : op < 23) : (readsM m sw pc (touM op n b sp)).length = nR op := by
  match op, h with

  | 0, _ => rfl
  | 1, _ => rfl
  | 2, _ => rfl
  | 3, _ => rfl
  | 4, _ => rfl
  | 5, _ => rfl
  | 6, _ => rfl
  | 7, _ => rfl
  | 8, _ => rfl
  | 9, _ => rfl
  | 10, _ => rfl
  | 11, _ => rfl
  | 12, _ => rfl
  | 13, _ => rfl
  | 14, _ => rfl
  | 15, _ => rfl
  | 16, _ => rfl
  | 17, _ => rfl
  | 18, _ => rfl
  | 19, _ => rfl
  | 20, _ => rfl
  | 21, _ => rfl
  | 22, _ => rfl
  | n + 23, h => omega
section
variable {P : Program} {w : World} {K : PySem.W.Frag} {mg : Str → Option Value} {base : Heap} {CB CM : Addr}
abbrev sMbegin : Stmt := inClass (topS 69) 6
def scMbeginN : List Str := ["self", "pc", "sp", "flags"]
theorem scMbegin : FnScope scMbeginN ["self"] (defScope sMbegin) := ⟨rfl, rfl, rfl, by decide +kernel, rfl, by decide +kernel, by decide +kernel⟩
theorem ok_Mbegin {f : Addr} {fd : FuncData} {fM_called : Addr} {dM_called : FuncData} {fM_may : Addr} {dM_may : FuncData} {fM_pass : Addr} {dM_pass : FuncData} {fM_pbt : Addr} {dM_pbt : FuncData} (F : Fun K "begin_interrupt" "Board.begin_interrupt" sMbegin f fd) (T : Tx K mg CB CM)
    (M_called : CalM P w K mg base CM 1 "called_flags" ["self"] (spMCall CM) fM_called dM_called)
    (M_may : CalM P w K mg base CB 2 "may_touch" ["self", "touches"] (spMay CB CM) fM_may dM_may)
    (M_pass : CalM P w K mg base CB 3 "pass_beats" ["self", "many"] (spPass CB CM) fM_pass dM_pass)
    (M_pbt : CalM P w K mg base CB 3 "put_by_turn" ["self", "address", "word"] (spPt CB CM) fM_pbt dM_pbt) : FnOk P w K mg base CX0 4 f fd ["self"] (spBegin CB CM) := by
  refine F.ok scMbegin (fun vs H Q E h => by obtain ⟨_, _, _, rfl, _⟩ := h; rfl) (fun cdv A outer s H vs Q E hr h => ?_)
  have hu := hu_of hr
  obtain ⟨t_INTERRUPT_BEATS, g_INTERRUPT_BEATS⟩ := T.g_INTERRUPT_BEATS
  obtain ⟨t_LINE_PC, g_LINE_PC⟩ := T.g_LINE_PC
  obtain ⟨t_TIMER_FLAG, g_TIMER_FLAG⟩ := T.g_TIMER_FLAG
  obtain ⟨t_TIMER_PC, g_TIMER_PC⟩ := T.g_TIMER_PC
  obtain ⟨H0, p, x, rfl, R, hsl, k1, k2⟩ := h
  obtain ⟨A, ts, ls, B⟩ := R
  obtain ⟨sv, tv, dv, hp, hz⟩ := B.hp
  refine ⟨_, (pss_cons (ps_set (i := 1) scMbegin.nd rfl (.inl rfl) (pe_dget hu (pe_fld (pv 0) rfl) pe_str (fun _ _ => rfl)))
    (pss_cons (ps_set (i := 2) scMbegin.nd rfl (.inl rfl) (pe_dget hu (pe_fld (pv 0) rfl) pe_str (fun _ _ => rfl)))
    (pss_cons (ps_set (i := 3) scMbegin.nd rfl (.inl rfl) (pe_meth0 (pe_fld (pv 0) rfl) M_called.c M_called.m M_called.G (hr.mono (by decide)) M_called.b .nil pass0))
    (pss_cons (ps_if (pt_not (pt_val (pe_meth (pv 0) M_may.c M_may.m M_may.G (hr.mono (by decide)) M_may.b .nil pass0 (pa_cons (pe_lst (pa_cons (pe_tup (pa_cons pe_str (pa_cons (pv 2) pa_nil))) (pa_cons (pe_tup (pa_cons pe_str (pa_cons (pe_op op_sub (pv 2) pe_int) pa_nil))) pa_nil))) pa_nil)))) (pss_one (ps_ret pe_str)) pss_nil)
    (pss_cons (ps_expr (pe_meth (pv 0) M_pbt.c M_pbt.m M_pbt.G (hr.mono (by decide)) M_pbt.b .nil pass0 (pa_cons (pv 2) (pa_cons (pv 1) pa_nil))))
    (pss_cons (ps_expr (pe_meth (pv 0) M_pbt.c M_pbt.m M_pbt.G (hr.mono (by decide)) M_pbt.b .nil pass0 (pa_cons (pe_op op_sub (pv 2) pe_int) (pa_cons (pe_ifExp (pt_val (pe_fld (pv 0) rfl)) pe_int pe_int) pa_nil))))
    (pss_cons (ps_dput hu (pe_fld (pv 0) rfl) pe_str (pe_op op_sub (pv 2) pe_int) rfl)
    (pss_cons (ps_fld (pv 0) pe_bl rfl)
    (pss_cons (ps_dput hu (pe_fld (pv 0) rfl) pe_str (pe_ifExp (pt_truth (pe_op op_and (pv 3) (pgI g_TIMER_FLAG)) (fun _ => rfl)) (pgI g_TIMER_PC) (pgI g_LINE_PC)) rfl)
    (pss_cons (ps_expr (pe_meth (pv 0) M_pass.c M_pass.m M_pass.G (hr.mono (by decide)) M_pass.b .nil pass0 (pa_cons (pgI g_INTERRUPT_BEATS) pa_nil)))
    (pss_one (ps_ret pe_str)))))))))))), ?_⟩
  refine ⟨_, rfl, p, CB, A.dx, _, _, rfl, hp, T.cB, T.n_registers, bF_reg, A.r, _, rfl, dg (k := Sum.inr "pc") B.hr rG_pc, _, rfl, p, CB, A.dx, _, _, rfl, hp, T.cB, T.n_registers, bF_reg, A.r, _, rfl, dg (k := Sum.inr "sp") B.hr rG_sp, _, rfl, p, CB, A.dx, _, _, rfl, hp, T.cB, T.n_memory, bF_mem, A.m, A.dm, _, rfl, B.hm, mN_called, A.m, A.dm, A.w, A.s, _, rfl, B.mem, ?_⟩
  refine ⟨_, rfl, p, A.dx, _, rfl, hp, bN_may, _, rfl, (by show 2 ≤ sizeLine; decide), fun t1 n1 => ⟨_, rfl, _, _, rfl, rfl, (by show 2 ≤ sizeLine; decide), fun t2 n2 => ⟨(by show 2 ≤ sizeLine; decide), fun l nl => ⟨_, p, l, x, [.ref t1, .ref t2], [(true, x.sp), (true, x.sp - 1)], rfl, ⟨A, ts, ls, ((B.grow n1).grow n2).grow nl⟩, upd_same, .cons ⟨t1, rfl, same_upd' nl _ _ (same_upd' n2 _ _ upd_same)⟩ (.cons ⟨t2, rfl, same_upd' nl _ _ upd_same⟩ .nil), fun H2 R2 => ?_⟩⟩⟩⟩
  have g1 := B.grow (o := .tup [V.str "w", V.int x.sp]) n1
  have g2 := g1.grow (o := .tup [V.str "w", V.int (x.sp - 1)]) n2
  have f0 : H0 l = none := B.sm.free (((same_upd' n1).trans (same_upd' n2)).free nl)
  have s1 := same_upd' (o := .tup [V.str "w", V.int x.sp]) (B.sm.free n1)
  have s2 := same_upd' (o := .tup [V.str "w", V.int (x.sp - 1)]) (g1.sm.free n2)
  have s3 := same_upd' (o := .lst [V.ref t1, V.ref t2]) (g2.sm.free nl)
  have bs := (s1.trans s2).trans s3
  have hbl : upd (upd (upd H0 t1 (.tup [V.str "w", V.int x.sp])) t2 (.tup [V.str "w", V.int (x.sp - 1)])) l (.lst [V.ref t1, V.ref t2]) l = some (.lst [V.ref t1, V.ref t2]) := upd_same
  have htu : TouAt (upd (upd (upd H0 t1 (.tup [V.str "w", V.int x.sp])) t2 (.tup [V.str "w", V.int (x.sp - 1)])) l (.lst [V.ref t1, V.ref t2])) [.ref t1, .ref t2] [(true, x.sp), (true, x.sp - 1)] := .cons ⟨t1, rfl, s3 _ _ (s2 _ _ upd_same)⟩ (.cons ⟨t2, rfl, s3 _ _ upd_same⟩ .nil)
  clear g1 g2 s1 s2 s3
  generalize upd (upd (upd H0 t1 (.tup [V.str "w", V.int x.sp])) t2 (.tup [V.str "w", V.int (x.sp - 1)])) l (.lst [V.ref t1, V.ref t2]) = Hb at *
  cases e : firstBad [(true, x.sp), (true, x.sp - 1)] with
  | some r =>
    have em : mayM (.ref l) x [(true, x.sp), (true, x.sp - 1)] = (false, { x with stop := some (r.1, [x.pc, r.2]) }) := by
      unfold mayM
      rw [e]
    have ei : intM x = (("stopped" : Str), { x with stop := some (r.1, [x.pc, r.2]) }) := by
      unfold intM
      rw [e]
      rfl
    rw [em] at R2 ⊢
    exact ⟨_, rfl, ifN (fun _ => k1 _ ei _ (R2.unbase bs)) (fun h => by cases h)⟩
  | none =>
    have em : mayM (.ref l) x [(true, x.sp), (true, x.sp - 1)] = (true, { x with tv := V.ref l }) := by
      unfold mayM
      rw [e]
    have ei : intM x = (("interrupt" : Str), begunM x) := by
      unfold intM
      rw [e]
    rw [em] at R2 ⊢
    refine ⟨_, rfl, ifN (fun h => by cases h) (fun _ => ?_)⟩
    have tok := firstBad_ok e
    obtain ⟨t0, t1'⟩ := barM_ok (tok (true, x.sp) List.mem_cons_self)
    obtain ⟨u0, u1⟩ := barM_ok (tok (true, x.sp - 1) (List.mem_cons_of_mem _ List.mem_cons_self))
    obtain ⟨A2, ts2, ls2, B2⟩ := R2
    obtain ⟨sv2, tv2, dv2, hp2, hz2⟩ := B2.hp
    refine ⟨_, rfl, p, A2.dx, _, rfl, hp2, bN_pbt, _, rfl, _, rfl, Hb, p, { x with tv := V.ref l }, x.sp, x.pc, rfl, ⟨A2, ts2, ls2, B2⟩, (by show x.sent.length < 1000000; omega), t0, t1', fun H3 R3 => ?_⟩
    obtain ⟨A3, ts3, ls3, B3⟩ := R3
    obtain ⟨sv3, tv3, dv3, hp3, hz3⟩ := B3.hp
    have hs3 : (putTM x.sp x.pc { x with tv := V.ref l }).sent.length ≤ x.sent.length + 1 := putTM_sent x.sp x.pc { x with tv := V.ref l }
    have eb : begunM { x with tv := V.ref l } = passM 3 { putTM (x.sp - 1) (b2n x.zero) (putTM x.sp x.pc { x with tv := V.ref l }) with sp := x.sp - 2, lets := false, pc := if Builtin.bitAnd (calledM x) 1 ≠ 0 then 1 else 2 } := rfl
    refine ⟨_, rfl, p, A3.dx, _, rfl, hp3, bN_pbt, _, rfl, _, _, rfl, rfl, _, rfl, p, CB, A3.dx, _, _, rfl, hp3, T.cB, T.n_zero, bF_zero, _, rfl, ?_⟩
    refine iteb ?_
    rw [putTM_zero]
    refine ⟨Hb, p, _, x.sp - 1, b2n x.zero, rfl, ⟨A3, ts3, ls3, B3⟩, by omega, u0, u1, fun H4 R4 => ?_⟩
    generalize hy : putTM (x.sp - 1) (b2n x.zero) (putTM x.sp x.pc { x with tv := V.ref l }) = y at *
    obtain ⟨A4, ts4, ls4, B4⟩ := R4
    obtain ⟨sv4, tv4, dv4, hp4, hz4⟩ := B4.hp
    refine ⟨_, rfl, _, _, rfl, rfl, _, rfl, p, CB, A4.dx, _, _, rfl, hp4, T.cB, T.n_registers, bF_reg, A4.r, _, rfl, dp (k := Sum.inr "sp") B4.hr rP_sp, ?_⟩
    have B5 := B4.regs (a := y.a) (b := y.b) (pc := y.pc) (sp := x.sp - 2)
    obtain ⟨sv5, tv5, dv5, hp5, hz5⟩ := B5.hp
    refine ⟨_, rfl, p, CB, A4.dx, _, rfl, hp5, T.cB, T.n_lets, (by show 13 < 1000; decide), ?_⟩
    rw [bP_lets]
    have B6 := B5.fld (z := y.zero) (le := false) (as := y.asleep) (bt := y.beat) (sv := sv5) (la := y.la) (tv := tv5) (dv := dv5) hz5
    obtain ⟨sv6, tv6, dv6, hp6, hz6⟩ := B6.hp
    have fin : ∀ pc' : Int, pc' = (if Builtin.bitAnd (calledM x) 1 ≠ 0 then 1 else 2) → ∀ H7, BoardAt CB CM Hb H7 p { y with sp := x.sp - 2, lets := false, pc := pc' } → ∀ H8, BoardAt CB CM Hb H8 p (passM 3 { y with sp := x.sp - 2, lets := false, pc := pc' }) → Q (.str "interrupt") H8 := fun pc' epc H7 _ H8 R8 => by
      refine k2 ei _ (.ref l) ⟨l, _, rfl, f0, R8.sm _ _ hbl, htu.mono (fun t xs e => R8.sm _ _ e)⟩ ?_
      rw [eb]
      subst epc
      exact R8.unbase bs
    have step : ∀ pc' : Int, pc' = (if Builtin.bitAnd (calledM x) 1 ≠ 0 then 1 else 2) → Bp CB CM Hb (upd _ A4.r (.dK (regD y.a y.b pc' (x.sp - 2)))) p A4 ts4 ls4 { y with sp := x.sp - 2, lets := false, pc := pc' } := fun pc' _ => B6.regs (a := y.a) (b := y.b) (pc := pc') (sp := x.sp - 2)
    refine ⟨_, rfl, _, _, rfl, rfl, _, rfl, ifB (fun hb => ?_) (fun hb => ?_)⟩
    · have e1 : (1 : Int) = (if Builtin.bitAnd (calledM x) 1 ≠ 0 then 1 else 2) := (if_pos (fun z => by
        have hb' : (Builtin.bitAnd (calledM x) 1 != 0) = true := hb
        rw [z] at hb'
        cases hb')).symm
      refine ⟨_, rfl, p, CB, A4.dx, _, _, rfl, hp6, T.cB, T.n_registers, bF_reg, A4.r, _, rfl, dp (k := Sum.inr "pc") B6.hr rP_pc, ?_⟩
      have B7 := step 1 e1
      obtain ⟨sv7, tv7, dv7, hp7, hz7⟩ := B7.hp
      exact ⟨_, rfl, p, A4.dx, _, rfl, hp7, bN_pass, Hb, p, _, 3, rfl, ⟨A4, ts4, ls4, B7⟩, by decide, fun H8 R8 => fin 1 e1 _ ⟨A4, ts4, ls4, B7⟩ H8 R8⟩
    · have e1 : (2 : Int) = (if Builtin.bitAnd (calledM x) 1 ≠ 0 then 1 else 2) := (if_neg (fun z => z (by
        have hb' : (Builtin.bitAnd (calledM x) 1 != 0) = false := hb
        simpa using hb'))).symm
      refine ⟨_, rfl, p, CB, A4.dx, _, _, rfl, hp6, T.cB, T.n_registers, bF_reg, A4.r, _, rfl, dp (k := Sum.inr "pc") B6.hr rP_pc, ?_⟩
      have B7 := step 2 e1
      obtain ⟨sv7, tv7, dv7, hp7, hz7⟩ := B7.hp
      exact ⟨_, rfl, p, A4.dx, _, rfl, hp7, bN_pass, Hb, p, _, 3, rfl, ⟨A4, ts4, ls4, B7⟩, by decide, fun H8 R8 => fin 2 e1 _ ⟨A4, ts4, ls4, B7⟩ H8 R8⟩
abbrev sMdo : Stmt := inClass (topS 69) 7
def scMdoN : List Str := ["self", "pc", "op", "x", "name", "touches", "words", "doing", "kind", "address"]
theorem scMdo : FnScope scMdoN ["self"] (defScope sMdo) := ⟨rfl, rfl, rfl, by decide +kernel, rfl, by decide +kernel, by decide +kernel⟩
theorem ok_Mdo {f : Addr} {fd : FuncData} {fF_tou : Addr} {dF_tou : FuncData} {fM_may : Addr} {dM_may : FuncData} {fM_pass : Addr} {dM_pass : FuncData} {fM_read : Addr} {dM_read : FuncData} {fM_stop : Addr} {dM_stop : FuncData} (F : Fun K "do_deed" "Board.do_deed" sMdo f fd) (T : Tx K mg CB CM)
    (F_tou : CalF P w K mg base 1 "touches_of" ["name", "x", "registers"] (spTou) fF_tou dF_tou)
    (M_may : CalM P w K mg base CB 2 "may_touch" ["self", "touches"] (spMay CB CM) fM_may dM_may)
    (M_pass : CalM P w K mg base CB 3 "pass_beats" ["self", "many"] (spPass CB CM) fM_pass dM_pass)
    (M_read : CalM P w K mg base CM 1 "read" ["self", "address", "pc"] (spMRead CM) fM_read dM_read)
    (M_stop : CalM P w K mg base CB 1 "stop" ["self", "stop"] (spStop CB CM) fM_stop dM_stop)
    {adr : Nat → Addr} {fdr : Nat → FuncData} (FD : DoF P w K mg base CB CM adr fdr) : FnOk P w K mg base CX0 5 f fd ["self"] (spDeed CB CM) := by
  refine F.ok scMdo (fun vs H Q E h => by obtain ⟨_, _, _, rfl, _⟩ := h; rfl) (fun cdv A outer s H vs Q E hr h => ?_)
  have hu := hu_of hr
  obtain ⟨t_RAM_END, g_RAM_END⟩ := T.g_RAM_END
  obtain ⟨t_X_SPAN, g_X_SPAN⟩ := T.g_X_SPAN
  have z_divmod := T.z_divmod
  have z_len := T.z_len
  obtain ⟨H0, p, x, rfl, R, hsl, hpc, k1, k2⟩ := h
  obtain ⟨A, ts, ls, B⟩ := R
  obtain ⟨sv, tv, dv, hp, hz⟩ := B.hp
  obtain ⟨aO, g_OP_NAMES, vO⟩ := T.g_OP_NAMES
  obtain ⟨aD, g_DOINGS, vD⟩ := FD.D
  obtain ⟨op1, eop, o1, o2⟩ : ∃ op1 : Nat, (1 ≤ opM x → opM x < 23 → op1 = opM x) ∧ 1 ≤ op1 ∧ op1 < 23 := by
    by_cases h : 1 ≤ opM x ∧ opM x < 23
    · exact ⟨opM x, fun _ _ => rfl, h.1, h.2⟩
    · exact ⟨1, fun a b => absurd ⟨a, b⟩ h, by decide, by decide⟩
  refine ⟨_, (pss_cons (ps_set (i := 1) scMdo.nd rfl (.inr rfl) (pe_dget hu (pe_fld (pv 0) rfl) pe_str (fun _ _ => rfl)))
    (pss_cons (ps_if (pt_not (pt_chain op_le op_lt pe_int (pv 1) (pgI g_RAM_END))) (pss_one (ps_ret (pe_meth (pv 0) M_stop.c M_stop.m M_stop.G (hr.mono (by decide)) M_stop.b .nil pass0 (pa_cons (pe_tup (pa_cons pe_str (pa_cons (pv 1) (pa_cons (pv 1) pa_nil)))) pa_nil)))) pss_nil)
    (pss_cons (ps_asg (pe_callB call_divmod (by rfl) z_divmod (by decide +kernel) (pa_cons (pe_meth (pe_fld (pv 0) rfl) M_read.c M_read.m M_read.G (hr.mono (by decide)) M_read.b .nil pass0 (pa_cons (pv 1) (pa_cons (pv 1) pa_nil))) (pa_cons (pgI g_X_SPAN) pa_nil))) (pg_tup rfl (pgs_cons (pg_name (i := 2) scMdo.nd rfl (.inl rfl)) (pgs_cons (pg_name (i := 3) scMdo.nd rfl (.inl rfl)) pgs_nil))))
    (pss_cons (ps_if (pt_cmpR op_ge (pv 2) (pe_callB call_len_seq (by rfl) z_len PySem.boot_len (pa_cons (pgR g_OP_NAMES) pa_nil)) (nomark _)) (pss_one (ps_ret (pe_meth (pv 0) M_stop.c M_stop.m M_stop.G (hr.mono (by decide)) M_stop.b .nil pass0 (pa_cons (pe_tup (pa_cons pe_str (pa_cons (pv 1) pa_nil))) pa_nil)))) pss_nil)
    (pss_cons (ps_set (i := 4) scMdo.nd rfl (.inl rfl) (pe_ix ix_tup (pgR g_OP_NAMES) (pv 2) (fun _ _ => rfl)))
    (pss_cons (ps_if (pt_cmpR op_eq (pv 4) pe_str (nomark _)) (pss_one (ps_ret (pe_meth (pv 0) M_stop.c M_stop.m M_stop.G (hr.mono (by decide)) M_stop.b .nil pass0 (pa_cons (pe_tup (pa_cons pe_str (pa_cons (pv 1) pa_nil))) pa_nil)))) pss_nil)
    (pss_cons (ps_set (i := 5) scMdo.nd rfl (.inl rfl) (pe_call F_tou.G (hr.mono (by decide)) (by rfl) F_tou.g F_tou.kp F_tou.b .nil pass0 (pa_cons (pv 4) (pa_cons (pv 3) (pa_cons (pe_fld (pv 0) rfl) pa_nil)))))
    (pss_cons (ps_if (pt_not (pt_val (pe_meth (pv 0) M_may.c M_may.m M_may.G (hr.mono (by decide)) M_may.b .nil pass0 (pa_cons (pv 5) pa_nil)))) (pss_one (ps_ret pe_str)) pss_nil)
    (pss_cons (ps_setLc (i := 6) (own := [("kind", 8), ("address", 9)]) (g := gTup K 2 (gCons (gName 8) (gCons (gName 9) gNil))) (by rfl) scMdo.nd rfl rfl rfl (pi_list (pv 5)) (blkOk_by (own := [("kind", 8), ("address", 9)]) (N := scMdoN) (sc := defScope sMdo) (by decide +kernel)) (fun _ _ _ _ _ => (gtK (K := K) (n := 2) (by rfl) (by rfl) (pgs_cons (pg_name (i := 8) scMdo.nd rfl (.inl rfl)) (pgs_cons (pg_name (i := 9) scMdo.nd rfl (.inl rfl)) pgs_nil)) (by rfl) (by rfl))) (fun _ _ _ _ _ => (pts_one (pt_cmpR op_eq (pv 8) pe_str (nomark _)))) (fun _ _ _ _ _ => (pe_meth (pe_fldK (K := K) (by rfl) (pv 0) (by rfl)) M_read.c M_read.m M_read.G (hr.mono (by decide)) M_read.b .nil pass0 (pa_cons (pv 9) (pa_cons (pv 1) pa_nil)))))
    (pss_cons (ps_if (pt_truth (pv 6) (fun _ => rfl)) (pss_cons (ps_asg (pe_op op_xor (pe_ix ix_list (pv 6) pe_int (fun _ _ => rfl)) (pe_fld (pv 0) rfl)) (pg_sub (pv 6) pe_int set_list))
    (pss_one (ps_fld (pv 0) pe_int rfl))) pss_nil)
    (pss_cons (ps_fld (pv 0) (pv 4) rfl)
    (pss_cons (ps_dput hu (pe_fld (pv 0) rfl) pe_str (pe_op op_add (pv 1) pe_int) rfl)
    (pss_cons (ps_set (i := 7) scMdo.nd rfl (.inl rfl) (pe_ix ix_kdict (pgR g_DOINGS) (pv 4) (fun _ _ => rfl)))
    (pss_cons (ps_expr (pe_callL (i := 7) (FD.G op1 o1 o2) (hr.mono (by decide)) rfl (.inl rfl) (FD.kp op1 o1 o2) (FD.b op1 o1 o2) .nil pass0 (pa_cons (pv 0) (pa_cons (pv 3) (pa_cons (pv 6) pa_nil)))))
    (pss_cons (ps_expr (pe_meth (pv 0) M_pass.c M_pass.m M_pass.G (hr.mono (by decide)) M_pass.b .nil pass0 (pa_cons (pe_op op_add pe_int (pe_callB call_len_seq (by rfl) z_len PySem.boot_len (pa_cons (pv 5) pa_nil))) pa_nil)))
    (pss_one (ps_ret pe_str))))))))))))))))), ?_⟩
  have far : ¬ (0 ≤ x.pc ∧ x.pc < 768) → deedM x = (("stopped" : Str), { x with stop := some ("far", [x.pc, x.pc]) }) := fun h => by
    unfold deedM stopAt
    rw [if_pos h]
  refine ⟨_, rfl, p, CB, A.dx, _, _, rfl, hp, T.cB, T.n_registers, bF_reg, A.r, _, rfl, dg (k := Sum.inr "pc") B.hr rG_pc, ?_⟩
  refine ⟨_, rfl, _, _, rfl, rfl, _, rfl, ifB (fun h0 => ?_) (fun h0 => ⟨_, rfl, ?_⟩)⟩
  rotate_left
  · have ed := far (fun z => of_decide_eq_false h0 z.1)
    refine ⟨_, rfl, p, A.dx, _, rfl, hp, bN_stop, _, rfl, _, rfl, (by show 3 ≤ sizeLine; decide), fun q nq => ⟨H0, p, q, x, "far", [x.pc, x.pc], rfl, ⟨A, ts, ls, B.more nq⟩, upd_same, fun H2 R2 => ?_⟩⟩
    exact k1 _ ed _ R2
  refine ⟨_, _, rfl, rfl, _, rfl, ifN (fun h1 => ?_) (fun h1 => ?_)⟩
  · have ed := far (fun z => of_decide_eq_false h1 z.2)
    refine ⟨_, rfl, p, A.dx, _, rfl, hp, bN_stop, _, rfl, _, rfl, (by show 3 ≤ sizeLine; decide), fun q nq => ⟨H0, p, q, x, "far", [x.pc, x.pc], rfl, ⟨A, ts, ls, B.more nq⟩, upd_same, fun H2 R2 => ?_⟩⟩
    exact k1 _ ed _ R2
  have h0 := of_decide_eq_true h0
  have h1 := of_decide_eq_true h1
  have hw := hpc h0 h1
  refine ⟨_, rfl, p, CB, A.dx, _, _, rfl, hp, T.cB, T.n_memory, bF_mem, A.m, A.dm, _, rfl, B.hm, mN_read, _, rfl, _, rfl, A.m, A.dm, A.w, A.s, x.mem, x.sw, x.pc, x.pc, rfl, B.mem, B.hs, h0, by omega, ?_⟩
  rw [rdS_pc]
  refine ⟨_, _, rfl, ⟨by decide, by decide⟩, fun t nt => ?_⟩
  refine ⟨t, _, rfl, SqT.of upd_same, rfl, _, _, rfl, _, _, rfl, rfl, ?_⟩
  have B1 := B.more (o := .tup [.int (rd x.mem x.pc / 1024), .int (rd x.mem x.pc % 1024)]) nt
  clear B hp hz sv tv dv
  generalize upd H t (.tup [.int (rd x.mem x.pc / 1024), .int (rd x.mem x.pc % 1024)]) = H1 at *
  have B := B1
  obtain ⟨sv, tv, dv, hp, hz⟩ := B.hp
  have eop0 : rd x.mem x.pc / 1024 = ((opM x : Nat) : Int) := by
    unfold opM
    have := Int.ediv_nonneg hw (show (0 : Int) ≤ 1024 by decide)
    omega
  rw [eop0]
  refine ⟨_, rfl, aO, _, rfl, .inr (vO _), _, _, rfl, rfl, _, rfl, ifB (fun h => ?_) (fun h => ?_)⟩
  · have h23 : 23 ≤ opM x := by
      have := of_decide_eq_true h
      have e : (opN.map V.str).length = 23 := rfl
      rw [e] at this
      omega
    have ed : deedM x = (("stopped" : Str), { x with stop := some ("none", [x.pc]) }) := by
      unfold deedM stopAt
      rw [if_neg (fun z => z ⟨h0, h1⟩), if_pos h23]
    refine ⟨_, rfl, p, A.dx, _, rfl, hp, bN_stop, _, rfl, (by show 2 ≤ sizeLine; decide), fun q nq => ⟨H0, p, q, x, "none", [x.pc], rfl, ⟨A, ts, ls, B.more nq⟩, upd_same, fun H2 R2 => ?_⟩⟩
    exact k1 _ ed _ R2
  have h23 : opM x < 23 := by
    have := of_decide_eq_false h
    have e : (opN.map V.str).length = 23 := rfl
    rw [e] at this
    omega
  refine ⟨_, rfl, aO, _, _, _, rfl, rfl, vO _, nm_at h23, ?_⟩
  refine ⟨_, rfl, rfl, _, rfl, ?_⟩
  rw [nm_mark _ h23]
  refine ifB (fun h => ?_) (fun h => ?_)
  · have hm0 := of_decide_eq_true h
    have ed : deedM x = (("stopped" : Str), { x with stop := some ("mark", [x.pc]) }) := by
      unfold deedM stopAt
      rw [if_neg (fun z => z ⟨h0, h1⟩), if_neg (by omega), if_pos hm0]
    refine ⟨_, rfl, p, A.dx, _, rfl, hp, bN_stop, _, rfl, (by show 2 ≤ sizeLine; decide), fun q nq => ⟨H0, p, q, x, "mark", [x.pc], rfl, ⟨A, ts, ls, B.more nq⟩, upd_same, fun H2 R2 => ?_⟩⟩
    exact k1 _ ed _ R2
  have hm0 := of_decide_eq_false h
  have eop1 := eop (by omega) h23
  subst eop1
  refine ⟨_, rfl, _, rfl, _, rfl, p, CB, A.dx, _, _, rfl, hp, T.cB, T.n_registers, bF_reg, nmOf (opM x), xM x, A.r, x.a, x.b, x.pc, x.sp, rfl, B.hr, fun H2 l us s2 nl hl tu => ?_⟩
  rw [touN_op _ h23] at tu
  have tu : TouAt H2 us (toM x) := tu
  have B2 := B.same s2
  obtain ⟨sv2, tv2, dv2, hp2, hz2⟩ := B2.hp
  have f0 : H0 l = none := B.sm.free nl
  have lp : l ≠ p := ne_of hl hp2 (by intro q; cases q)
  have lr : l ≠ A.r := ne_of hl B2.hr (by intro q; cases q)
  have lw : l ≠ A.w := fun z => by rw [z, B.hw] at nl; cases nl
  have lt : l ≠ A.t := fun z => by rw [z, B.ht] at nl; cases nl
  have lm_ : l ≠ A.m := fun z => by rw [z, B.hm] at nl; cases nl
  have ls_ : l ≠ A.s := fun z => by rw [z, B.hs] at nl; cases nl
  have ll_ : l ≠ A.l := fun z => by rw [z, B.hl] at nl; cases nl
  have B2' := B2.rebase
  have bs := B2.base_same
  have bl : baseOf H2 p A l = some (.lst us) := (B2.base_at lp lr lw lt lm_ ls_ ll_).trans hl
  have bt : TouAt (baseOf H2 p A) us (toM x) := tu.mono B2.base_tup
  generalize baseOf H2 p A = Hb at *
  refine ⟨_, rfl, p, A.dx, _, rfl, hp2, bN_may, _, rfl, Hb, p, l, x, us, toM x, rfl, ⟨A, ts, ls, B2'⟩, hl, tu, fun H3 R3 => ?_⟩
  cases e : firstBad (toM x) with
  | some r =>
    have em : mayM (.ref l) x (toM x) = (false, { x with stop := some (r.1, [x.pc, r.2]) }) := by
      unfold mayM
      rw [e]
    have ed : deedM x = (("stopped" : Str), { x with stop := some (r.1, [x.pc, r.2]) }) := by
      unfold deedM
      rw [if_neg (fun z => z ⟨h0, h1⟩), if_neg (by omega), if_neg hm0, e]
      rfl
    rw [em] at R3 ⊢
    exact ⟨_, rfl, ifN (fun _ => k1 _ ed _ (R3.unbase bs)) (fun h => by cases h)⟩
  | none =>
    have em : mayM (.ref l) x (toM x) = (true, { x with tv := V.ref l }) := by
      unfold mayM
      rw [e]
    have ed : deedM x = (("deed" : Str), doneM x) := by
      unfold deedM
      rw [if_neg (fun z => z ⟨h0, h1⟩), if_neg (by omega), if_neg hm0, e]
    rw [em] at R3 ⊢
    refine ⟨_, rfl, ifN (fun h => by cases h) (fun _ => ?_)⟩
    have tok := firstBad_ok e
    obtain ⟨A3, ts3, ls3, B3⟩ := R3
    obtain ⟨sv3, tv3, dv3, hp3, hz3⟩ := B3.hp
    have l3 := B3.sm _ _ bl
    have t3 := bt.mono fun t xs e => B3.sm _ _ e
    refine ⟨_, rfl, l, rfl, ⟨_, SqL.of l3⟩, fun D nD => ?_⟩
    refine lc_list (K := K) (a := l) (xs := us) (fun i H' => Same H3 H' ∧ H' D = some (.lst ((readsM x.mem x.sw x.pc ((toM x).take i)).map V.int))) ⟨same_upd' nD, upd_same⟩ (fun i H' _ h => SqL.of (h.1 _ _ l3)) ?_ ?_
    · rintro j v H' hv ⟨sm, hD⟩
      obtain ⟨q, t, rfl, e1, e2⟩ := TouAt.get t3 hv
      have hq := sm _ _ e2
      have htk : (toM x).take (j + 1) = (toM x).take j ++ [t] := by rw [List.take_succ, e1]; rfl
      obtain ⟨i0, i1⟩ := barM_ok (tok t (List.mem_of_getElem? e1))
      refine ⟨q, _, rfl, SqT.of hq, rfl, _, _, rfl, _, _, rfl, rfl, rfl, ?_⟩
      refine ⟨_, rfl, rfl, _, rfl, ?_⟩
      rw [kS_r]
      obtain ⟨tb, ta⟩ := t
      cases tb with
      | true =>
        refine ifB (fun h => by cases h) (fun _ => ?_)
        refine ⟨sm, ?_⟩
        rw [htk]
        unfold readsM at hD ⊢
        rw [List.filter_append, List.map_append, List.map_append]
        rw [show (List.filter (fun t : Bool × Int => !t.1) [(true, ta)]) = [] from rfl, List.map_nil, List.map_nil, List.append_nil]
        exact hD
      | false =>
        refine ifB (fun _ => ?_) (fun h => by cases h)
        have Bj := B3.same sm
        obtain ⟨svj, tvj, dvj, hpj, hzj⟩ := Bj.hp
        refine ⟨_, rfl, p, CB, A3.dx, _, _, rfl, hpj, T.cB, T.n_memory, bF_mem, A3.m, A3.dm, _, rfl, Bj.hm, mN_read, _, rfl, _, rfl, A3.m, A3.dm, A3.w, A3.s, x.mem, x.sw, _, _, rfl, Bj.mem, Bj.hs, i0, i1, ?_⟩
        refine ⟨_, hD, ?_, same_of sm nD, ?_⟩
        · rw [List.length_map]
          refine small1000 ?_
          unfold readsM
          rw [List.length_map]
          refine Nat.le_trans (List.length_filter_le _ _) ?_
          rw [List.length_take]
          have := (List.getElem?_eq_some_iff.mp e1).1
          have hlen : (toM x).length ≤ 2 := touM_len _ _ _ _
          omega
        · rw [upd_same, htk]
          unfold readsM
          rw [List.filter_append, List.map_append, List.map_append]
          rfl
    · rintro H4 ⟨sm4, hD⟩
      rw [TouAt.len t3, List.take_length] at hD
      have B4 := B3.same sm4
      obtain ⟨sv4, tv4, dv4, hp4, hz4⟩ := B4.hp
      have hD : H4 D = some (.lst ((rawM x).map V.int)) := hD
      have B4 : Bp CB CM Hb H4 p A3 ts3 ls3 { x with tv := V.ref l } := B4
      apply joinR (I := fun HX => Bp CB CM Hb HX p A3 ts3 ls3 { x with tv := V.ref l, bend := bentM x } ∧ HX D = some (.lst ((wordsM x).map V.int)))
      case body =>
        intro kk
        refine ⟨_, rfl, _, .inl ⟨_, SqL.of hD, rfl⟩, ifB (fun hb => ?_) (fun hb => ?_)⟩
        · obtain ⟨w0, wr, ew⟩ : ∃ w0 wr, rawM x = w0 :: wr := by
            cases ew : rawM x with
            | nil => rw [ew] at hb; cases hb
            | cons w0 wr => exact ⟨w0, wr, rfl⟩
          have e1 : bentM x = 0 := by
            unfold bentM
            rw [ew]
            exact if_neg (fun z => by cases z)
          have e2 : wordsM x = Builtin.bitXor w0 x.bend :: wr := by
            unfold wordsM
            rw [ew]
            rfl
          rw [ew] at hD
          have nDp : D ≠ p := ne_of hD hp4 (by intro q; cases q)
          have nDr : D ≠ A3.r := ne_of hD B4.hr (by intro q; cases q)
          refine ⟨_, rfl, D, _, 0, _, rfl, rfl, SqL.of hD, atI_nat (j := 0) rfl, _, rfl, p, CB, A3.dx, _, _, rfl, hp4, T.cB, T.n_bend, bF_bend, _, _, rfl, rfl, _, rfl, D, _, _, _, rfl, rfl, hD, ixN_in (by decide) (by show (0 : Int) < (((w0 :: wr).map V.int).length : Int); rw [List.length_map, List.length_cons]; omega), ?_⟩
          have hnD : upd H4 D (.lst (((w0 :: wr).map V.int).set ((0 : Int).toNat) (.int (Builtin.bitXor w0 x.bend)))) D = some (.lst ((Builtin.bitXor w0 x.bend :: wr).map V.int)) := upd_same
          have kD : ∀ {b : Addr} {o : HO}, b ≠ D → H4 b = some o → upd H4 D (.lst (((w0 :: wr).map V.int).set ((0 : Int).toNat) (.int (Builtin.bitXor w0 x.bend)))) b = some o := fun n e => by rw [upd_ne n]; exact e
          have B5 : Bp CB CM Hb (upd H4 D (.lst (((w0 :: wr).map V.int).set ((0 : Int).toNat) (.int (Builtin.bitXor w0 x.bend))))) p A3 ts3 ls3 { x with tv := V.ref l } := B4.off (B3.sm.free nD) (fun z => by rcases B3.solid' D z with ⟨o, eo⟩; rw [nD] at eo; cases eo) ⟨_, hD, fun xs z => by cases z⟩
          obtain ⟨sv5, tv5, dv5, hp5, hz5⟩ := B5.hp
          generalize upd H4 D (.lst (((w0 :: wr).map V.int).set ((0 : Int).toNat) (.int (Builtin.bitXor w0 x.bend)))) = H5 at *
          refine ⟨_, rfl, p, CB, A3.dx, _, rfl, hp5, T.cB, T.n_bend, (by show 13 < 1000; decide), ?_⟩
          rw [bP_bend]
          have B6 := B5.bnd (bn := 0) hz5
          rw [← e1] at B6
          have hD6 := hnD
          rw [← upd_ne (H := H5) (o := .ins CB A3.dx (bdF A3.r A3.t A3.m A3.l x.zero x.lets x.asleep x.beat sv5 x.la tv5 dv5 0)) nDp, ← e2] at hD6
          refine kk _ ⟨?_, hD6⟩
          have B6 : Bp CB CM Hb _ p A3 ts3 ls3 { x with tv := V.ref l, bend := bentM x } := B6
          rw [e1] at B6 ⊢
          exact B6
        · have ew : rawM x = [] := by
            cases ew : rawM x with
            | nil => rfl
            | cons w0 wr => rw [ew] at hb; cases hb
          have e1 : bentM x = x.bend := if_pos ew
          have e2 : wordsM x = rawM x := by
            unfold wordsM
            rw [ew]
            rfl
          refine kk _ ⟨?_, by rw [e2]; exact hD⟩
          rw [e1]
          exact B4
      case key =>
      rintro HX ⟨B5, hD⟩
      clear hp4 hz4 sv4 tv4 dv4
      obtain ⟨sv5, tv5, dv5, hp5, hz5⟩ := B5.hp
      refine ⟨_, rfl, _, rfl, p, CB, A3.dx, _, rfl, hp5, T.cB, T.n_did, (by show 13 < 1000; decide), ?_⟩
      rw [bP_did]
      have B5 := B5.fld (z := x.zero) (le := x.lets) (as := x.asleep) (bt := x.beat) (sv := sv5) (la := x.la) (tv := tv5) (dv := .str (nmOf (opM x))) ⟨hz5.1, hz5.2.1, rfl⟩
      have hD5 := hD
      rw [← upd_ne (H := HX) (o := .ins CB A3.dx (bdF A3.r A3.t A3.m A3.l x.zero x.lets x.asleep x.beat sv5 x.la tv5 (.str (nmOf (opM x))) (bentM x))) (ne_of hD hp5 (by intro q; cases q))] at hD5
      generalize upd HX p (.ins CB A3.dx (bdF A3.r A3.t A3.m A3.l x.zero x.lets x.asleep x.beat sv5 x.la tv5 (.str (nmOf (opM x))) (bentM x))) = H5 at *
      obtain ⟨sv6_, tv6_, dv6_, hp5, hz5⟩ := B5.hp
      refine ⟨_, rfl, _, _, rfl, rfl, _, rfl, p, CB, A3.dx, _, _, rfl, hp5, T.cB, T.n_registers, bF_reg, A3.r, _, rfl, dp (k := Sum.inr "pc") B5.hr rP_pc, ?_⟩
      have B6 := B5.regs (a := x.a) (b := x.b) (pc := x.pc + 1) (sp := x.sp)
      have hD6 := hD5
      rw [← upd_ne (H := H5) (o := .dK (regD x.a x.b (x.pc + 1) x.sp)) (ne_of hD5 B5.hr (by intro q; cases q))] at hD6
      generalize upd H5 A3.r (.dK (regD x.a x.b (x.pc + 1) x.sp)) = H6 at *
      obtain ⟨sv6, tv6, dv6, hp6, hz6⟩ := B6.hp
      refine ⟨_, rfl, aD, nmOf (opM x), _, rfl, rfl, vD (opM x) o1 o2, ?_⟩
      refine ⟨rfl, _, rfl, _, rfl, _, rfl, Hb, p, D, { x with pc := x.pc + 1, tv := V.ref l, dv := .str (nmOf (opM x)), bend := bentM x }, xM x, wordsM x, rfl, ⟨A3, ts3, ls3, B6⟩, hD6, (by unfold wordsM; rw [bendW_len]; exact nR_ok _ _ _ _ _ _ _ h23), (fun t ht => barM_ok (tok t ht)), (by show x.sent.length < 1000000; omega), fun H7 R7 => ?_⟩
      obtain ⟨A7, ts7, ls7, B7⟩ := R7
      obtain ⟨sv7, tv7, dv7, hp7, hz7⟩ := B7.hp
      have l7 := B7.sm _ _ bl
      refine ⟨_, rfl, p, A7.dx, _, rfl, hp7, bN_pass, _, rfl, l, _, rfl, .inl (SqL.of l7), _, _, rfl, rfl, Hb, p, _, 1 + (toM x).length, ?_, ⟨A7, ts7, ls7, B7⟩, ?_, fun H8 R8 => ?_⟩
      · rw [TouAt.len bt]
        simp
      · have hlen : (toM x).length ≤ 2 := touM_len _ _ _ _
        omega
      · exact k2 ed _ (.ref l) ⟨l, us, rfl, f0, R8.sm _ _ bl, bt.mono (fun t xs e => R8.sm _ _ e)⟩ (R8.unbase bs)
abbrev sMturn : Stmt := inClass (topS 69) 5
def scMturnN : List Str := ["self", "coming"]
theorem scMturn : FnScope scMturnN ["self"] (defScope sMturn) := ⟨rfl, rfl, rfl, by decide +kernel, rfl, by decide +kernel, by decide +kernel⟩
theorem ok_Mturn {f : Addr} {fd : FuncData} {fM_begin : Addr} {dM_begin : FuncData} {fM_coming : Addr} {dM_coming : FuncData} {fM_do : Addr} {dM_do : FuncData} {fM_pass : Addr} {dM_pass : FuncData} (F : Fun K "turn" "Board.turn" sMturn f fd) (T : Tx K mg CB CM)
    (M_begin : CalM P w K mg base CB 4 "begin_interrupt" ["self"] (spBegin CB CM) fM_begin dM_begin)
    (M_coming : CalM P w K mg base CB 2 "coming" ["self"] (spComing CB CM) fM_coming dM_coming)
    (M_do : CalM P w K mg base CB 5 "do_deed" ["self"] (spDeed CB CM) fM_do dM_do)
    (M_pass : CalM P w K mg base CB 3 "pass_beats" ["self", "many"] (spPass CB CM) fM_pass dM_pass) : FnOk P w K mg base CX0 6 f fd ["self"] (spTurn CB CM) := by
  refine F.ok scMturn (fun vs H Q E h => by obtain ⟨_, _, _, rfl, _⟩ := h; rfl) (fun cdv A outer s H vs Q E hr h => ?_)
  have hu := hu_of hr
  obtain ⟨H0, p, x, rfl, R, hsl, hpc, k⟩ := h
  obtain ⟨A, ts, ls, B⟩ := R
  obtain ⟨sv, tv, dv, hp, hz⟩ := B.hp
  refine ⟨_, (pss_cons (ps_fld (pv 0) (pe_lst pa_nil) rfl)
    (pss_cons (ps_fld (pv 0) pe_non rfl)
    (pss_cons (ps_set (i := 1) scMturn.nd rfl (.inl rfl) (pe_meth0 (pv 0) M_coming.c M_coming.m M_coming.G (hr.mono (by decide)) M_coming.b .nil pass0))
    (pss_cons (ps_if (pt_cmpR op_eq (pv 1) pe_str (nomark _)) (pss_one (ps_ret (pv 1))) pss_nil)
    (pss_cons (ps_if (pt_cmpR op_eq (pv 1) pe_str (nomark _)) (pss_cons (ps_expr (pe_meth (pv 0) M_pass.c M_pass.m M_pass.G (hr.mono (by decide)) M_pass.b .nil pass0 (pa_cons pe_int pa_nil)))
    (pss_one (ps_ret (pv 1)))) pss_nil)
    (pss_cons (ps_fld (pv 0) pe_bl rfl)
    (pss_cons (ps_if (pt_cmpR op_eq (pv 1) pe_str (nomark _)) (pss_one (ps_ret (pe_meth0 (pv 0) M_begin.c M_begin.m M_begin.G (hr.mono (by decide)) M_begin.b .nil pass0))) pss_nil)
    (pss_one (ps_ret (pe_meth0 (pv 0) M_do.c M_do.m M_do.G (hr.mono (by decide)) M_do.b .nil pass0)))))))))), ?_⟩
  refine ⟨Nat.zero_le _, fun l nl => ?_⟩
  have B1 := B.grow (o := .lst []) nl
  have f0 : H0 l = none := B.sm.free nl
  have bs : Same H0 (upd H0 l (.lst [])) := same_upd' f0
  have hbl : upd H0 l (.lst []) l = some (.lst []) := upd_same
  generalize upd H0 l (.lst []) = Hb at *
  obtain ⟨sv1, tv1, dv1, hp1, hz1⟩ := B1.hp
  refine ⟨_, rfl, p, CB, A.dx, _, rfl, hp1, T.cB, T.n_touched, (by show 13 < 1000; decide), ?_⟩
  rw [bP_tou]
  have B2 := B1.fld (z := x.zero) (le := x.lets) (as := x.asleep) (bt := x.beat) (sv := sv1) (la := x.la) (tv := .ref l) (dv := dv1) ⟨hz1.1, rfl, hz1.2.2⟩
  obtain ⟨sv2, tv2, dv2, hp2, hz2⟩ := B2.hp
  obtain rfl : tv2 = .ref l := hz2.2.1
  refine ⟨_, rfl, p, CB, A.dx, _, rfl, hp2, T.cB, T.n_did, (by show 13 < 1000; decide), ?_⟩
  rw [bP_did]
  have B3 := B2.fld (z := x.zero) (le := x.lets) (as := x.asleep) (bt := x.beat) (sv := sv2) (la := x.la) (tv := .ref l) (dv := .non) ⟨hz2.1, rfl, rfl⟩
  obtain ⟨sv3, tv3, dv3, hp3, hz3⟩ := B3.hp
  generalize upd (upd (upd H l (.lst [])) p _) p _ = H3 at *
  have B3 : Bp CB CM Hb H3 p A ts ls (x.tvd (.ref l) .non) := B3
  refine ⟨_, rfl, p, A.dx, _, rfl, hp3, bN_coming, Hb, p, x.tvd (.ref l) .non, rfl, ⟨A, ts, ls, B3⟩, ?_⟩
  have tou0 : ∀ {H' : Hp}, Same Hb H' → TouV H0 H' (.ref l) [] := fun s => ⟨l, [], rfl, f0, s _ _ hbl, .nil⟩
  have ec : comingM (x.tvd (.ref l) .non) = comingM x := rfl
  rw [ec]
  unfold touT didV at k
  unfold comingM
  by_cases c1 : x.stop ≠ none
  · have et : turnM x = (("stopped" : Str), x) := by
      unfold turnM
      rw [if_pos c1]
    rw [et, if_neg n_sd, if_neg n_si, if_neg n_sd] at k
    rw [if_pos c1]
    exact ⟨_, rfl, rfl, _, rfl, ifB (fun _ => ⟨_, rfl, k _ _ (tou0 B3.sm) (BoardAt.unbase bs ⟨A, ts, ls, B3⟩)⟩) (fun h => absurd rfl (of_decide_eq_false h))⟩
  · rw [if_neg c1]
    by_cases c2 : x.asleep = true ∧ calledM x = 0
    · have et : turnM x = (("asleep" : Str), passM 1 x) := by
        unfold turnM
        rw [if_neg c1, if_pos c2]
      rw [et, if_neg n_ad, if_neg n_ai, if_neg n_ad] at k
      rw [if_pos c2]
      refine ⟨_, rfl, rfl, _, rfl, ifB (fun h => absurd (V.str.inj (of_decide_eq_true h)) (by decide +kernel)) (fun _ => ?_)⟩
      refine ⟨_, rfl, rfl, _, rfl, ifB (fun _ => ?_) (fun h => absurd rfl (of_decide_eq_false h))⟩
      exact ⟨_, rfl, p, A.dx, _, rfl, hp3, bN_pass, Hb, p, x.tvd (.ref l) .non, 1, rfl, ⟨A, ts, ls, B3⟩, by decide, fun H4 R4 => ⟨_, rfl, k _ _ (tou0 R4.sm) (by
        have R5 := R4.unbase bs
        rw [tvd_pass] at R5
        exact R5)⟩⟩
    · rw [if_neg c2]
      have B4 := B3.fld (z := x.zero) (le := x.lets) (as := false) (bt := x.beat) (sv := sv3) (la := x.la) (tv := tv3) (dv := dv3) hz3
      obtain ⟨sv4, tv4, dv4, hp4, hz4⟩ := B4.hp
      by_cases c3 : x.lets = true ∧ calledM x ≠ 0
      · have et : turnM x = intM { x with asleep := false } := by
          unfold turnM
          rw [if_neg c1, if_neg c2, if_pos c3]
        rw [et] at k
        rw [if_pos c3]
        refine ⟨_, rfl, rfl, _, rfl, ifB (fun h => absurd (V.str.inj (of_decide_eq_true h)) (by decide +kernel)) (fun _ => ?_)⟩
        refine ⟨_, rfl, rfl, _, rfl, ifB (fun h => absurd (V.str.inj (of_decide_eq_true h)) (by decide +kernel)) (fun _ => ?_)⟩
        refine ⟨_, rfl, p, CB, A.dx, _, rfl, hp3, T.cB, T.n_asleep, (by show 13 < 1000; decide), ?_⟩
        rw [bP_asleep]
        refine ⟨_, rfl, rfl, _, rfl, ifB (fun _ => ?_) (fun h => absurd rfl (of_decide_eq_false h))⟩
        have ei := tvd_int { x with asleep := false } (.ref l) .non
        refine ⟨_, rfl, p, A.dx, _, rfl, hp4, bN_begin, Hb, p, Bd.tvd { x with asleep := false } (.ref l) .non, rfl, ⟨A, ts, ls, B4⟩, hsl, fun y ey H' R' => ?_, fun ey H' T tu R' => ?_⟩
        · rw [ei] at ey
          have e1 : (intM { x with asleep := false }).1 = "stopped" := congrArg Prod.fst ey
          have e2 : (intM { x with asleep := false }).2.tvd (.ref l) .non = y := congrArg Prod.snd ey
          rw [e1, if_neg n_sd, if_neg n_si, if_neg n_sd] at k
          refine k _ _ (tou0 R'.sm) ?_
          rw [e2]
          exact R'.unbase bs
        · rw [ei] at ey
          have e1 : (intM { x with asleep := false }).1 = "interrupt" := congrArg Prod.fst ey
          have e2 : (intM { x with asleep := false }).2.tvd (.ref l) .non = (begunM { x with asleep := false }).tvd (.ref l) .non := (congrArg Prod.snd ey).trans (tvd_begun { x with asleep := false } (.ref l) .non)
          rw [e1, if_neg n_id, if_pos rfl, if_neg n_id] at k
          obtain ⟨tl, us, rfl, tf, th, tt⟩ := tu
          refine k _ _ ⟨tl, us, rfl, bs.free tf, th, tt⟩ ?_
          have R5 := R'.unbase bs
          have e3 : begunM { Bd.tvd { x with asleep := false } (.ref l) .non with tv := V.ref tl } = (begunM { x with asleep := false }).tvd (.ref tl) .non := tvd_begun { x with asleep := false } (.ref tl) .non
          rw [e3] at R5
          have e4 : (intM { x with asleep := false }).2.tvd (.ref tl) .non = (begunM { x with asleep := false }).tvd (.ref tl) .non := by
            have h4 := congrArg (fun z : Bd => z.tvd (.ref tl) .non) e2
            exact h4
          rw [e4]
          exact R5
      · have et : turnM x = deedM { x with asleep := false } := by
          unfold turnM
          rw [if_neg c1, if_neg c2, if_neg c3]
        rw [et] at k
        rw [if_neg c3]
        refine ⟨_, rfl, rfl, _, rfl, ifB (fun h => absurd (V.str.inj (of_decide_eq_true h)) (by decide +kernel)) (fun _ => ?_)⟩
        refine ⟨_, rfl, rfl, _, rfl, ifB (fun h => absurd (V.str.inj (of_decide_eq_true h)) (by decide +kernel)) (fun _ => ?_)⟩
        refine ⟨_, rfl, p, CB, A.dx, _, rfl, hp3, T.cB, T.n_asleep, (by show 13 < 1000; decide), ?_⟩
        rw [bP_asleep]
        refine ⟨_, rfl, rfl, _, rfl, ifB (fun h => absurd (V.str.inj (of_decide_eq_true h)) (by decide +kernel)) (fun _ => ?_)⟩
        have ei := tvd_deed { x with asleep := false } (.ref l) .non
        refine ⟨_, rfl, p, A.dx, _, rfl, hp4, bN_do, Hb, p, Bd.tvd { x with asleep := false } (.ref l) .non, rfl, ⟨A, ts, ls, B4⟩, hsl, hpc, fun y ey H' R' => ?_, fun ey H' T tu R' => ?_⟩
        · rw [ei] at ey
          have e1 : (deedM { x with asleep := false }).1 = "stopped" := congrArg Prod.fst ey
          have e2 : (deedM { x with asleep := false }).2.tvd (.ref l) .non = y := congrArg Prod.snd ey
          rw [e1, if_neg n_sd, if_neg n_si, if_neg n_sd] at k
          refine k _ _ (tou0 R'.sm) ?_
          rw [e2]
          exact R'.unbase bs
        · rw [ei] at ey
          have e1 : (deedM { x with asleep := false }).1 = "deed" := congrArg Prod.fst ey
          have e2 : (deedM { x with asleep := false }).2.tvd (.ref l) .non = (doneM { x with asleep := false }).tvd (.ref l) .non := (congrArg Prod.snd ey).trans (tvd_done { x with asleep := false } (.ref l) .non)
          rw [e1, if_pos rfl, if_pos rfl] at k
          obtain ⟨tl, us, rfl, tf, th, tt⟩ := tu
          refine k _ _ ⟨tl, us, rfl, bs.free tf, th, tt⟩ ?_
          have R5 := R'.unbase bs
          have e3 : doneM { Bd.tvd { x with asleep := false } (.ref l) .non with tv := V.ref tl, dv := .str (nmOf (opM x)) } = (doneM { x with asleep := false }).tvd (.ref tl) (.str (nmOf (opM x))) := tvd_done { x with asleep := false } (.ref tl) (.str (nmOf (opM x)))
          have R5 : BoardAt CB CM H0 H' p (doneM { Bd.tvd { x with asleep := false } (.ref l) .non with tv := V.ref tl, dv := .str (nmOf (opM x)) }) := R5
          rw [e3] at R5
          have e4 : (deedM { x with asleep := false }).2.tvd (.ref tl) (.str (nmOf (opM x))) = (doneM { x with asleep := false }).tvd (.ref tl) (.str (nmOf (opM x))) := by
            have h4 := congrArg (fun z : Bd => z.tvd (.ref tl) (.str (nmOf (opM x)))) e2
            exact h4
          rw [e4]
          exact R5
end
end Bh

/-! A board is made. -/
namespace Bh
open PySem PySem.Spec PyProof.Rows L2
def newBd (ns : List Int) (ls : List (Int × Int)) : Bd := { a := 0, b := 0, pc := 0, sp := 767, zero := false, lets := false, asleep := false, beat := 0, sent := [], mem := memOf ns, line := ls, la := 0, stop := none, tv := .non, dv := .non, ma := 0, sa := 0, sw := [], bend := 0 }
def spBI (CB CM : Addr) : Sp := fun vs H Q _ => ∃ (H0 : Hp) (p dx im ln : Addr) (us : List V) (ns : List Int) (ls : List (Int × Int)), vs = [.ref p, .ref im, .ref ln] ∧ Same H0 H ∧ H0 p = none ∧ H p = some (.ins CB dx []) ∧ H im = some (.lst (ns.map V.int)) ∧ ns.length ≤ 512 ∧ WordsOk ns ∧
  H ln = some (.lst us) ∧ TupsAt H us ls ∧ riseM 0 ls ∧ ∀ H' T m s, BoardAt CB CM H0 H' p { newBd ns ls with tv := T, ma := m, sa := s } → Q .non H'
def spFirst : Sp := fun vs H Q _ => vs = [] ∧ ∀ (H' : Hp) (r : Addr), Same H H' → H r = none → H' r = some (.dK (regD 0 0 0 767)) → Q (.ref r) H'
theorem pull {Hb H1 : Hp} {p : Addr} {o : HO} (s : Same (upd Hb p o) H1) (f : Hb p = none) : ∃ Hb1, H1 = upd Hb1 p o ∧ Same Hb Hb1 ∧ Hb1 p = none := by
  refine ⟨fun b => if b = p then none else H1 b, ?_, ?_, if_pos rfl⟩
  · funext b
    by_cases h : b = p
    · subst h
      rw [upd_same]
      exact s _ _ upd_same
    · rw [upd_ne h]
      exact (if_neg h).symm
  · intro b x e
    have h : b ≠ p := ne_of_none e f
    show (if b = p then none else H1 b) = some x
    rw [if_neg h]
    exact s _ _ (by rw [upd_ne h]; exact e)
theorem newp {Hb : Hp} {p r : Addr} {o o' : HO} (f : Hb p = none) (n : upd Hb p o r = none) : ∃ Hb1, upd (upd Hb p o) r o' = upd Hb1 p o ∧ Same Hb Hb1 ∧ Hb1 p = none ∧ Hb1 r = some o' ∧ Hb r = none ∧ r ≠ p := by
  obtain ⟨Hb1, e, s, f1⟩ := pull (same_upd' (o := o') n) f
  have rp : r ≠ p := fun z => by rw [z, upd_same] at n; cases n
  refine ⟨Hb1, e, s, f1, ?_, ?_, rp⟩
  · have := congrFun e r
    rw [upd_same, upd_ne rp] at this
    exact this.symm
  · rw [upd_ne rp] at n
    exact n
section
variable {P : Program} {w : World} {K : PySem.W.Frag} {mg : Str → Option Value} {base : Heap} {CB CM : Addr}
abbrev sFfirst : Stmt := topS 68
def scFfirstN : List Str := []
theorem scFfirst : FnScope scFfirstN [] (defScope sFfirst) := ⟨rfl, rfl, rfl, by decide +kernel, rfl, by decide +kernel, by decide +kernel⟩
theorem ok_Ffirst {f : Addr} {fd : FuncData} (F : Fun K "first_registers" "first_registers" sFfirst f fd) (T : Tx K mg CB CM) : FnOk P w K mg base CX0 1 f fd [] (spFirst) := by
  refine F.ok scFfirst (fun vs H Q E h => by obtain ⟨rfl, _⟩ := h; rfl) (fun cdv A outer s H vs Q E hr h => ?_)
  have hu := hu_of hr
  obtain ⟨t_STACK_TOP, g_STACK_TOP⟩ := T.g_STACK_TOP
  obtain ⟨rfl, q⟩ := h
  refine ⟨_, (pss_one (ps_ret (pe_disp (pps_cons pe_str pe_int (pps_cons pe_str pe_int (pps_cons pe_str pe_int (pps_cons pe_str (pgI g_STACK_TOP) pps_nil)))) rfl rfl (by intro h; cases h) (by decide)))), ?_⟩
  intro r nr
  refine ⟨upd_same, [(Sum.inr "a", .int 0), (Sum.inr "b", .int 0), (Sum.inr "pc", .int 0), (Sum.inr "sp", .int 767)], rfl, (by decide), ?_⟩
  have em : mergeK [] [((Sum.inr "a" : Key), V.int 0), (Sum.inr "b", .int 0), (Sum.inr "pc", .int 0), (Sum.inr "sp", .int 767)] = regD 0 0 0 767 := by kernel_rfl
  rw [em, upd_upd]
  exact q _ r (same_upd' nr) nr upd_same
abbrev sCboard : Stmt := inClass (topS 69) 0
def scCboardN : List Str := ["self", "image", "line"]
theorem scCboard : FnScope scCboardN ["self", "image", "line"] (defScope sCboard) := ⟨rfl, rfl, rfl, by decide +kernel, rfl, by decide +kernel, by decide +kernel⟩
theorem ok_Cboard {f : Addr} {fd : FuncData} {fC_mem : Addr} {dC_mem : FuncData} {fF_first : Addr} {dF_first : FuncData} {fF_image : Addr} {dF_image : FuncData} {fF_line : Addr} {dF_line : FuncData} (F : Fun K "__init__" "Board.__init__" sCboard f fd) (T : Tx K mg CB CM)
    (C_mem : CalC P w K mg base CM 1 "Memory" ["self", "image"] (spMI CM) fC_mem dC_mem)
    (F_first : CalF P w K mg base 1 "first_registers" [] (spFirst) fF_first dF_first)
    (F_image : CalF P w K mg base 4 "is_image" ["thing"] (spImg) fF_image dF_image)
    (F_line : CalF P w K mg base 4 "is_line" ["thing"] (spLine) fF_line dF_line) : FnOk P w K mg base CX0 6 f fd ["self", "image", "line"] (spBI CB CM) := by
  refine F.ok scCboard (fun vs H Q E h => by obtain ⟨_, _, _, _, _, _, _, _, rfl, _⟩ := h; rfl) (fun cdv A outer s H vs Q E hr h => ?_)
  have hu := hu_of hr
  have z_list := T.z_list
  obtain ⟨H0, p, dx, im, ln, us, ns, ls, rfl, s0, f0, hp, him, hl, hw, hln, htu, hri, k⟩ := h
  refine ⟨_, (pss_cons (ps_if (PW.pt (pw_or (pt_not (pt_val (pe_call F_image.G (hr.mono (by decide)) (by rfl) F_image.g F_image.kp F_image.b .nil pass0 (pa_cons (pv 1) pa_nil)))) (pw_or1 (pt_not (pt_val (pe_call F_line.G (hr.mono (by decide)) (by rfl) F_line.g F_line.kp F_line.b .nil pass0 (pa_cons (pv 2) pa_nil))))))) (pss_one ps_never) pss_nil)
    (pss_cons (ps_fld (pv 0) (pe_call0 F_first.G (hr.mono (by decide)) (by rfl) F_first.g F_first.kp F_first.b .nil pass0) rfl)
    (pss_cons (ps_fld (pv 0) pe_bl rfl)
    (pss_cons (ps_fld (pv 0) pe_bl rfl)
    (pss_cons (ps_fld (pv 0) pe_bl rfl)
    (pss_cons (ps_fld (pv 0) pe_int rfl)
    (pss_cons (ps_fld (pv 0) pe_non rfl)
    (pss_cons (ps_fld (pv 0) (pe_lst pa_nil) rfl)
    (pss_cons (ps_fld (pv 0) (pe_make C_mem.M C_mem.I (hr.mono (by decide)) rfl C_mem.g C_mem.b .nil pass0 (pa_cons (pv 1) pa_nil)) rfl)
    (pss_cons (ps_fld (pv 0) (pe_callTy call_list_of (by rfl) z_list (by decide +kernel) (pa_cons (pv 2) pa_nil)) rfl)
    (pss_cons (ps_fld (pv 0) pe_int rfl)
    (pss_cons (ps_fld (pv 0) (pe_lst pa_nil) rfl)
    (pss_cons (ps_fld (pv 0) pe_non rfl)
    (pss_one (ps_fld (pv 0) pe_int rfl))))))))))))))), ?_⟩
  have ne1 : im ≠ p := ne_of him hp (by intro q; cases q)
  have ne2 : ln ≠ p := ne_of hln hp (by intro q; cases q)
  obtain ⟨Hb, eH, sb, fb⟩ : ∃ Hb, H = upd Hb p (.ins CB dx []) ∧ Same H0 Hb ∧ Hb p = none := by
    refine ⟨fun b => if b = p then none else H b, ?_, ?_, if_pos rfl⟩
    · funext b
      by_cases h : b = p
      · subst h
        rw [upd_same]
        exact hp
      · rw [upd_ne h]
        exact (if_neg h).symm
    · intro b x e
      have h : b ≠ p := ne_of_none e f0
      show (if b = p then none else H b) = some x
      rw [if_neg h]
      exact s0 _ _ e
  subst eH
  rw [upd_ne ne1] at him
  rw [upd_ne ne2] at hln
  have htu : TupsAt Hb us ls := htu.mono fun t xs e => by
    rw [upd_ne (ne_of e hp (by intro q; cases q))] at e
    exact e
  refine ⟨_, rfl, im, ns, rfl, (by rw [upd_ne ne1]; exact him), hl, hw, fun H1 s1 => ?_⟩
  obtain ⟨Hb1, rfl, sb1, fb1⟩ := pull s1 fb
  refine ⟨_, rfl, ifN (fun h => by cases h) (fun _ => ?_)⟩
  refine ⟨_, rfl, ln, us, ls, rfl, (by rw [upd_ne ne2]; exact sb1 _ _ hln), htu.mono (fun t xs e => ?_), hri, ?_⟩
  · have tp : t ≠ p := fun z => by rw [z, fb] at e; cases e
    rw [upd_ne tp]
    exact sb1 _ _ e
  refine ⟨_, rfl, ifN (fun h => by cases h) (fun _ => ?_)⟩
  have sB1 := sb.trans sb1
  have him1 := sb1 _ _ him
  have hln1 := sb1 _ _ hln
  have htu1 : TupsAt Hb1 us ls := htu.mono fun t xs e => sb1 _ _ e
  clear hln htu him s1 sb1 sb s0 hp
  refine ⟨rfl, fun H2 r s2' fr hr => ?_⟩
  obtain ⟨Hb3, rfl, s3, fb3⟩ := pull s2' fb1
  have rp : r ≠ p := fun z => by rw [z, upd_same] at fr; cases fr
  rw [upd_ne rp] at fr hr
  have fr0 := fr
  have hr3 := hr
  refine ⟨_, rfl, p, CB, dx, _, rfl, upd_same, T.cB, T.n_registers, (by show 0 < 1000; decide), ?_⟩
  rw [upd_upd]
  refine ⟨_, rfl, p, CB, dx, _, rfl, upd_same, T.cB, T.n_zero, (by show 1 < 1000; decide), ?_⟩
  rw [upd_upd]
  refine ⟨_, rfl, p, CB, dx, _, rfl, upd_same, T.cB, T.n_lets, (by show 2 < 1000; decide), ?_⟩
  rw [upd_upd]
  refine ⟨_, rfl, p, CB, dx, _, rfl, upd_same, T.cB, T.n_asleep, (by show 3 < 1000; decide), ?_⟩
  rw [upd_upd]
  refine ⟨_, rfl, p, CB, dx, _, rfl, upd_same, T.cB, T.n_beat, (by show 4 < 1000; decide), ?_⟩
  rw [upd_upd]
  refine ⟨_, rfl, p, CB, dx, _, rfl, upd_same, T.cB, T.n_stopped, (by show 5 < 1000; decide), ?_⟩
  rw [upd_upd]
  refine ⟨Nat.zero_le _, fun t nt => ?_⟩
  obtain ⟨Hb4, e4, s4, fb4, ht4, ft0, tp⟩ := newp (o' := .lst []) fb3 nt
  rw [e4]
  refine ⟨_, rfl, p, CB, dx, _, rfl, upd_same, T.cB, T.n_sent, (by show 6 < 1000; decide), ?_⟩
  rw [upd_upd]
  refine ⟨_, rfl, ?_⟩
  intro m dm nm ndm ndmm
  have mp : m ≠ p := fun z => by rw [z, upd_same] at nm; cases nm
  rw [upd_ne mp] at nm
  have dmp : dm ≠ p := fun z => by rw [z, upd_same] at ndm; cases ndm
  rw [upd_ne dmp] at ndm
  have him4 := s4 _ _ (s3 _ _ him1)
  have imm : im ≠ m := ne_of_none him4 nm
  have imd : im ≠ dm := ne_of_none him4 ndm
  refine ⟨m, dm, im, ns, rfl, upd_same, (by rw [upd_ne imm, upd_ne imd, upd_ne ne1]; exact him4), hl, fun H5 w_ s_ M5 hs5_ fr5 fw5 fs5 => ⟨rfl, ?_⟩⟩
  have kp : ∀ b o, Hb4 b = some o → H5 b = some o := fun b o e => fr5 b o (ne_of_none e nm) (by
    rw [upd_ne (ne_of_none e nm), upd_ne (ne_of_none e ndm), upd_ne (ne_of_none e fb4)]
    exact e)
  have hp5 : ∃ fs, H5 p = some (.ins CB dx fs) ∧ fs = ([("registers", .ref r), ("zero", .bl false), ("lets", .bl false), ("asleep", .bl false), ("beat", .int 0), ("stopped", .non), ("sent", .ref t)] : List (Str × V)) := by
    refine ⟨_, fr5 p _ mp.symm (by rw [upd_ne mp.symm, upd_ne dmp.symm]; exact upd_same), ?_⟩
    kernel_rfl
  obtain ⟨fs, hp5, efs⟩ := hp5
  have wp : w_ ≠ p := fun z => by
    rw [z, upd_ne mp.symm, upd_ne dmp.symm, upd_same] at fw5
    cases fw5
  have wm : w_ ≠ m := ne_of M5.hw M5.hm (by intro q; cases q)
  have wd : w_ ≠ dm := fun z => by
    rw [z, upd_ne ndmm, upd_same] at fw5
    cases fw5
  have fw4 : Hb4 w_ = none := by rw [upd_ne wm, upd_ne wd, upd_ne wp] at fw5; exact fw5
  have sp_ : s_ ≠ p := fun z => by
    rw [z, upd_ne mp.symm, upd_ne dmp.symm, upd_same] at fs5
    cases fs5
  have sm_ : s_ ≠ m := ne_of hs5_ M5.hm (by intro q; cases q)
  have sd_ : s_ ≠ dm := fun z => by
    rw [z, upd_ne ndmm, upd_same] at fs5
    cases fs5
  have fs4 : Hb4 s_ = none := by rw [upd_ne sm_, upd_ne sd_, upd_ne sp_] at fs5; exact fs5
  obtain ⟨Hb5, rfl, kp5, fb5⟩ : ∃ Hb5 : Hp, H5 = upd Hb5 p (.ins CB dx fs) ∧ Same Hb4 Hb5 ∧ Hb5 p = none := by
    refine ⟨fun b => if b = p then none else H5 b, ?_, ?_, if_pos rfl⟩
    · funext b
      by_cases h : b = p
      · subst h
        rw [upd_same]
        exact hp5
      · rw [upd_ne h]
        exact (if_neg h).symm
    · intro b x e
      show (if b = p then none else H5 b) = some x
      rw [if_neg (ne_of_none e fb4)]
      exact kp _ _ e
  have hm5 : Hb5 m = some (.ins CM dm (mmF w_ s_)) := by have := M5.hm; rw [upd_ne mp] at this; exact this
  have hw5 : Hb5 w_ = some (.lst ((memOf ns).map V.int)) := by have := M5.hw; rw [upd_ne wp] at this; exact this
  have hs5 : Hb5 s_ = some (.dK (swD [])) := by have := hs5_; rw [upd_ne sp_] at this; exact this
  have lm5 := M5.lm
  clear M5 hs5_ fr5 kp hp5
  subst efs
  refine ⟨_, rfl, p, CB, dx, _, rfl, upd_same, T.cB, T.n_memory, (by show 7 < 1000; decide), ?_⟩
  rw [upd_upd]
  refine ⟨_, rfl, ln, us, rfl, .inl (SqL.of (by rw [upd_ne ne2]; exact kp5 _ _ (s4 _ _ (s3 _ _ hln1)))), fun l nl => ?_⟩
  obtain ⟨Hb6, e6, s6, fb6, hl6, fl0, lp⟩ := newp (o' := .lst us) fb5 nl
  rw [e6]
  refine ⟨_, rfl, p, CB, dx, _, rfl, upd_same, T.cB, T.n_line, (by show 8 < 1000; decide), ?_⟩
  rw [upd_upd]
  refine ⟨_, rfl, p, CB, dx, _, rfl, upd_same, T.cB, T.n_line_at, (by show 9 < 1000; decide), ?_⟩
  rw [upd_upd]
  refine ⟨Nat.zero_le _, fun q nq => ?_⟩
  obtain ⟨Hb7, e7, s7, fb7, hq7, -, qp⟩ := newp (o' := .lst []) fb6 nq
  rw [e7]
  refine ⟨_, rfl, p, CB, dx, _, rfl, upd_same, T.cB, T.n_touched, (by show 10 < 1000; decide), ?_⟩
  rw [upd_upd]
  refine ⟨_, rfl, p, CB, dx, _, rfl, upd_same, T.cB, T.n_did, (by show 11 < 1000; decide), ?_⟩
  rw [upd_upd]
  refine ⟨_, rfl, p, CB, dx, _, rfl, upd_same, T.cB, T.n_bend, (by show 12 < 1000; decide), ?_⟩
  rw [upd_upd]
  have s57 := s6.trans s7
  have s47 := kp5.trans s57
  have s17 : Same Hb1 Hb7 := (s3.trans s4).trans s47
  have hmh : Hb7 m = some (.ins CM dm (mmF w_ s_)) := s57 _ _ hm5
  refine k _ (.ref q) m s_ ⟨⟨dx, r, m, dm, w_, s_, t, l⟩, [], us, ?_⟩
  exact {
    sm := fun b x e => by
      rw [upd_ne (ne_of_none e f0)]
      exact s17 _ _ (sB1 _ _ e)
    fp := f0
    fr := sB1.free fr0
    fw := sB1.free ((s3.trans s4).free fw4)
    ft := sB1.free (s3.free ft0)
    fm := sB1.free ((s3.trans s4).free nm)
    fs := sB1.free ((s3.trans s4).free fs4)
    fl := sB1.free (s3.free (s4.free (kp5.free fl0)))
    hp := ⟨.non, .ref q, .non, (by rw [upd_same]; exact congrArg (fun z => some (HO.ins CB dx z)) (by kernel_rfl)), rfl, rfl, rfl⟩
    am := rfl
    hr := by rw [upd_ne rp]; exact s47 _ _ (s4 _ _ hr3)
    hm := by rw [upd_ne mp]; exact hmh
    hw := by rw [upd_ne wp]; exact s57 _ _ hw5
    hs := by rw [upd_ne sp_]; exact s57 _ _ hs5
    ht := by rw [upd_ne tp]; exact s47 _ _ ht4
    hl := by rw [upd_ne lp]; exact s7 _ _ hl6
    pm := mp.symm
    rs := fun (z : r = s_) => by
      have h1 := s4 _ _ hr3
      rw [z, fs4] at h1
      cases h1
    wt := fun (z : w_ = t) => by rw [z, ht4] at fw4; cases fw4
    wl := fun (z : w_ = l) => by rw [← z, hw5] at fl0; cases fl0
    tl := fun (z : t = l) => by
      have h1 := kp5 _ _ ht4
      rw [z, fl0] at h1
      cases h1
    us := .nil
    ll := htu1.mono fun u xs e => by
      have up : u ≠ p := ne_of_none e fb1
      rw [upd_ne up]
      exact s17 _ _ e
    lm := lm5 }
end
end Bh

/-! Own things of several: what a call may change; a probe in plain words and in the heap. -/
namespace Bh
open PySem PySem.Spec PyProof.Rows L2
/-- a call may change what stands in F, and lay new things -/
structure Fr (F : Addr → Prop) (H : Hp) (F' : Addr → Prop) (H' : Hp) : Prop where
  keep : ∀ b o, ¬ F b → H b = some o → H' b = some o
  new : ∀ b, F' b → F b ∨ H b = none
theorem Fr.trans {F F' F'' : Addr → Prop} {H H' H'' : Hp} (a : Fr F H F' H') (b : Fr F' H' F'' H'') : Fr F H F'' H'' where
  keep := fun c o n e => b.keep c o (fun z => by
    rcases a.new c z with h | h
    · exact n h
    · rw [h] at e; cases e) (a.keep c o n e)
  new := fun c z => by
    rcases b.new c z with h | h
    · exact a.new c h
    · by_cases y : F c
      · exact .inl y
      · refine .inr ?_
        cases e : H c with
        | none => rfl
        | some o => rw [a.keep c o y e] at h; cases h
theorem Fr.of_same {F : Addr → Prop} {H H' : Hp} (s : Same H H') : Fr F H F H' := ⟨fun b o _ e => s b o e, fun _ z => .inl z⟩
theorem Fr.rfl' {F : Addr → Prop} {H : Hp} : Fr F H F H := ⟨fun _ _ _ e => e, fun _ z => .inl z⟩
theorem Fr.sub {F F' G : Addr → Prop} {H H' : Hp} (a : Fr F H F' H') (s : ∀ b, F b → G b) : Fr G H (fun b => F' b ∨ G b) H' where
  keep := fun b o n e => a.keep b o (fun z => n (s b z)) e
  new := fun b z => by
    rcases z with z | z
    · rcases a.new b z with h | h
      · exact .inl (s b h)
      · exact .inr h
    · exact .inl z
/-- what is kept for good stays so -/
theorem Fr.st {S H H' : Hp} {F F' : Addr → Prop} (a : Fr F H F' H') (s : Same S H) (d : ∀ b, F b → S b = none) : Same S H' := fun b o e =>
  a.keep b o (fun z => by rw [d b z] at e; cases e) (s b o e)
theorem Fr.stn {S H H' : Hp} {F F' : Addr → Prop} (a : Fr F H F' H') (s : Same S H) (d : ∀ b, F b → S b = none) : ∀ b, F' b → S b = none := fun b z => by
  rcases a.new b z with h | h
  · exact d b h
  · exact s.free h
def EmpH : Hp := fun _ => none
theorem emp_same (H : Hp) : Same EmpH H := fun _ _ e => by cases e
def FtB (p : Addr) (A : Ad) (b : Addr) : Prop := b = p ∨ b = A.r ∨ b = A.w ∨ b = A.t ∨ b = A.m ∨ b = A.s ∨ b = A.l
/-- a board by itself -/
abbrev BdOn (CB CM : Addr) (H : Hp) (p : Addr) (A : Ad) (ts ls : List V) (x : Bd) : Prop := Bp CB CM EmpH H p A ts ls x
theorem base_none {H : Hp} {p : Addr} {A : Ad} {b : Addr} (h : FtB p A b) : baseOf H p A b = none := if_pos h
theorem base_some {H : Hp} {p : Addr} {A : Ad} {b : Addr} (h : ¬ FtB p A b) : baseOf H p A b = H b := if_neg h
theorem Bp.foot {CB CM p : Addr} {H0 H : Hp} {A : Ad} {ts ls : List V} {x : Bd} (B : Bp CB CM H0 H p A ts ls x) : ∀ b, FtB p A b → H0 b = none := fun b h => by
  rcases h with h | h | h | h | h | h | h <;> rw [h]
  · exact B.fp
  · exact B.fr
  · exact B.fw
  · exact B.ft
  · exact B.fm
  · exact B.fs
  · exact B.fl
theorem Bp.solid {CB CM p : Addr} {H0 H : Hp} {A : Ad} {ts ls : List V} {x : Bd} (B : Bp CB CM H0 H p A ts ls x) : ∀ b, FtB p A b → ∃ o, H b = some o ∧ ∀ xs, o ≠ .tup xs := fun b h => by
  obtain ⟨sv, tv, dv, hp, _⟩ := B.hp
  rcases h with h | h | h | h | h | h | h <;> rw [h]
  · exact ⟨_, hp, fun xs z => by cases z⟩
  · exact ⟨_, B.hr, fun xs z => by cases z⟩
  · exact ⟨_, B.hw, fun xs z => by cases z⟩
  · exact ⟨_, B.ht, fun xs z => by cases z⟩
  · exact ⟨_, B.hm, fun xs z => by cases z⟩
  · exact ⟨_, B.hs, fun xs z => by cases z⟩
  · exact ⟨_, B.hl, fun xs z => by cases z⟩
theorem Bp.weak {CB CM p : Addr} {H0 H : Hp} {A : Ad} {ts ls : List V} {x : Bd} (B : Bp CB CM H0 H p A ts ls x) : BdOn CB CM H p A ts ls x :=
  { B with sm := emp_same H, fp := rfl, fr := rfl, fw := rfl, ft := rfl, fm := rfl, fs := rfl, fl := rfl }
/-- what a method of a board did, told by itself -/
theorem BoardAt.fr {CB CM p : Addr} {H H' : Hp} {A : Ad} {y : Bd} (R : BoardAt CB CM (baseOf H p A) H' p y) : ∃ A' ts' ls', BdOn CB CM H' p A' ts' ls' y ∧ Fr (FtB p A) H (FtB p A') H' := by
  obtain ⟨A', ts', ls', B⟩ := R
  refine ⟨A', ts', ls', B.weak, fun b o n e => B.sm b o ((base_some n).trans e), fun b z => ?_⟩
  by_cases y : FtB p A b
  · exact .inl y
  · exact .inr ((base_some y).symm.trans (B.foot b z))
/-- it stands where the others' changes leave it -/
theorem Bp.keep {CB CM p : Addr} {H H' : Hp} {A : Ad} {ts ls : List V} {x : Bd} (B : BdOn CB CM H p A ts ls x) (k : ∀ b o, FtB p A b → H b = some o → H' b = some o) (t : ∀ b xs, H b = some (.tup xs) → H' b = some (.tup xs)) : BdOn CB CM H' p A ts ls x := by
  obtain ⟨sv, tv, dv, hp, hz⟩ := B.hp
  exact { B with
    sm := emp_same H'
    hp := ⟨sv, tv, dv, k _ _ (.inl rfl) hp, hz.mono t⟩
    hr := k _ _ (.inr (.inl rfl)) B.hr
    hw := k _ _ (.inr (.inr (.inl rfl))) B.hw
    ht := k _ _ (.inr (.inr (.inr (.inl rfl)))) B.ht
    hm := k _ _ (.inr (.inr (.inr (.inr (.inl rfl))))) B.hm
    hs := k _ _ (.inr (.inr (.inr (.inr (.inr (.inl rfl)))))) B.hs
    hl := k _ _ (.inr (.inr (.inr (.inr (.inr (.inr rfl)))))) B.hl
    us := B.us.mono t
    ll := B.ll.mono t }
/-! ### lists of triples -/
def T3At (H : Hp) : List V → List (Int × Int × Str) → Prop := Paired fun v u => ∃ t, v = .ref t ∧ H t = some (.tup [.int u.1, .int u.2.1, .str u.2.2])
def HtAt (H : Hp) : List V → List (Int × Str × Int) → Prop := Paired fun v u => ∃ t, v = .ref t ∧ H t = some (.tup [.int u.1, .str u.2.1, .int u.2.2])
def DdR (H : Hp) (kv : Key × V) (u : Int × Int × Int) : Prop := kv.1 = Sum.inl u.1 ∧ ∃ t, kv.2 = .ref t ∧ H t = some (.tup [.int u.2.1, .int u.2.2])
def DdAt (H : Hp) : List (Key × V) → List (Int × Int × Int) → Prop := Paired (DdR H)
theorem T3At.mono {H H' : Hp} (k : ∀ t xs, H t = some (.tup xs) → H' t = some (.tup xs)) : ∀ {us : List V} {ls : List (Int × Int × Str)}, T3At H us ls → T3At H' us ls
  | _, _, .nil => .nil
  | _, _, .cons h r => .cons (let ⟨t, e, q⟩ := h; ⟨t, e, k _ _ q⟩) (T3At.mono k r)
theorem HtAt.mono {H H' : Hp} (k : ∀ t xs, H t = some (.tup xs) → H' t = some (.tup xs)) : ∀ {us : List V} {ls : List (Int × Str × Int)}, HtAt H us ls → HtAt H' us ls
  | _, _, .nil => .nil
  | _, _, .cons h r => .cons (let ⟨t, e, q⟩ := h; ⟨t, e, k _ _ q⟩) (HtAt.mono k r)
theorem DdAt.mono {H H' : Hp} (k : ∀ t xs, H t = some (.tup xs) → H' t = some (.tup xs)) : ∀ {us : List (Key × V)} {ls : List (Int × Int × Int)}, DdAt H us ls → DdAt H' us ls
  | _, _, .nil => .nil
  | _, _, .cons h r => .cons (let ⟨a, t, e, q⟩ := h; ⟨a, t, e, k _ _ q⟩) (DdAt.mono k r)
theorem T3At.len {H : Hp} : ∀ {us : List V} {ls : List (Int × Int × Str)}, T3At H us ls → us.length = ls.length
  | _, _, .nil => rfl
  | _, _, .cons _ r => by rw [List.length_cons, List.length_cons, T3At.len r]
theorem HtAt.len {H : Hp} : ∀ {us : List V} {ls : List (Int × Str × Int)}, HtAt H us ls → us.length = ls.length
  | _, _, .nil => rfl
  | _, _, .cons _ r => by rw [List.length_cons, List.length_cons, HtAt.len r]
theorem DdAt.len {H : Hp} : ∀ {us : List (Key × V)} {ls : List (Int × Int × Int)}, DdAt H us ls → us.length = ls.length
  | _, _, .nil => rfl
  | _, _, .cons _ r => by rw [List.length_cons, List.length_cons, DdAt.len r]
theorem T3At.snoc {H : Hp} {t : Addr} {u : Int × Int × Str} (ht : H t = some (.tup [.int u.1, .int u.2.1, .str u.2.2])) : ∀ {us : List V} {ls : List (Int × Int × Str)}, T3At H us ls → T3At H (us ++ [.ref t]) (ls ++ [u])
  | _, _, .nil => .cons ⟨t, rfl, ht⟩ .nil
  | _, _, .cons h r => .cons h (T3At.snoc ht r)
theorem HtAt.snoc {H : Hp} {t : Addr} {u : Int × Str × Int} (ht : H t = some (.tup [.int u.1, .str u.2.1, .int u.2.2])) : ∀ {us : List V} {ls : List (Int × Str × Int)}, HtAt H us ls → HtAt H (us ++ [.ref t]) (ls ++ [u])
  | _, _, .nil => .cons ⟨t, rfl, ht⟩ .nil
  | _, _, .cons h r => .cons h (HtAt.snoc ht r)
theorem T3At.last {H : Hp} : ∀ {us : List V} {ls : List (Int × Int × Str)} {u : Int × Int × Str}, T3At H us (ls ++ [u]) → ∃ us' t, us = us' ++ [.ref t] ∧ T3At H us' ls ∧ H t = some (.tup [.int u.1, .int u.2.1, .str u.2.2])
  | _, [], _, .cons h .nil => by
    obtain ⟨t, rfl, q⟩ := h
    exact ⟨[], t, rfl, .nil, q⟩
  | _, _ :: _, _, .cons h r => by
    obtain ⟨us', t, rfl, a, b⟩ := T3At.last r
    exact ⟨_ :: us', t, rfl, .cons h a, b⟩
theorem HtAt.tail {H : Hp} : ∀ {us : List V} {ls : List (Int × Str × Int)}, HtAt H us ls → HtAt H (us.drop 1) (ls.drop 1)
  | _, _, .nil => .nil
  | _, _, .cons _ r => r
/-! ### a probe in plain words -/
structure Pm where
  b : Bd
  rows : List (Int × Int × Str)
  strays : Int
  hist : List (Int × Str × Int)
  faded : Int
  deeds : List (Int × Int × Int)
  spent : List (Int × Int)
  idle : Int
  peeked : Int
  gone : Int
  n : Nat
  hard : List Int
  wear : List Int
  wat : List (Option (Int × Int × Str))
def innerM (r : List (Int × Int × Str)) : Int := match r.getLast? with
  | none => -1
  | some u => u.2.1
def backR (k : Str) (r : List (Int × Int × Str)) (s : Int) : List (Int × Int × Str) × Int := match r.getLast? with
  | none => (r, s + 1)
  | some u => if u.2.2 = k then (r.dropLast, s) else (r, s + 1)
def followR (so : Str) (d : V) (at_ to : Int) (r : List (Int × Int × Str)) (s : Int) : List (Int × Int × Str) × Int :=
  if so = "interrupt" then (r ++ [(at_, to, ("interrupt" : Str))], s)
  else if d = .str "call" then (r ++ [(at_, to, ("call" : Str))], s)
  else if d = .str "ret" then backR "call" r s
  else if d = .str "back" then backR "interrupt" r s
  else (r, s)
def noteHR (bt : Int) (so : Str) (pc : Int) (h : List (Int × Str × Int)) (f : Int) : List (Int × Str × Int) × Int :=
  if 32 < h.length + 1 then ((h ++ [(bt, so, pc)]).drop 1, f + 1) else (h ++ [(bt, so, pc)], f)
def getA {α : Type} (l : List (Int × α)) (k : Int) (d : α) : α := ((l.find? fun u => decide (u.1 = k)).map (·.2)).getD d
def putA {α : Type} (l : List (Int × α)) (k : Int) (v : α) : List (Int × α) :=
  if (l.any fun u => decide (u.1 = k)) = true then l.map (fun u => if u.1 = k then (u.1, v) else u) else l ++ [(k, v)]
def deedsR (so : Str) (pc bs : Int) (l : List (Int × Int × Int)) : List (Int × Int × Int) :=
  if so = "deed" then putA l pc ((getA l pc (0, 0)).1 + 1, (getA l pc (0, 0)).2 + bs) else l
def idleR (so : Str) (bs i : Int) : Int := if so = "asleep" then i + bs else i
def follT (x : Pm) : List (Int × Int × Str) × Int := followR (turnM x.b).1 (didV x.b) x.b.pc (turnM x.b).2.pc x.rows x.strays
def toT (x : Pm) : Int := innerM (if (turnM x.b).1 = "interrupt" then (follT x).1 else x.rows)
def passedM (x : Pm) : Pm where
  b := (turnM x.b).2
  rows := (follT x).1
  strays := (follT x).2
  hist := (noteHR x.b.beat (turnM x.b).1 x.b.pc x.hist x.faded).1
  faded := (noteHR x.b.beat (turnM x.b).1 x.b.pc x.hist x.faded).2
  deeds := deedsR (turnM x.b).1 x.b.pc ((turnM x.b).2.beat - x.b.beat) x.deeds
  spent := putA x.spent (toT x) (getA x.spent (toT x) 0 + ((turnM x.b).2.beat - x.b.beat))
  idle := idleR (turnM x.b).1 ((turnM x.b).2.beat - x.b.beat) x.idle
  peeked := x.peeked
  gone := x.gone + 1
  n := x.n + 1
  hard := x.hard
  wear := x.wear
  wat := x.wat
/-- one turn goes by: its sort, and the probe behind it -/
def noteTM (x : Pm) : Str × Pm := ((turnM x.b).1, if (turnM x.b).1 = "stopped" then { x with b := (turnM x.b).2, n := x.n + 1 } else passedM x)
/-! ### marks, watches, peeks -/
def kdN : List Str := ["r", "w", "rw"]
/-- whether a watch of this kind looks at words read (false), put (true) -/
def kinB (b : Bool) (k : Str) : Bool := decide (k = "rw") || decide (k = kS b)
def hits (r : Option (Int × Int × Str)) (t : Bool × Int) : Bool := match r with
  | none => false
  | some u => decide (u.1 ≤ t.2 ∧ t.2 ≤ u.2.1) && kinB t.1 u.2.2
def hitM (t : Bool × Int) : Nat → List (Option (Int × Int × Str)) → Option Nat
  | _, [] => none
  | n, r :: rs => if hits r t = true then some n else hitM t (n + 1) rs
/-- the watch that a turn's words meet first -/
def metM (rows : List (Option (Int × Int × Str))) : List (Bool × Int) → Option (Nat × Bool × Int)
  | [] => none
  | t :: ts => match hitM t 0 rows with
    | some n => some (n, t)
    | none => metM rows ts
def standsM (x : Pm) (i : Int) : Bool := decide (i ∈ x.hard) || decide (i ∈ x.b.sw)
def meetsM (x : Pm) : Bool := standsM x x.b.pc && decide (comingM x.b = "deed")
/-- a word is peeked: a beat goes by -/
def peekedM (x : Pm) : Pm := { x with b := passM 1 x.b, spent := putA x.spent (innerM x.rows) (getA x.spent (innerM x.rows) 0 + 1), peeked := x.peeked + 1, n := x.n + 1 }
def peekAll : List Int → Pm → Pm
  | [], x => x
  | _ :: r, x => peekAll r (peekedM x)
def peekWords : List Int → Pm → List Int
  | [], _ => []
  | i :: r, x => rd x.b.mem i :: peekWords r (peekedM x)
def WtAt (H : Hp) : List V → List (Option (Int × Int × Str)) → Prop := Paired fun v r => match r with
  | none => v = .non
  | some u => ∃ t, v = .ref t ∧ H t = some (.tup [.int u.1, .int u.2.1, .str u.2.2])
theorem WtAt.mono {H H' : Hp} (k : ∀ t xs, H t = some (.tup xs) → H' t = some (.tup xs)) : ∀ {us : List V} {ls : List (Option (Int × Int × Str))}, WtAt H us ls → WtAt H' us ls
  | _, _, .nil => .nil
  | _, _, .cons (b := none) h r => .cons h (WtAt.mono k r)
  | _, _, .cons (b := some _) h r => .cons (let ⟨t, e, q⟩ := h; ⟨t, e, k _ _ q⟩) (WtAt.mono k r)
theorem WtAt.len {H : Hp} : ∀ {us : List V} {ls : List (Option (Int × Int × Str))}, WtAt H us ls → us.length = ls.length
  | _, _, .nil => rfl
  | _, _, .cons _ r => by rw [List.length_cons, List.length_cons, WtAt.len r]
/-! ### dicts of a probe -/
def spD (l : List (Int × Int)) : List (Key × V) := l.map fun u => (Sum.inl u.1, V.int u.2)
theorem dec_inl (a b : Int) : decide ((Sum.inl a : Key) = Sum.inl b) = decide (a = b) := by
  by_cases h : a = b
  · rw [h, decide_eq_true rfl, decide_eq_true rfl]
  · rw [decide_eq_false h, decide_eq_false (fun z => h (Sum.inl.inj z))]
theorem spD_get (k : Int) : ∀ l : List (Int × Int), (valV (spD l) (Sum.inl k)).getD (.int 0) = .int (getA l k 0)
  | [] => rfl
  | u :: r => by
    by_cases h : u.1 = k
    · rw [show spD (u :: r) = (Sum.inl u.1, V.int u.2) :: spD r from rfl, valV_pos (congrArg Sum.inl h)]
      unfold getA
      rw [List.find?_cons, decide_eq_true h]
      rfl
    · rw [show spD (u :: r) = (Sum.inl u.1, V.int u.2) :: spD r from rfl, valV_neg (fun z => h (Sum.inl.inj z)), spD_get k r]
      unfold getA
      rw [List.find?_cons, decide_eq_false h]
theorem spD_any (k : Int) : ∀ l : List (Int × Int), ((spD l).any fun kv => decide (kv.1 = Sum.inl k)) = l.any fun u => decide (u.1 = k)
  | [] => rfl
  | u :: r => by
    rw [show spD (u :: r) = (Sum.inl u.1, V.int u.2) :: spD r from rfl, List.any_cons, List.any_cons, spD_any k r, dec_inl]
theorem spD_put (k v : Int) (l : List (Int × Int)) : putK (spD l) (Sum.inl k) (.int v) = spD (putA l k v) := by
  unfold putK putA
  rw [spD_any]
  split
  · unfold spD
    rw [List.map_map, List.map_map]
    apply List.map_congr_left
    intro u _
    show (if (Sum.inl u.1 : Key) = Sum.inl k then _ else _) = _
    by_cases h : u.1 = k
    · rw [if_pos (congrArg Sum.inl h)]
      show _ = ((fun u : Int × Int => ((Sum.inl u.1 : Key), V.int u.2)) (if u.1 = k then (u.1, v) else u))
      rw [if_pos h]
    · rw [if_neg (fun z => h (Sum.inl.inj z))]
      show _ = ((fun u : Int × Int => ((Sum.inl u.1 : Key), V.int u.2)) (if u.1 = k then (u.1, v) else u))
      rw [if_neg h]
  · unfold spD
    rw [List.map_append]
    rfl
theorem spD_len (l : List (Int × Int)) : (spD l).length = l.length := List.length_map ..
theorem putA_len {α : Type} (l : List (Int × α)) (k : Int) (v : α) : (putA l k v).length ≤ l.length + 1 := by
  unfold putA
  split
  · rw [List.length_map]; omega
  · rw [List.length_append]; exact Nat.le_refl _
theorem DdAt.get {H : Hp} (k : Int) : ∀ {us : List (Key × V)} {ls : List (Int × Int × Int)}, DdAt H us ls → (valV us (Sum.inl k) = none ∧ getA ls k (0, 0) = (0, 0)) ∨ ∃ t, valV us (Sum.inl k) = some (.ref t) ∧ H t = some (.tup [.int (getA ls k (0, 0)).1, .int (getA ls k (0, 0)).2])
  | _, _, .nil => .inl ⟨rfl, rfl⟩
  | _, _, .cons (a := kv) (b := u) h r => by
    obtain ⟨e1, t, e2, e3⟩ := h
    by_cases z : u.1 = k
    · refine .inr ⟨t, by rw [valV_pos (e1.trans (congrArg Sum.inl z)), e2], ?_⟩
      unfold getA
      rw [List.find?_cons, decide_eq_true z]
      exact e3
    · have e4 : ∀ (ls : List (Int × Int × Int)), getA (u :: ls) k (0, 0) = getA ls k (0, 0) := fun ls => by
        unfold getA
        rw [List.find?_cons, decide_eq_false z]
      rw [valV_neg (fun y => z (Sum.inl.inj (e1.symm.trans y))), e4]
      exact DdAt.get k r
theorem DdAt.any {H : Hp} (k : Int) : ∀ {us : List (Key × V)} {ls : List (Int × Int × Int)}, DdAt H us ls → (us.any fun kv => decide (kv.1 = Sum.inl k)) = ls.any fun u => decide (u.1 = k)
  | _, _, .nil => rfl
  | _, _, .cons (a := kv) (b := u) h r => by
    rw [List.any_cons, List.any_cons, DdAt.any k r, h.1, dec_inl]
theorem DdAt.map {H : Hp} {k a b : Int} {t : Addr} (e : H t = some (.tup [.int a, .int b])) : ∀ {us : List (Key × V)} {ls : List (Int × Int × Int)}, DdAt H us ls → DdAt H (us.map fun kv => if kv.1 = Sum.inl k then (kv.1, V.ref t) else kv) (ls.map fun u => if u.1 = k then (u.1, (a, b)) else u)
  | _, _, .nil => .nil
  | _, _, .cons (a := kv) (b := u) h r => by
    refine .cons ?_ (DdAt.map e r)
    show DdR H (if kv.1 = Sum.inl k then (kv.1, V.ref t) else kv) (if u.1 = k then (u.1, (a, b)) else u)
    by_cases z : u.1 = k
    · rw [if_pos z, if_pos (h.1.trans (congrArg Sum.inl z))]
      exact ⟨h.1, t, rfl, e⟩
    · rw [if_neg z, if_neg (fun y => z (Sum.inl.inj (h.1.symm.trans y)))]
      exact h
theorem DdAt.snoc {H : Hp} {k a b : Int} {t : Addr} (e : H t = some (.tup [.int a, .int b])) : ∀ {us : List (Key × V)} {ls : List (Int × Int × Int)}, DdAt H us ls → DdAt H (us ++ [(Sum.inl k, .ref t)]) (ls ++ [(k, (a, b))])
  | _, _, .nil => .cons ⟨rfl, t, rfl, e⟩ .nil
  | _, _, .cons h r => .cons h (DdAt.snoc e r)
theorem DdAt.put {H : Hp} {k a b : Int} {t : Addr} (e : H t = some (.tup [.int a, .int b])) {us : List (Key × V)} {ls : List (Int × Int × Int)} (h : DdAt H us ls) : DdAt H (putK us (Sum.inl k) (.ref t)) (putA ls k (a, b)) := by
  unfold putK putA
  rw [h.any k]
  split
  · exact h.map e
  · exact h.snoc e
end Bh

/-! The parts of a probe: made, and their methods while it goes. -/
namespace Bh
open PySem PySem.Spec PyProof.Rows L2
structure Ty (K : PySem.W.Frag) (mg : Str → Option Value) (CB CM CP CK CW CF CH CC CI CS : Addr) : Prop extends Tx K mg CB CM where
  g_WATCHES : ∃ t, mg "WATCHES" = some (.int 2 t)
  g_PAGES : ∃ t, mg "PAGES" = some (.int 16 t)
  g_OUTSIDE : ∃ t, mg "OUTSIDE" = some (.int (-1) t)
  g_KEPT_TURNS : ∃ t, mg "KEPT_TURNS" = some (.int 32 t)
  z_enumerate : mg "enumerate" = none
  cP : Cls K CP
  nP_board : NoAttr K CP "board"
  nP_standing : NoAttr K CP "standing"
  nP_watching : NoAttr K CP "watching"
  nP_frames : NoAttr K CP "frames"
  nP_history : NoAttr K CP "history"
  nP_counts : NoAttr K CP "counts"
  nP_mishaps : NoAttr K CP "mishaps"
  nP_stands : NoAttr K CP "stands"
  nP_turns_gone : NoAttr K CP "turns_gone"
  nP_course : NoAttr K CP "course"
  cK : Cls K CK
  nK_memory : NoAttr K CK "memory"
  nK_hard : NoAttr K CK "hard"
  nK_erased : NoAttr K CK "erased"
  cW : Cls K CW
  nW_rows : NoAttr K CW "rows"
  cF : Cls K CF
  nF_rows : NoAttr K CF "rows"
  nF_strays : NoAttr K CF "strays"
  cH : Cls K CH
  nH_rows : NoAttr K CH "rows"
  nH_faded : NoAttr K CH "faded"
  cC : Cls K CC
  nC_deeds : NoAttr K CC "deeds"
  nC_frames : NoAttr K CC "frames"
  nC_idle : NoAttr K CC "idle"
  nC_peeked : NoAttr K CC "peeked"
  cI : Cls K CI
  nI_rows : NoAttr K CI "rows"
  nI_met_rows : NoAttr K CI "met_rows"
  cS : Cls K CS
  nS_rows : NoAttr K CS "rows"
def prF (bd st wa fr hi co mi sd : Addr) (tg : Int) (cv : V) : List (Str × V) := [("board", .ref bd), ("standing", .ref st), ("watching", .ref wa), ("frames", .ref fr), ("history", .ref hi), ("counts", .ref co), ("mishaps", .ref mi), ("stands", .ref sd), ("turns_gone", .int tg), ("course", cv)]
section
variable {bd st wa fr hi co mi sd : Addr} {tg : Int} {cv : V}
theorem pF_board : (prF bd st wa fr hi co mi sd tg cv).lookup ("board" : Str) = some (.ref bd) := by kernel_rfl
theorem pF_standing : (prF bd st wa fr hi co mi sd tg cv).lookup ("standing" : Str) = some (.ref st) := by kernel_rfl
theorem pF_watching : (prF bd st wa fr hi co mi sd tg cv).lookup ("watching" : Str) = some (.ref wa) := by kernel_rfl
theorem pF_frames : (prF bd st wa fr hi co mi sd tg cv).lookup ("frames" : Str) = some (.ref fr) := by kernel_rfl
theorem pF_history : (prF bd st wa fr hi co mi sd tg cv).lookup ("history" : Str) = some (.ref hi) := by kernel_rfl
theorem pF_counts : (prF bd st wa fr hi co mi sd tg cv).lookup ("counts" : Str) = some (.ref co) := by kernel_rfl
theorem pF_mishaps : (prF bd st wa fr hi co mi sd tg cv).lookup ("mishaps" : Str) = some (.ref mi) := by kernel_rfl
theorem pF_stands : (prF bd st wa fr hi co mi sd tg cv).lookup ("stands" : Str) = some (.ref sd) := by kernel_rfl
theorem pF_turns_gone : (prF bd st wa fr hi co mi sd tg cv).lookup ("turns_gone" : Str) = some (.int tg) := by kernel_rfl
theorem pF_course : (prF bd st wa fr hi co mi sd tg cv).lookup ("course" : Str) = some (cv) := by kernel_rfl
theorem pP_frames {q : Addr} : putF "frames" (.ref q) (prF bd st wa fr hi co mi sd tg cv) = prF bd st wa q hi co mi sd tg cv := by kernel_rfl
theorem pP_history {q : Addr} : putF "history" (.ref q) (prF bd st wa fr hi co mi sd tg cv) = prF bd st wa fr q co mi sd tg cv := by kernel_rfl
theorem pP_counts {q : Addr} : putF "counts" (.ref q) (prF bd st wa fr hi co mi sd tg cv) = prF bd st wa fr hi q mi sd tg cv := by kernel_rfl
theorem pP_turns_gone {n : Int} : putF "turns_gone" (.int n) (prF bd st wa fr hi co mi sd tg cv) = prF bd st wa fr hi co mi sd n cv := by kernel_rfl
theorem pN_look : (prF bd st wa fr hi co mi sd tg cv).lookup ("look" : Str) = none := by kernel_rfl
theorem pN_register_of : (prF bd st wa fr hi co mi sd tg cv).lookup ("register_of" : Str) = none := by kernel_rfl
theorem pN_stop_told : (prF bd st wa fr hi co mi sd tg cv).lookup ("stop_told" : Str) = none := by kernel_rfl
theorem pN_out : (prF bd st wa fr hi co mi sd tg cv).lookup ("out" : Str) = none := by kernel_rfl
theorem pN_turns : (prF bd st wa fr hi co mi sd tg cv).lookup ("turns" : Str) = none := by kernel_rfl
theorem pN_marks : (prF bd st wa fr hi co mi sd tg cv).lookup ("marks" : Str) = none := by kernel_rfl
theorem pN_wear : (prF bd st wa fr hi co mi sd tg cv).lookup ("wear" : Str) = none := by kernel_rfl
theorem pN_watches : (prF bd st wa fr hi co mi sd tg cv).lookup ("watches" : Str) = none := by kernel_rfl
theorem pN_watch : (prF bd st wa fr hi co mi sd tg cv).lookup ("watch" : Str) = none := by kernel_rfl
theorem pN_unwatch : (prF bd st wa fr hi co mi sd tg cv).lookup ("unwatch" : Str) = none := by kernel_rfl
theorem pN_mark : (prF bd st wa fr hi co mi sd tg cv).lookup ("mark" : Str) = none := by kernel_rfl
theorem pN_unmark : (prF bd st wa fr hi co mi sd tg cv).lookup ("unmark" : Str) = none := by kernel_rfl
theorem pN_clear_marks : (prF bd st wa fr hi co mi sd tg cv).lookup ("clear_marks" : Str) = none := by kernel_rfl
theorem pN_poke : (prF bd st wa fr hi co mi sd tg cv).lookup ("poke" : Str) = none := by kernel_rfl
theorem pN_set_register : (prF bd st wa fr hi co mi sd tg cv).lookup ("set_register" : Str) = none := by kernel_rfl
theorem pN_plain : (prF bd st wa fr hi co mi sd tg cv).lookup ("plain" : Str) = none := by kernel_rfl
theorem pN_twin : (prF bd st wa fr hi co mi sd tg cv).lookup ("twin" : Str) = none := by kernel_rfl
theorem pN_go : (prF bd st wa fr hi co mi sd tg cv).lookup ("go" : Str) = none := by kernel_rfl
theorem pN_let_go : (prF bd st wa fr hi co mi sd tg cv).lookup ("let_go" : Str) = none := by kernel_rfl
theorem pN_note_gone : (prF bd st wa fr hi co mi sd tg cv).lookup ("note_gone" : Str) = none := by kernel_rfl
theorem pN_peek : (prF bd st wa fr hi co mi sd tg cv).lookup ("peek" : Str) = none := by kernel_rfl
theorem pN_meets_mark : (prF bd st wa fr hi co mi sd tg cv).lookup ("meets_mark" : Str) = none := by kernel_rfl
theorem pN_pass_turn : (prF bd st wa fr hi co mi sd tg cv).lookup ("pass_turn" : Str) = none := by kernel_rfl
theorem pN_follow_turn : (prF bd st wa fr hi co mi sd tg cv).lookup ("follow_turn" : Str) = none := by kernel_rfl
theorem pN_take_faults : (prF bd st wa fr hi co mi sd tg cv).lookup ("take_faults" : Str) = none := by kernel_rfl
theorem pN_note_turn : (prF bd st wa fr hi co mi sd tg cv).lookup ("note_turn" : Str) = none := by kernel_rfl
end
def mkF (m hd er : Addr) : List (Str × V) := [("memory", .ref m), ("hard", .ref hd), ("erased", .ref er)]
section
variable {m hd er : Addr}
theorem kF_memory : (mkF m hd er).lookup ("memory" : Str) = some (.ref m) := by kernel_rfl
theorem kF_hard : (mkF m hd er).lookup ("hard" : Str) = some (.ref hd) := by kernel_rfl
theorem kF_erased : (mkF m hd er).lookup ("erased" : Str) = some (.ref er) := by kernel_rfl
theorem kP_hard {q : Addr} : putF "hard" (.ref q) (mkF m hd er) = mkF m q er := by kernel_rfl
theorem kN_told : (mkF m hd er).lookup ("told" : Str) = none := by kernel_rfl
theorem kN_stands_at : (mkF m hd er).lookup ("stands_at" : Str) = none := by kernel_rfl
theorem kN_lay : (mkF m hd er).lookup ("lay" : Str) = none := by kernel_rfl
theorem kN_lift : (mkF m hd er).lookup ("lift" : Str) = none := by kernel_rfl
theorem kN_lift_all : (mkF m hd er).lookup ("lift_all" : Str) = none := by kernel_rfl
theorem kN_wear_pages : (mkF m hd er).lookup ("wear_pages" : Str) = none := by kernel_rfl
theorem kN_twin : (mkF m hd er).lookup ("twin" : Str) = none := by kernel_rfl
end
def wtF (wr : Addr) : List (Str × V) := [("rows", .ref wr)]
section
variable {wr : Addr}
theorem wF_rows : (wtF wr).lookup ("rows" : Str) = some (.ref wr) := by kernel_rfl
theorem wN_lay : (wtF wr).lookup ("lay" : Str) = none := by kernel_rfl
theorem wN_lift : (wtF wr).lookup ("lift" : Str) = none := by kernel_rfl
theorem wN_check_number : (wtF wr).lookup ("check_number" : Str) = none := by kernel_rfl
theorem wN_met : (wtF wr).lookup ("met" : Str) = none := by kernel_rfl
end
def frF (fl : Addr) (s : Int) : List (Str × V) := [("rows", .ref fl), ("strays", .int s)]
section
variable {fl : Addr} {s : Int}
theorem fF_rows : (frF fl s).lookup ("rows" : Str) = some (.ref fl) := by kernel_rfl
theorem fF_strays : (frF fl s).lookup ("strays" : Str) = some (.int s) := by kernel_rfl
theorem fP_strays {n : Int} : putF "strays" (.int n) (frF fl s) = frF fl n := by kernel_rfl
theorem fN_follow : (frF fl s).lookup ("follow" : Str) = none := by kernel_rfl
theorem fN_go_back_from : (frF fl s).lookup ("go_back_from" : Str) = none := by kernel_rfl
theorem fN_innermost : (frF fl s).lookup ("innermost" : Str) = none := by kernel_rfl
end
def hiF (hl : Addr) (s : Int) : List (Str × V) := [("rows", .ref hl), ("faded", .int s)]
section
variable {hl : Addr} {s : Int}
theorem hF_rows : (hiF hl s).lookup ("rows" : Str) = some (.ref hl) := by kernel_rfl
theorem hF_faded : (hiF hl s).lookup ("faded" : Str) = some (.int s) := by kernel_rfl
theorem hP_faded {n : Int} : putF "faded" (.int n) (hiF hl s) = hiF hl n := by kernel_rfl
theorem hN_note : (hiF hl s).lookup ("note" : Str) = none := by kernel_rfl
end
def coF (cd cf : Addr) (i pk : Int) : List (Str × V) := [("deeds", .ref cd), ("frames", .ref cf), ("idle", .int i), ("peeked", .int pk)]
section
variable {cd cf : Addr} {i pk : Int}
theorem cF_deeds : (coF cd cf i pk).lookup ("deeds" : Str) = some (.ref cd) := by kernel_rfl
theorem cF_frames : (coF cd cf i pk).lookup ("frames" : Str) = some (.ref cf) := by kernel_rfl
theorem cF_idle : (coF cd cf i pk).lookup ("idle" : Str) = some (.int i) := by kernel_rfl
theorem cF_peeked : (coF cd cf i pk).lookup ("peeked" : Str) = some (.int pk) := by kernel_rfl
theorem cP_idle {n : Int} : putF "idle" (.int n) (coF cd cf i pk) = coF cd cf n pk := by kernel_rfl
theorem cP_peeked {n : Int} : putF "peeked" (.int n) (coF cd cf i pk) = coF cd cf i n := by kernel_rfl
theorem cN_note_turn : (coF cd cf i pk).lookup ("note_turn" : Str) = none := by kernel_rfl
theorem cN_note_peek : (coF cd cf i pk).lookup ("note_peek" : Str) = none := by kernel_rfl
theorem cN_note_beats : (coF cd cf i pk).lookup ("note_beats" : Str) = none := by kernel_rfl
end
def miF (ml mr : Addr) : List (Str × V) := [("rows", .ref ml), ("met_rows", .ref mr)]
section
variable {ml mr : Addr}
theorem iF_rows : (miF ml mr).lookup ("rows" : Str) = some (.ref ml) := by kernel_rfl
theorem iF_met_rows : (miF ml mr).lookup ("met_rows" : Str) = some (.ref mr) := by kernel_rfl
theorem iN_bending : (miF ml mr).lookup ("bending" : Str) = none := by kernel_rfl
theorem iN_due : (miF ml mr).lookup ("due" : Str) = none := by kernel_rfl
theorem iN_come : (miF ml mr).lookup ("come" : Str) = none := by kernel_rfl
end
/-- an object is made, of which nothing more is told -/
def spMade (C : Addr) : Sp := fun vs H Q _ => ∃ (p dx : Addr), vs = [.ref p] ∧ H p = some (.ins C dx []) ∧ ∀ H', (∀ b o, b ≠ p → H b = some o → H' b = some o) → Q .non H'
def spMkF (C : Addr) : Sp := fun vs H Q _ => ∃ (p dx : Addr), vs = [.ref p] ∧ H p = some (.ins C dx []) ∧ ∀ (H' : Hp) (l0 : Addr), (∀ b o, b ≠ p → H b = some o → H' b = some o) → H l0 = none → H' l0 = some (.lst []) → H' p = some (.ins C dx (frF l0 0)) → Q .non H'
def spMkH (C : Addr) : Sp := fun vs H Q _ => ∃ (p dx : Addr), vs = [.ref p] ∧ H p = some (.ins C dx []) ∧ ∀ (H' : Hp) (l0 : Addr), (∀ b o, b ≠ p → H b = some o → H' b = some o) → H l0 = none → H' l0 = some (.lst []) → H' p = some (.ins C dx (hiF l0 0)) → Q .non H'
def spMkI (C : Addr) : Sp := fun vs H Q _ => ∃ (p dx : Addr), vs = [.ref p] ∧ H p = some (.ins C dx []) ∧ ∀ (H' : Hp) (l0 l1 : Addr), (∀ b o, b ≠ p → H b = some o → H' b = some o) → H l0 = none → H l1 = none → H' l0 = some (.lst []) → H' l1 = some (.lst []) → H' p = some (.ins C dx (miF l0 l1)) → Q .non H'
def spMkC (C : Addr) : Sp := fun vs H Q _ => ∃ (p dx : Addr), vs = [.ref p] ∧ H p = some (.ins C dx []) ∧ ∀ (H' : Hp) (l0 l1 : Addr), (∀ b o, b ≠ p → H b = some o → H' b = some o) → H l0 = none → H l1 = none → l0 ≠ l1 → H' l0 = some (.dK []) → H' l1 = some (.dK []) → H' p = some (.ins C dx (coF l0 l1 0 0)) → Q .non H'
def spMkW (CW : Addr) : Sp := fun vs H Q _ => ∃ (p dx : Addr), vs = [.ref p] ∧ H p = some (.ins CW dx []) ∧ ∀ (H' : Hp) (wr : Addr), (∀ b o, b ≠ p → H b = some o → H' b = some o) → H wr = none → H' wr = some (.lst [.non, .non]) → H' p = some (.ins CW dx (wtF wr)) → Q .non H'
def spMkK (CK : Addr) : Sp := fun vs H Q _ => ∃ (p dx m : Addr), vs = [.ref p, .ref m] ∧ H p = some (.ins CK dx []) ∧ ∀ (H' : Hp) (hd er : Addr), (∀ b o, b ≠ p → H b = some o → H' b = some o) → H hd = none → H er = none → H' hd = some (.dK []) → H' er = some (.lst ((List.replicate 16 (0 : Int)).map V.int)) → H' p = some (.ins CK dx (mkF m hd er)) → Q .non H'
theorem flat_r16 : (List.replicate (16 : Int).toNat [V.int 0]).flatten = (List.replicate 16 (0 : Int)).map V.int := by decide +kernel
section
variable {P : Program} {w : World} {K : PySem.W.Frag} {mg : Str → Option Value} {base : Heap} {CB CM CP CK CW CF CH CC CI CS : Addr}
abbrev sCfra : Stmt := inClass (topS 76) 0
def scCfraN : List Str := ["self"]
theorem scCfra : FnScope scCfraN ["self"] (defScope sCfra) := ⟨rfl, rfl, rfl, by decide +kernel, rfl, by decide +kernel, by decide +kernel⟩
theorem ok_Cfra {f : Addr} {fd : FuncData} (F : Fun K "__init__" "Frames.__init__" sCfra f fd) (T : Ty K mg CB CM CP CK CW CF CH CC CI CS) : FnOk P w K mg base CX0 1 f fd ["self"] (spMkF CF) := by
  refine F.ok scCfra (fun vs H Q E h => by obtain ⟨_, _, rfl, _⟩ := h; rfl) (fun cdv A outer s H vs Q E hr h => ?_)
  have hu := hu_of hr
  obtain ⟨p, dx, rfl, hp, k⟩ := h
  refine ⟨_, (pss_cons (ps_fld (pv 0) (pe_lst pa_nil) rfl)
    (pss_one (ps_fld (pv 0) pe_int rfl))), ?_⟩
  have kp0 : ∀ b o, b ≠ p → H b = some o → H b = some o := fun _ _ _ e => e
  have fr0 : ∀ b, H b = none → H b = none := fun _ e => e
  refine ⟨Nat.zero_le _, fun l0 n0 => ?_⟩
  have e0 : p ≠ l0 := ne_of_none hp n0
  have f0 := fr0 _ n0
  refine ⟨_, rfl, p, CF, dx, _, rfl, (by rw [upd_ne e0]; exact hp), T.cF, T.nF_rows, (by show 0 < 1000; decide), ?_⟩
  have kp1 : ∀ b o, b ≠ p → H b = some o → (upd (upd H l0 (.lst [])) p (.ins CF dx (putF "rows" (.ref l0) ([])))) b = some o := fun b o n e => by
    rw [upd_ne n]
    exact same_upd' n0 _ _ (kp0 b o n e)
  have fr1 : ∀ b, (upd (upd H l0 (.lst [])) p (.ins CF dx (putF "rows" (.ref l0) ([])))) b = none → H b = none := fun b e => by
    have n : b ≠ p := fun z => by rw [z, upd_same] at e; cases e
    rw [upd_ne n] at e
    exact fr0 b ((same_upd' n0).free e)
  have hl0 : (upd (upd H l0 (.lst [])) p (.ins CF dx (putF "rows" (.ref l0) ([])))) l0 = some (.lst []) := (upd_ne e0.symm).trans upd_same
  have hp0 : (upd (upd H l0 (.lst [])) p (.ins CF dx (putF "rows" (.ref l0) ([])))) p = some (.ins CF dx (putF "rows" (.ref l0) ([]))) := upd_same
  generalize upd (upd H l0 (.lst [])) p (.ins CF dx (putF "rows" (.ref l0) ([]))) = G0 at *
  refine ⟨_, rfl, p, CF, dx, _, rfl, hp0, T.cF, T.nF_strays, (by show 1 < 1000; decide), ?_⟩
  have kp2 : ∀ b o, b ≠ p → H b = some o → (upd G0 p (.ins CF dx (putF "strays" (.int 0) (putF "rows" (.ref l0) ([]))))) b = some o := fun b o n e => by rw [upd_ne n]; exact kp1 b o n e
  have fr2 : ∀ b, (upd G0 p (.ins CF dx (putF "strays" (.int 0) (putF "rows" (.ref l0) ([]))))) b = none → H b = none := fun b e => by
    have n : b ≠ p := fun z => by rw [z, upd_same] at e; cases e
    rw [upd_ne n] at e
    exact fr1 b e
  have hl0 : (upd G0 p (.ins CF dx (putF "strays" (.int 0) (putF "rows" (.ref l0) ([]))))) l0 = _ := (upd_ne e0.symm).trans hl0
  have hp1 : (upd G0 p (.ins CF dx (putF "strays" (.int 0) (putF "rows" (.ref l0) ([]))))) p = some (.ins CF dx (putF "strays" (.int 0) (putF "rows" (.ref l0) ([])))) := upd_same
  generalize upd G0 p (.ins CF dx (putF "strays" (.int 0) (putF "rows" (.ref l0) ([])))) = G1 at *
  exact k _ l0 kp2 f0 hl0 (hp1.trans (congrArg (fun z => some (HO.ins CF dx z)) (by kernel_rfl)))
abbrev sChis : Stmt := inClass (topS 72) 0
def scChisN : List Str := ["self"]
theorem scChis : FnScope scChisN ["self"] (defScope sChis) := ⟨rfl, rfl, rfl, by decide +kernel, rfl, by decide +kernel, by decide +kernel⟩
theorem ok_Chis {f : Addr} {fd : FuncData} (F : Fun K "__init__" "History.__init__" sChis f fd) (T : Ty K mg CB CM CP CK CW CF CH CC CI CS) : FnOk P w K mg base CX0 1 f fd ["self"] (spMkH CH) := by
  refine F.ok scChis (fun vs H Q E h => by obtain ⟨_, _, rfl, _⟩ := h; rfl) (fun cdv A outer s H vs Q E hr h => ?_)
  have hu := hu_of hr
  obtain ⟨p, dx, rfl, hp, k⟩ := h
  refine ⟨_, (pss_cons (ps_fld (pv 0) (pe_lst pa_nil) rfl)
    (pss_one (ps_fld (pv 0) pe_int rfl))), ?_⟩
  have kp0 : ∀ b o, b ≠ p → H b = some o → H b = some o := fun _ _ _ e => e
  have fr0 : ∀ b, H b = none → H b = none := fun _ e => e
  refine ⟨Nat.zero_le _, fun l0 n0 => ?_⟩
  have e0 : p ≠ l0 := ne_of_none hp n0
  have f0 := fr0 _ n0
  refine ⟨_, rfl, p, CH, dx, _, rfl, (by rw [upd_ne e0]; exact hp), T.cH, T.nH_rows, (by show 0 < 1000; decide), ?_⟩
  have kp1 : ∀ b o, b ≠ p → H b = some o → (upd (upd H l0 (.lst [])) p (.ins CH dx (putF "rows" (.ref l0) ([])))) b = some o := fun b o n e => by
    rw [upd_ne n]
    exact same_upd' n0 _ _ (kp0 b o n e)
  have fr1 : ∀ b, (upd (upd H l0 (.lst [])) p (.ins CH dx (putF "rows" (.ref l0) ([])))) b = none → H b = none := fun b e => by
    have n : b ≠ p := fun z => by rw [z, upd_same] at e; cases e
    rw [upd_ne n] at e
    exact fr0 b ((same_upd' n0).free e)
  have hl0 : (upd (upd H l0 (.lst [])) p (.ins CH dx (putF "rows" (.ref l0) ([])))) l0 = some (.lst []) := (upd_ne e0.symm).trans upd_same
  have hp0 : (upd (upd H l0 (.lst [])) p (.ins CH dx (putF "rows" (.ref l0) ([])))) p = some (.ins CH dx (putF "rows" (.ref l0) ([]))) := upd_same
  generalize upd (upd H l0 (.lst [])) p (.ins CH dx (putF "rows" (.ref l0) ([]))) = G0 at *
  refine ⟨_, rfl, p, CH, dx, _, rfl, hp0, T.cH, T.nH_faded, (by show 1 < 1000; decide), ?_⟩
  have kp2 : ∀ b o, b ≠ p → H b = some o → (upd G0 p (.ins CH dx (putF "faded" (.int 0) (putF "rows" (.ref l0) ([]))))) b = some o := fun b o n e => by rw [upd_ne n]; exact kp1 b o n e
  have fr2 : ∀ b, (upd G0 p (.ins CH dx (putF "faded" (.int 0) (putF "rows" (.ref l0) ([]))))) b = none → H b = none := fun b e => by
    have n : b ≠ p := fun z => by rw [z, upd_same] at e; cases e
    rw [upd_ne n] at e
    exact fr1 b e
  have hl0 : (upd G0 p (.ins CH dx (putF "faded" (.int 0) (putF "rows" (.ref l0) ([]))))) l0 = _ := (upd_ne e0.symm).trans hl0
  have hp1 : (upd G0 p (.ins CH dx (putF "faded" (.int 0) (putF "rows" (.ref l0) ([]))))) p = some (.ins CH dx (putF "faded" (.int 0) (putF "rows" (.ref l0) ([])))) := upd_same
  generalize upd G0 p (.ins CH dx (putF "faded" (.int 0) (putF "rows" (.ref l0) ([])))) = G1 at *
  exact k _ l0 kp2 f0 hl0 (hp1.trans (congrArg (fun z => some (HO.ins CH dx z)) (by kernel_rfl)))
abbrev sCcou : Stmt := inClass (topS 73) 0
def scCcouN : List Str := ["self"]
theorem scCcou : FnScope scCcouN ["self"] (defScope sCcou) := ⟨rfl, rfl, rfl, by decide +kernel, rfl, by decide +kernel, by decide +kernel⟩
theorem ok_Ccou {f : Addr} {fd : FuncData} (F : Fun K "__init__" "Counts.__init__" sCcou f fd) (T : Ty K mg CB CM CP CK CW CF CH CC CI CS) : FnOk P w K mg base CX0 1 f fd ["self"] (spMkC CC) := by
  refine F.ok scCcou (fun vs H Q E h => by obtain ⟨_, _, rfl, _⟩ := h; rfl) (fun cdv A outer s H vs Q E hr h => ?_)
  have hu := hu_of hr
  obtain ⟨p, dx, rfl, hp, k⟩ := h
  refine ⟨_, (pss_cons (ps_fld (pv 0) pe_dnewK rfl)
    (pss_cons (ps_fld (pv 0) pe_dnewK rfl)
    (pss_cons (ps_fld (pv 0) pe_int rfl)
    (pss_one (ps_fld (pv 0) pe_int rfl))))), ?_⟩
  have kp0 : ∀ b o, b ≠ p → H b = some o → H b = some o := fun _ _ _ e => e
  have fr0 : ∀ b, H b = none → H b = none := fun _ e => e
  intro l0 n0
  have e0 : p ≠ l0 := ne_of_none hp n0
  have f0 := fr0 _ n0
  refine ⟨_, rfl, p, CC, dx, _, rfl, (by rw [upd_ne e0]; exact hp), T.cC, T.nC_deeds, (by show 0 < 1000; decide), ?_⟩
  have kp1 : ∀ b o, b ≠ p → H b = some o → (upd (upd H l0 (.dK [])) p (.ins CC dx (putF "deeds" (.ref l0) ([])))) b = some o := fun b o n e => by
    rw [upd_ne n]
    exact same_upd' n0 _ _ (kp0 b o n e)
  have fr1 : ∀ b, (upd (upd H l0 (.dK [])) p (.ins CC dx (putF "deeds" (.ref l0) ([])))) b = none → H b = none := fun b e => by
    have n : b ≠ p := fun z => by rw [z, upd_same] at e; cases e
    rw [upd_ne n] at e
    exact fr0 b ((same_upd' n0).free e)
  have hl0 : (upd (upd H l0 (.dK [])) p (.ins CC dx (putF "deeds" (.ref l0) ([])))) l0 = some (.dK []) := (upd_ne e0.symm).trans upd_same
  have hp0 : (upd (upd H l0 (.dK [])) p (.ins CC dx (putF "deeds" (.ref l0) ([])))) p = some (.ins CC dx (putF "deeds" (.ref l0) ([]))) := upd_same
  generalize upd (upd H l0 (.dK [])) p (.ins CC dx (putF "deeds" (.ref l0) ([]))) = G0 at *
  intro l1 n1
  have e1 : p ≠ l1 := ne_of_none hp0 n1
  have f1 := fr1 _ n1
  have d01 : l0 ≠ l1 := ne_of_none hl0 n1
  refine ⟨_, rfl, p, CC, dx, _, rfl, (by rw [upd_ne e1]; exact hp0), T.cC, T.nC_frames, (by show 1 < 1000; decide), ?_⟩
  have kp2 : ∀ b o, b ≠ p → H b = some o → (upd (upd G0 l1 (.dK [])) p (.ins CC dx (putF "frames" (.ref l1) (putF "deeds" (.ref l0) ([]))))) b = some o := fun b o n e => by
    rw [upd_ne n]
    exact same_upd' n1 _ _ (kp1 b o n e)
  have fr2 : ∀ b, (upd (upd G0 l1 (.dK [])) p (.ins CC dx (putF "frames" (.ref l1) (putF "deeds" (.ref l0) ([]))))) b = none → H b = none := fun b e => by
    have n : b ≠ p := fun z => by rw [z, upd_same] at e; cases e
    rw [upd_ne n] at e
    exact fr1 b ((same_upd' n1).free e)
  have hl0 : (upd (upd G0 l1 (.dK [])) p (.ins CC dx (putF "frames" (.ref l1) (putF "deeds" (.ref l0) ([]))))) l0 = _ := (upd_ne e0.symm).trans (same_upd' n1 _ _ hl0)
  have hl1 : (upd (upd G0 l1 (.dK [])) p (.ins CC dx (putF "frames" (.ref l1) (putF "deeds" (.ref l0) ([]))))) l1 = some (.dK []) := (upd_ne e1.symm).trans upd_same
  have hp1 : (upd (upd G0 l1 (.dK [])) p (.ins CC dx (putF "frames" (.ref l1) (putF "deeds" (.ref l0) ([]))))) p = some (.ins CC dx (putF "frames" (.ref l1) (putF "deeds" (.ref l0) ([])))) := upd_same
  generalize upd (upd G0 l1 (.dK [])) p (.ins CC dx (putF "frames" (.ref l1) (putF "deeds" (.ref l0) ([])))) = G1 at *
  refine ⟨_, rfl, p, CC, dx, _, rfl, hp1, T.cC, T.nC_idle, (by show 2 < 1000; decide), ?_⟩
  have kp3 : ∀ b o, b ≠ p → H b = some o → (upd G1 p (.ins CC dx (putF "idle" (.int 0) (putF "frames" (.ref l1) (putF "deeds" (.ref l0) ([])))))) b = some o := fun b o n e => by rw [upd_ne n]; exact kp2 b o n e
  have fr3 : ∀ b, (upd G1 p (.ins CC dx (putF "idle" (.int 0) (putF "frames" (.ref l1) (putF "deeds" (.ref l0) ([])))))) b = none → H b = none := fun b e => by
    have n : b ≠ p := fun z => by rw [z, upd_same] at e; cases e
    rw [upd_ne n] at e
    exact fr2 b e
  have hl0 : (upd G1 p (.ins CC dx (putF "idle" (.int 0) (putF "frames" (.ref l1) (putF "deeds" (.ref l0) ([])))))) l0 = _ := (upd_ne e0.symm).trans hl0
  have hl1 : (upd G1 p (.ins CC dx (putF "idle" (.int 0) (putF "frames" (.ref l1) (putF "deeds" (.ref l0) ([])))))) l1 = _ := (upd_ne e1.symm).trans hl1
  have hp2 : (upd G1 p (.ins CC dx (putF "idle" (.int 0) (putF "frames" (.ref l1) (putF "deeds" (.ref l0) ([])))))) p = some (.ins CC dx (putF "idle" (.int 0) (putF "frames" (.ref l1) (putF "deeds" (.ref l0) ([]))))) := upd_same
  generalize upd G1 p (.ins CC dx (putF "idle" (.int 0) (putF "frames" (.ref l1) (putF "deeds" (.ref l0) ([]))))) = G2 at *
  refine ⟨_, rfl, p, CC, dx, _, rfl, hp2, T.cC, T.nC_peeked, (by show 3 < 1000; decide), ?_⟩
  have kp4 : ∀ b o, b ≠ p → H b = some o → (upd G2 p (.ins CC dx (putF "peeked" (.int 0) (putF "idle" (.int 0) (putF "frames" (.ref l1) (putF "deeds" (.ref l0) ([]))))))) b = some o := fun b o n e => by rw [upd_ne n]; exact kp3 b o n e
  have fr4 : ∀ b, (upd G2 p (.ins CC dx (putF "peeked" (.int 0) (putF "idle" (.int 0) (putF "frames" (.ref l1) (putF "deeds" (.ref l0) ([]))))))) b = none → H b = none := fun b e => by
    have n : b ≠ p := fun z => by rw [z, upd_same] at e; cases e
    rw [upd_ne n] at e
    exact fr3 b e
  have hl0 : (upd G2 p (.ins CC dx (putF "peeked" (.int 0) (putF "idle" (.int 0) (putF "frames" (.ref l1) (putF "deeds" (.ref l0) ([]))))))) l0 = _ := (upd_ne e0.symm).trans hl0
  have hl1 : (upd G2 p (.ins CC dx (putF "peeked" (.int 0) (putF "idle" (.int 0) (putF "frames" (.ref l1) (putF "deeds" (.ref l0) ([]))))))) l1 = _ := (upd_ne e1.symm).trans hl1
  have hp3 : (upd G2 p (.ins CC dx (putF "peeked" (.int 0) (putF "idle" (.int 0) (putF "frames" (.ref l1) (putF "deeds" (.ref l0) ([]))))))) p = some (.ins CC dx (putF "peeked" (.int 0) (putF "idle" (.int 0) (putF "frames" (.ref l1) (putF "deeds" (.ref l0) ([])))))) := upd_same
  generalize upd G2 p (.ins CC dx (putF "peeked" (.int 0) (putF "idle" (.int 0) (putF "frames" (.ref l1) (putF "deeds" (.ref l0) ([])))))) = G3 at *
  exact k _ l0 l1 kp4 f0 f1 d01 hl0 hl1 (hp3.trans (congrArg (fun z => some (HO.ins CC dx z)) (by kernel_rfl)))
abbrev sCmis : Stmt := inClass (topS 87) 0
def scCmisN : List Str := ["self"]
theorem scCmis : FnScope scCmisN ["self"] (defScope sCmis) := ⟨rfl, rfl, rfl, by decide +kernel, rfl, by decide +kernel, by decide +kernel⟩
theorem ok_Cmis {f : Addr} {fd : FuncData} (F : Fun K "__init__" "Mishaps.__init__" sCmis f fd) (T : Ty K mg CB CM CP CK CW CF CH CC CI CS) : FnOk P w K mg base CX0 1 f fd ["self"] (spMkI CI) := by
  refine F.ok scCmis (fun vs H Q E h => by obtain ⟨_, _, rfl, _⟩ := h; rfl) (fun cdv A outer s H vs Q E hr h => ?_)
  have hu := hu_of hr
  obtain ⟨p, dx, rfl, hp, k⟩ := h
  refine ⟨_, (pss_cons (ps_fld (pv 0) (pe_lst pa_nil) rfl)
    (pss_one (ps_fld (pv 0) (pe_lst pa_nil) rfl))), ?_⟩
  have kp0 : ∀ b o, b ≠ p → H b = some o → H b = some o := fun _ _ _ e => e
  have fr0 : ∀ b, H b = none → H b = none := fun _ e => e
  refine ⟨Nat.zero_le _, fun l0 n0 => ?_⟩
  have e0 : p ≠ l0 := ne_of_none hp n0
  have f0 := fr0 _ n0
  refine ⟨_, rfl, p, CI, dx, _, rfl, (by rw [upd_ne e0]; exact hp), T.cI, T.nI_rows, (by show 0 < 1000; decide), ?_⟩
  have kp1 : ∀ b o, b ≠ p → H b = some o → (upd (upd H l0 (.lst [])) p (.ins CI dx (putF "rows" (.ref l0) ([])))) b = some o := fun b o n e => by
    rw [upd_ne n]
    exact same_upd' n0 _ _ (kp0 b o n e)
  have fr1 : ∀ b, (upd (upd H l0 (.lst [])) p (.ins CI dx (putF "rows" (.ref l0) ([])))) b = none → H b = none := fun b e => by
    have n : b ≠ p := fun z => by rw [z, upd_same] at e; cases e
    rw [upd_ne n] at e
    exact fr0 b ((same_upd' n0).free e)
  have hl0 : (upd (upd H l0 (.lst [])) p (.ins CI dx (putF "rows" (.ref l0) ([])))) l0 = some (.lst []) := (upd_ne e0.symm).trans upd_same
  have hp0 : (upd (upd H l0 (.lst [])) p (.ins CI dx (putF "rows" (.ref l0) ([])))) p = some (.ins CI dx (putF "rows" (.ref l0) ([]))) := upd_same
  generalize upd (upd H l0 (.lst [])) p (.ins CI dx (putF "rows" (.ref l0) ([]))) = G0 at *
  refine ⟨Nat.zero_le _, fun l1 n1 => ?_⟩
  have e1 : p ≠ l1 := ne_of_none hp0 n1
  have f1 := fr1 _ n1
  have d01 : l0 ≠ l1 := ne_of_none hl0 n1
  refine ⟨_, rfl, p, CI, dx, _, rfl, (by rw [upd_ne e1]; exact hp0), T.cI, T.nI_met_rows, (by show 1 < 1000; decide), ?_⟩
  have kp2 : ∀ b o, b ≠ p → H b = some o → (upd (upd G0 l1 (.lst [])) p (.ins CI dx (putF "met_rows" (.ref l1) (putF "rows" (.ref l0) ([]))))) b = some o := fun b o n e => by
    rw [upd_ne n]
    exact same_upd' n1 _ _ (kp1 b o n e)
  have fr2 : ∀ b, (upd (upd G0 l1 (.lst [])) p (.ins CI dx (putF "met_rows" (.ref l1) (putF "rows" (.ref l0) ([]))))) b = none → H b = none := fun b e => by
    have n : b ≠ p := fun z => by rw [z, upd_same] at e; cases e
    rw [upd_ne n] at e
    exact fr1 b ((same_upd' n1).free e)
  have hl0 : (upd (upd G0 l1 (.lst [])) p (.ins CI dx (putF "met_rows" (.ref l1) (putF "rows" (.ref l0) ([]))))) l0 = _ := (upd_ne e0.symm).trans (same_upd' n1 _ _ hl0)
  have hl1 : (upd (upd G0 l1 (.lst [])) p (.ins CI dx (putF "met_rows" (.ref l1) (putF "rows" (.ref l0) ([]))))) l1 = some (.lst []) := (upd_ne e1.symm).trans upd_same
  have hp1 : (upd (upd G0 l1 (.lst [])) p (.ins CI dx (putF "met_rows" (.ref l1) (putF "rows" (.ref l0) ([]))))) p = some (.ins CI dx (putF "met_rows" (.ref l1) (putF "rows" (.ref l0) ([])))) := upd_same
  generalize upd (upd G0 l1 (.lst [])) p (.ins CI dx (putF "met_rows" (.ref l1) (putF "rows" (.ref l0) ([])))) = G1 at *
  exact k _ l0 l1 kp2 f0 f1 hl0 hl1 (hp1.trans (congrArg (fun z => some (HO.ins CI dx z)) (by kernel_rfl)))
abbrev sCsta : Stmt := inClass (topS 89) 0
def scCstaN : List Str := ["self"]
theorem scCsta : FnScope scCstaN ["self"] (defScope sCsta) := ⟨rfl, rfl, rfl, by decide +kernel, rfl, by decide +kernel, by decide +kernel⟩
theorem ok_Csta {f : Addr} {fd : FuncData} (F : Fun K "__init__" "Stands.__init__" sCsta f fd) (T : Ty K mg CB CM CP CK CW CF CH CC CI CS) : FnOk P w K mg base CX0 1 f fd ["self"] (spMade CS) := by
  refine F.ok scCsta (fun vs H Q E h => by obtain ⟨_, _, rfl, _⟩ := h; rfl) (fun cdv A outer s H vs Q E hr h => ?_)
  have hu := hu_of hr
  obtain ⟨p, dx, rfl, hp, k⟩ := h
  refine ⟨_, (pss_one (ps_fld (pv 0) (pe_lst pa_nil) rfl)), ?_⟩
  have kp0 : ∀ b o, b ≠ p → H b = some o → H b = some o := fun _ _ _ e => e
  have fr0 : ∀ b, H b = none → H b = none := fun _ e => e
  refine ⟨Nat.zero_le _, fun l0 n0 => ?_⟩
  have e0 : p ≠ l0 := ne_of_none hp n0
  have f0 := fr0 _ n0
  refine ⟨_, rfl, p, CS, dx, _, rfl, (by rw [upd_ne e0]; exact hp), T.cS, T.nS_rows, (by show 0 < 1000; decide), ?_⟩
  have kp1 : ∀ b o, b ≠ p → H b = some o → (upd (upd H l0 (.lst [])) p (.ins CS dx (putF "rows" (.ref l0) ([])))) b = some o := fun b o n e => by
    rw [upd_ne n]
    exact same_upd' n0 _ _ (kp0 b o n e)
  have fr1 : ∀ b, (upd (upd H l0 (.lst [])) p (.ins CS dx (putF "rows" (.ref l0) ([])))) b = none → H b = none := fun b e => by
    have n : b ≠ p := fun z => by rw [z, upd_same] at e; cases e
    rw [upd_ne n] at e
    exact fr0 b ((same_upd' n0).free e)
  have hl0 : (upd (upd H l0 (.lst [])) p (.ins CS dx (putF "rows" (.ref l0) ([])))) l0 = some (.lst []) := (upd_ne e0.symm).trans upd_same
  have hp0 : (upd (upd H l0 (.lst [])) p (.ins CS dx (putF "rows" (.ref l0) ([])))) p = some (.ins CS dx (putF "rows" (.ref l0) ([]))) := upd_same
  generalize upd (upd H l0 (.lst [])) p (.ins CS dx (putF "rows" (.ref l0) ([]))) = G0 at *
  exact k _ kp1
abbrev sCwat : Stmt := inClass (topS 93) 0
def scCwatN : List Str := ["self"]
theorem scCwat : FnScope scCwatN ["self"] (defScope sCwat) := ⟨rfl, rfl, rfl, by decide +kernel, rfl, by decide +kernel, by decide +kernel⟩
theorem ok_Cwat {f : Addr} {fd : FuncData} (F : Fun K "__init__" "Watches.__init__" sCwat f fd) (T : Ty K mg CB CM CP CK CW CF CH CC CI CS) : FnOk P w K mg base CX0 1 f fd ["self"] (spMkW CW) := by
  refine F.ok scCwat (fun vs H Q E h => by obtain ⟨_, _, rfl, _⟩ := h; rfl) (fun cdv A outer s H vs Q E hr h => ?_)
  have hu := hu_of hr
  obtain ⟨t_WATCHES, g_WATCHES⟩ := T.g_WATCHES
  obtain ⟨p, dx, rfl, hp, k⟩ := h
  refine ⟨_, (pss_one (ps_fld (pv 0) (pe_op op_rep (pe_lst (pa_cons pe_non pa_nil)) (pgI g_WATCHES)) rfl)), ?_⟩
  refine ⟨(by show 1 ≤ sizeLine; decide), fun l1 n1 => ?_⟩
  refine ⟨l1, _, _, rfl, rfl, upd_same, by decide, by decide, (by show 1 * 2 ≤ sizeLine; decide), fun wr nw => ?_⟩
  rw [show (List.replicate (2 : Int).toNat [V.non]).flatten = [V.non, V.non] from rfl]
  have e1 : p ≠ l1 := ne_of_none hp n1
  have hp1 : upd H l1 (.lst [V.non]) p = some (.ins CW dx []) := by rw [upd_ne e1]; exact hp
  have s1 := same_upd' (o := .lst [V.non]) n1
  have e2 : p ≠ wr := ne_of_none hp1 nw
  have s2 := same_upd' (o := .lst [V.non, V.non]) nw
  refine ⟨_, rfl, p, CW, dx, _, rfl, s2 _ _ hp1, T.cW, T.nW_rows, (by show 0 < 1000; decide), ?_⟩
  exact k _ wr (fun b o n e => by rw [upd_ne n]; exact s2 _ _ (s1 _ _ e)) (s1.free nw) (by rw [upd_ne e2.symm]; exact upd_same) upd_same
abbrev sCmar : Stmt := inClass (topS 81) 0
def scCmarN : List Str := ["self", "memory"]
theorem scCmar : FnScope scCmarN ["self", "memory"] (defScope sCmar) := ⟨rfl, rfl, rfl, by decide +kernel, rfl, by decide +kernel, by decide +kernel⟩
theorem ok_Cmar {f : Addr} {fd : FuncData} (F : Fun K "__init__" "Marks.__init__" sCmar f fd) (T : Ty K mg CB CM CP CK CW CF CH CC CI CS) : FnOk P w K mg base CX0 1 f fd ["self", "memory"] (spMkK CK) := by
  refine F.ok scCmar (fun vs H Q E h => by obtain ⟨_, _, _, rfl, _⟩ := h; rfl) (fun cdv A outer s H vs Q E hr h => ?_)
  have hu := hu_of hr
  obtain ⟨t_PAGES, g_PAGES⟩ := T.g_PAGES
  obtain ⟨p, dx, m, rfl, hp, k⟩ := h
  refine ⟨_, (pss_cons (ps_fld (pv 0) (pv 1) rfl)
    (pss_cons (ps_fld (pv 0) pe_dnewK rfl)
    (pss_one (ps_fld (pv 0) (pe_op op_rep (pe_lst (pa_cons pe_int pa_nil)) (pgI g_PAGES)) rfl)))), ?_⟩
  refine ⟨_, rfl, _, rfl, p, CK, dx, _, rfl, hp, T.cK, T.nK_memory, (by show 0 < 1000; decide), ?_⟩
  have k1 : ∀ b o, b ≠ p → H b = some o → upd H p (.ins CK dx (putF "memory" (.ref m) [])) b = some o := fun b o n e => by rw [upd_ne n]; exact e
  have hp1 : upd H p (.ins CK dx (putF "memory" (.ref m) [])) p = some (.ins CK dx (putF "memory" (.ref m) [])) := upd_same
  have fr1 : ∀ b, upd H p (.ins CK dx (putF "memory" (.ref m) [])) b = none → H b = none := fun b e => by
    have n : b ≠ p := fun z => by rw [z, upd_same] at e; cases e
    rw [upd_ne n] at e
    exact e
  generalize upd H p (.ins CK dx (putF "memory" (.ref m) [])) = G1 at *
  intro hd nh
  have e2 : p ≠ hd := ne_of_none hp1 nh
  have s2 := same_upd' (o := .dK []) nh
  refine ⟨_, rfl, p, CK, dx, _, rfl, s2 _ _ hp1, T.cK, T.nK_hard, (by show 1 < 1000; decide), ?_⟩
  have k2 : ∀ b o, b ≠ p → H b = some o → upd (upd G1 hd (.dK [])) p (.ins CK dx (putF "hard" (.ref hd) (putF "memory" (.ref m) []))) b = some o := fun b o n e => by rw [upd_ne n]; exact s2 _ _ (k1 b o n e)
  have hp2 : upd (upd G1 hd (.dK [])) p (.ins CK dx (putF "hard" (.ref hd) (putF "memory" (.ref m) []))) p = some (.ins CK dx (putF "hard" (.ref hd) (putF "memory" (.ref m) []))) := upd_same
  have hh2 : upd (upd G1 hd (.dK [])) p (.ins CK dx (putF "hard" (.ref hd) (putF "memory" (.ref m) []))) hd = some (.dK []) := by rw [upd_ne e2.symm]; exact upd_same
  have fr2 : ∀ b, upd (upd G1 hd (.dK [])) p (.ins CK dx (putF "hard" (.ref hd) (putF "memory" (.ref m) []))) b = none → H b = none := fun b e => by
    have n : b ≠ p := fun z => by rw [z, upd_same] at e; cases e
    rw [upd_ne n] at e
    exact fr1 b (s2.free e)
  generalize upd (upd G1 hd (.dK [])) p (.ins CK dx (putF "hard" (.ref hd) (putF "memory" (.ref m) []))) = G2 at *
  refine ⟨(by show 1 ≤ sizeLine; decide), fun l1 n1 => ?_⟩
  refine ⟨l1, _, _, rfl, rfl, upd_same, by decide, by decide, (by show 1 * 16 ≤ sizeLine; decide), fun er ne_ => ?_⟩
  rw [flat_r16]
  have e1 : p ≠ l1 := ne_of_none hp2 n1
  have s3 := same_upd' (o := .lst [V.int 0]) n1
  have hp3 := s3 _ _ hp2
  have e3 : p ≠ er := ne_of_none hp3 ne_
  have s4 := same_upd' (o := .lst ((List.replicate 16 (0 : Int)).map V.int)) ne_
  refine ⟨_, rfl, p, CK, dx, _, rfl, s4 _ _ hp3, T.cK, T.nK_erased, (by show 2 < 1000; decide), ?_⟩
  exact k _ hd er (fun b o n e => by rw [upd_ne n]; exact s4 _ _ (s3 _ _ (k2 b o n e))) (fr1 _ nh) (fr2 _ (s3.free ne_)) (by rw [upd_ne e2.symm]; exact s4 _ _ (s3 _ _ hh2)) (by rw [upd_ne e3.symm]; exact upd_same) upd_same
end
end Bh

/-! What a turn does to the parts of a probe. -/
namespace Bh
open PySem PySem.Spec PyProof.Rows L2
theorem for_enum {K : PySem.W.Frag} {a : Addr} {xs : List V} {g : TG} {tb : TS} {D : Ends} {σ : L2.St} {H : Hp} (Pv : Nat → L2.St → Hp → Prop) (h0 : Pv 0 σ H) (hl : ∀ i σ H, i ≤ xs.length → Pv i σ H → SqL K H a xs)
    (hs : ∀ i x T σ H, xs[i]? = some x → H T = none → Pv i σ H → g (.ref T) σ (upd H T (.tup [.int (i : Nat), x])) fun σ2 H2 => tb { D with nx := Pv (i + 1), ct := Pv (i + 1), bk := D.nx } σ2 H2) (hd : ∀ σ H, Pv xs.length σ H → D.nx σ H) :
    ∃ W : Nat → Nat → L2.St → Hp → Prop, (∃ m, W 0 m σ H) ∧ ∀ i m σ H, W i m σ H →
      ((Ite K a).stop i H ∧ D.nx σ H) ∨ ((Ite K a).go i H ∧ ∃ N : L2.St → Hp → Prop, (∀ σ' H', N σ' H' → ∃ m', m' < m ∧ W (i + 1) m' σ' H') ∧ ∀ x H', (Ite K a).yld i H x H' → g x σ H' fun σ2 H2 => tb { D with nx := N, ct := N, bk := D.nx } σ2 H2) := by
  refine ⟨fun i m σ H => m = xs.length - i ∧ i ≤ xs.length ∧ Pv i σ H, ⟨xs.length, by simp, Nat.zero_le _, h0⟩, ?_⟩
  rintro i m σ H ⟨rfl, hi, p⟩
  have q := hl i σ H hi p
  by_cases hlt : i < xs.length
  · refine .inr ⟨⟨xs, xs[i], q, by simp [hlt]⟩, Pv (i + 1), fun σ' H' p' => ⟨xs.length - (i + 1), by omega, rfl, hlt, p'⟩, fun x H' y => ?_⟩
    obtain ⟨T, z, rfl, nT, rfl, y⟩ := y
    exact hs i z T σ _ (y xs q) nT p
  · have e : i = xs.length := by omega
    subst e
    exact .inl ⟨⟨xs, q, Nat.le_refl _⟩, hd σ H p⟩
theorem atI_last {α : Type} (xs : List α) (v : α) : atI (xs ++ [v]) (-1) = some v := by
  unfold atI ixN
  rw [if_neg (by decide), if_pos (by rw [List.length_append, List.length_singleton]; omega)]
  have e : ((-1 : Int) + ((xs ++ [v]).length : Int)).toNat = xs.length := by
    rw [List.length_append, List.length_singleton]
    omega
  rw [e]
  show (xs ++ [v])[xs.length]? = some v
  rw [List.getElem?_append_right (Nat.le_refl _), Nat.sub_self]
  rfl
theorem seqI_last {n : Nat} : seqIndex? (-1) (n + 1) = some n := by
  have h : ixN (n + 1) (-1) = some n := by
    unfold ixN
    rw [if_neg (by decide), if_pos (by omega)]
    have e : ((-1 : Int) + ((n + 1 : Nat) : Int)).toNat = n := by omega
    rw [e]
  exact (ixN_seq h).1
theorem seqI_first {n : Nat} (h : 0 < n) : seqIndex? 0 n = some 0 := by
  have h : ixN n 0 = some 0 := by
    unfold ixN
    rw [if_pos (Int.le_refl 0), if_pos (by omega)]
    rfl
  exact (ixN_seq h).1
theorem snocCases {α : Type} (l : List α) : l = [] ∨ ∃ r u, l = r ++ [u] := by
  rcases List.eq_nil_or_concat l with h | ⟨r, u, h⟩
  · exact .inl h
  · exact .inr ⟨r, u, by rw [h, List.concat_eq_append]⟩
theorem erase_last {α : Type} (xs : List α) (v : α) : (xs ++ [v]).eraseIdx xs.length = xs := by
  rw [List.eraseIdx_append_of_length_le (Nat.le_refl _), Nat.sub_self]
  exact List.append_nil xs
def spGbf (CF : Addr) : Sp := fun vs H Q _ => ∃ (p dx fl : Addr) (st : Int) (us : List V) (rows : List (Int × Int × Str)) (k : Str), vs = [.ref p, .str k] ∧ H p = some (.ins CF dx (frF fl st)) ∧ H fl = some (.lst us) ∧ T3At H us rows ∧ rows.length < 100000 ∧
  ∀ H' us', (∀ b o, b ≠ p → b ≠ fl → H b = some o → H' b = some o) → H' p = some (.ins CF dx (frF fl (backR k rows st).2)) → H' fl = some (.lst us') → T3At H' us' (backR k rows st).1 → Q .non H'
def spFol (CF : Addr) : Sp := fun vs H Q _ => ∃ (p dx fl : Addr) (st : Int) (us : List V) (rows : List (Int × Int × Str)) (so : Str) (d : V) (a b : Int), vs = [.ref p, .str so, d, .int a, .int b] ∧ (d = .non ∨ ∃ n, d = .str n) ∧ H p = some (.ins CF dx (frF fl st)) ∧ H fl = some (.lst us) ∧ T3At H us rows ∧ rows.length < 100000 ∧
  ∀ H' us', (∀ b o, b ≠ p → b ≠ fl → H b = some o → H' b = some o) → H' p = some (.ins CF dx (frF fl (followR so d a b rows st).2)) → H' fl = some (.lst us') → T3At H' us' (followR so d a b rows st).1 → Q .non H'
def spInn (CF : Addr) : Sp := fun vs H Q _ => ∃ (p dx fl : Addr) (st : Int) (us : List V) (rows : List (Int × Int × Str)), vs = [.ref p] ∧ H p = some (.ins CF dx (frF fl st)) ∧ H fl = some (.lst us) ∧ T3At H us rows ∧ rows.length < 100000 ∧ Q (.int (innerM rows)) H
def spHno (CH : Addr) : Sp := fun vs H Q _ => ∃ (p dx hl : Addr) (f bt pc : Int) (so : Str) (hs : List V) (hist : List (Int × Str × Int)), vs = [.ref p, .int bt, .str so, .int pc] ∧ H p = some (.ins CH dx (hiF hl f)) ∧ H hl = some (.lst hs) ∧ HtAt H hs hist ∧ hist.length ≤ 32 ∧
  ∀ H' hs', (∀ b o, b ≠ p → b ≠ hl → H b = some o → H' b = some o) → H' p = some (.ins CH dx (hiF hl (noteHR bt so pc hist f).2)) → H' hl = some (.lst hs') → HtAt H' hs' (noteHR bt so pc hist f).1 → Q .non H'
def spNbe (CC : Addr) : Sp := fun vs H Q _ => ∃ (p dx cd cf : Addr) (i pk bs to : Int) (l : List (Int × Int)), vs = [.ref p, .int bs, .int to] ∧ H p = some (.ins CC dx (coF cd cf i pk)) ∧ H cf = some (.dK (spD l)) ∧ l.length < 100000 ∧
  ∀ H', (∀ b o, b ≠ cf → H b = some o → H' b = some o) → H' cf = some (.dK (spD (putA l to (getA l to 0 + bs)))) → Q .non H'
def spNtu (CC : Addr) : Sp := fun vs H Q _ => ∃ (p dx cd cf : Addr) (i pk pc bs to : Int) (so : Str) (l : List (Int × Int)) (kd : List (Key × V)) (ds : List (Int × Int × Int)), vs = [.ref p, .str so, .int pc, .int bs, .int to] ∧ H p = some (.ins CC dx (coF cd cf i pk)) ∧ H cf = some (.dK (spD l)) ∧ H cd = some (.dK kd) ∧ DdAt H kd ds ∧ cd ≠ cf ∧ l.length < 100000 ∧ ds.length < 100000 ∧
  ∀ H' kd', (∀ b o, b ≠ p → b ≠ cf → b ≠ cd → H b = some o → H' b = some o) → H' p = some (.ins CC dx (coF cd cf (idleR so bs i) pk)) → H' cf = some (.dK (spD (putA l to (getA l to 0 + bs)))) → H' cd = some (.dK kd') → DdAt H' kd' (deedsR so pc bs ds) → Q .non H'
def MetAt (H : Hp) (v : V) : Option (Nat × Bool × Int) → Prop
  | none => v = .non
  | some r => ∃ q, v = .ref q ∧ H q = some (.tup [.str "watch", .int (r.1 : Int), .int r.2.2, .str (kS r.2.1)])
def spMet (CW : Addr) : Sp := fun vs H Q _ => ∃ (p dx wr tl : Addr) (wv us : List V) (rows : List (Option (Int × Int × Str))) (ts : List (Bool × Int)), vs = [.ref p, .ref tl] ∧ H p = some (.ins CW dx (wtF wr)) ∧ H wr = some (.lst wv) ∧ WtAt H wv rows ∧ (∀ u, some u ∈ rows → u.2.2 ∈ kdN) ∧ H tl = some (.lst us) ∧ TouAt H us ts ∧ ∀ H' v, Same H H' → MetAt H' v (metM rows ts) → Q v H'
def spBnd (CI : Addr) : Sp := fun vs H Q _ => ∃ (p dx ml mr : Addr) (bt : Int), vs = [.ref p, .int bt] ∧ H p = some (.ins CI dx (miF ml mr)) ∧ H ml = some (.lst []) ∧ Q .non H
def spDue (CI : Addr) : Sp := fun vs H Q _ => ∃ (p dx ml mr : Addr) (bt : Int), vs = [.ref p, .int bt] ∧ H p = some (.ins CI dx (miF ml mr)) ∧ H ml = some (.lst []) ∧ ∀ H' l, Same H H' → H l = none → H' l = some (.lst []) → Q (.ref l) H'
def spSta (CK CM : Addr) : Sp := fun vs H Q _ => ∃ (p dk m dm hd er ww s : Addr) (a : Int) (hs sw : List Int), vs = [.ref p, .int a] ∧ H p = some (.ins CK dk (mkF m hd er)) ∧ H hd = some (.dK (swD hs)) ∧ H m = some (.ins CM dm (mmF ww s)) ∧ H s = some (.dK (swD sw)) ∧ Q (.bl (decide (a ∈ hs) || decide (a ∈ sw))) H
theorem kin_eq (b : Bool) {k : Str} (h : k ∈ kdN) : (!(Builtin.Str.occurrences k (kS b) 0 k.length 1).isEmpty) = kinB b k := by
  unfold kdN at h
  simp only [List.mem_cons, List.not_mem_nil, or_false] at h
  rcases h with rfl | rfl | rfl <;> cases b <;> decide +kernel
theorem WtAt.get {H : Hp} : ∀ {us : List V} {ls : List (Option (Int × Int × Str))} {i : Nat} {v : V}, WtAt H us ls → us[i]? = some v → ∃ r, ls[i]? = some r ∧ (match r with
    | none => v = .non
    | some u => ∃ t, v = .ref t ∧ H t = some (.tup [.int u.1, .int u.2.1, .str u.2.2]))
  | _, _, _, _, .nil, h => by cases h
  | _, _, 0, _, .cons (b := r) h _, e => by
    cases e
    exact ⟨r, rfl, h⟩
  | _, _, i + 1, _, .cons _ r, e => WtAt.get (i := i) r e
def spNpk (CC : Addr) : Sp := fun vs H Q _ => ∃ (p dx cd cf : Addr) (i pk to : Int) (l : List (Int × Int)), vs = [.ref p, .int to] ∧ H p = some (.ins CC dx (coF cd cf i pk)) ∧ H cf = some (.dK (spD l)) ∧ l.length < 100000 ∧
  ∀ H', (∀ b o, b ≠ p → b ≠ cf → H b = some o → H' b = some o) → H' p = some (.ins CC dx (coF cd cf i (pk + 1))) → H' cf = some (.dK (spD (putA l to (getA l to 0 + 1)))) → Q .non H'
theorem nmOfS (d : V) (h : d = .non ∨ ∃ n, d = .str n) (s : Str) : scal d (.str s) = true := by
  rcases h with rfl | ⟨n, rfl⟩ <;> rfl
section
variable {P : Program} {w : World} {K : PySem.W.Frag} {mg : Str → Option Value} {base : Heap} {CB CM CP CK CW CF CH CC CI CS : Addr}
abbrev sMgbf : Stmt := inClass (topS 76) 3
def scMgbfN : List Str := ["self", "kind"]
theorem scMgbf : FnScope scMgbfN ["self", "kind"] (defScope sMgbf) := ⟨rfl, rfl, rfl, by decide +kernel, rfl, by decide +kernel, by decide +kernel⟩
theorem ok_Mgbf {f : Addr} {fd : FuncData} (F : Fun K "go_back_from" "Frames.go_back_from" sMgbf f fd) (T : Ty K mg CB CM CP CK CW CF CH CC CI CS) : FnOk P w K mg base CX0 1 f fd ["self", "kind"] (spGbf CF) := by
  refine F.ok scMgbf (fun vs H Q E h => by obtain ⟨_, _, _, _, _, _, _, rfl, _⟩ := h; rfl) (fun cdv A outer s H vs Q E hr h => ?_)
  have hu := hu_of hr
  obtain ⟨p, dx, fl, st, us, rows, k_, rfl, hp, hfl, ht, hn, k⟩ := h
  refine ⟨_, (pss_one (ps_if (PW.pt (pw_and (pt_truth (pe_fld (pv 0) rfl) (fun _ => rfl)) (pw_and1 (pt_cmpR op_eq (pe_ix ix_tup (pe_ix ix_list (pe_fld (pv 0) rfl) (pe_un un_neg pe_int) (fun _ _ => rfl)) pe_int (fun _ _ => rfl)) (pv 1) (nomark _))))) (pss_one (ps_delL (pe_fld (pv 0) rfl) (pe_un un_neg pe_int))) (pss_one (ps_fldaug (pv 0) pe_int in_add)))), ?_⟩
  have nf : fl ≠ p := ne_of hfl hp (by intro z; cases z)
  rcases snocCases rows with rfl | ⟨r0, u, rfl⟩
  · cases ht
    refine ⟨_, rfl, p, CF, dx, _, _, rfl, hp, T.cF, T.nF_rows, fF_rows, _, .inl ⟨_, SqL.of hfl, rfl⟩, ifB (fun h => by cases h) (fun _ => ifB (fun h => by cases h) (fun _ => ?_))⟩
    refine ⟨_, rfl, p, CF, dx, _, _, rfl, hp, T.cF, T.nF_strays, fF_strays, _, _, rfl, rfl, dx, _, hp, (by show 2 < 1000; decide), ?_⟩
    rw [fP_strays]
    exact k _ [] (fun b o n1 _ e => by rw [upd_ne n1]; exact e) upd_same (by rw [upd_ne nf]; exact hfl) .nil
  · obtain ⟨us', t, rfl, ht', e3⟩ := ht.last
    have nt : t ≠ p := ne_of e3 hp (by intro z; cases z)
    have eb : backR k_ (r0 ++ [u]) st = if u.2.2 = k_ then (r0, st) else (r0 ++ [u], st + 1) := by
      unfold backR
      rw [List.getLast?_concat, List.dropLast_concat]
    refine ⟨_, rfl, p, CF, dx, _, _, rfl, hp, T.cF, T.nF_rows, fF_rows, _, .inl ⟨_, SqL.of hfl, rfl⟩, ifB (fun _ => ?_) (fun h => by
      rw [List.isEmpty_eq_false_iff.mpr (by simp)] at h
      cases h)⟩
    refine ⟨_, rfl, p, CF, dx, _, _, rfl, hp, T.cF, T.nF_rows, fF_rows, _, rfl, fl, _, _, _, rfl, rfl, SqL.of hfl, atI_last us' _, t, _, 2, _, rfl, rfl, SqT.of e3, atI_nat (j := 2) rfl, _, rfl, rfl, _, rfl, ifB (fun h => ?_) (fun h => ?_)⟩
    · rw [eb, if_pos (V.str.inj (of_decide_eq_true h))] at k
      refine ⟨_, rfl, p, CF, dx, _, _, rfl, hp, T.cF, T.nF_rows, fF_rows, _, rfl, fl, _, _, us'.length, rfl, rfl, hfl, by decide, by decide, (by rw [List.length_append, List.length_singleton]; exact seqI_last), ?_⟩
      rw [erase_last]
      exact k _ us' (fun b o _ n2 e => by rw [upd_ne n2]; exact e) (by rw [upd_ne nf.symm]; exact hp) upd_same (ht'.mono fun t xs e => by rw [upd_ne (ne_of e hfl (by intro z; cases z))]; exact e)
    · rw [eb, if_neg (fun z => of_decide_eq_false h (congrArg V.str z))] at k
      refine ⟨_, rfl, p, CF, dx, _, _, rfl, hp, T.cF, T.nF_strays, fF_strays, _, _, rfl, rfl, dx, _, hp, (by show 2 < 1000; decide), ?_⟩
      rw [fP_strays]
      exact k _ (us' ++ [.ref t]) (fun b o n1 _ e => by rw [upd_ne n1]; exact e) upd_same (by rw [upd_ne nf]; exact hfl) (ht.mono fun t xs e => by rw [upd_ne (ne_of e hp (by intro z; cases z))]; exact e)
abbrev sMinn : Stmt := inClass (topS 76) 4
def scMinnN : List Str := ["self"]
theorem scMinn : FnScope scMinnN ["self"] (defScope sMinn) := ⟨rfl, rfl, rfl, by decide +kernel, rfl, by decide +kernel, by decide +kernel⟩
theorem ok_Minn {f : Addr} {fd : FuncData} (F : Fun K "innermost" "Frames.innermost" sMinn f fd) (T : Ty K mg CB CM CP CK CW CF CH CC CI CS) : FnOk P w K mg base CX0 1 f fd ["self"] (spInn CF) := by
  refine F.ok scMinn (fun vs H Q E h => by obtain ⟨_, _, _, _, _, _, rfl, _⟩ := h; rfl) (fun cdv A outer s H vs Q E hr h => ?_)
  have hu := hu_of hr
  obtain ⟨t_OUTSIDE, g_OUTSIDE⟩ := T.g_OUTSIDE
  obtain ⟨p, dx, fl, st, us, rows, rfl, hp, hfl, ht, hn, k⟩ := h
  refine ⟨_, (pss_cons (ps_if (pt_not (pt_truth (pe_fld (pv 0) rfl) (fun _ => rfl))) (pss_one (ps_ret (pgI g_OUTSIDE))) pss_nil)
    (pss_one (ps_ret (pe_ix ix_tup (pe_ix ix_list (pe_fld (pv 0) rfl) (pe_un un_neg pe_int) (fun _ _ => rfl)) pe_int (fun _ _ => rfl))))), ?_⟩
  rcases snocCases rows with rfl | ⟨r0, u, rfl⟩
  · cases ht
    refine ⟨_, rfl, p, CF, dx, _, _, rfl, hp, T.cF, T.nF_rows, fF_rows, _, .inl ⟨_, SqL.of hfl, rfl⟩, ifN (fun _ => k) (fun h => by cases h)⟩
  · obtain ⟨us', t, rfl, ht', e3⟩ := ht.last
    have ei : innerM (r0 ++ [u]) = u.2.1 := by
      unfold innerM
      rw [List.getLast?_concat]
    rw [ei] at k
    refine ⟨_, rfl, p, CF, dx, _, _, rfl, hp, T.cF, T.nF_rows, fF_rows, _, .inl ⟨_, SqL.of hfl, rfl⟩, ifN (fun h => by
      rw [List.isEmpty_eq_false_iff.mpr (by simp)] at h
      cases h) (fun _ => ?_)⟩
    exact ⟨_, rfl, p, CF, dx, _, _, rfl, hp, T.cF, T.nF_rows, fF_rows, _, rfl, fl, _, _, _, rfl, rfl, SqL.of hfl, atI_last us' _, t, _, 1, _, rfl, rfl, SqT.of e3, atI_nat (j := 1) rfl, k⟩
abbrev sMfol : Stmt := inClass (topS 76) 2
def scMfolN : List Str := ["self", "sort", "did", "at", "to"]
theorem scMfol : FnScope scMfolN ["self", "sort", "did", "at", "to"] (defScope sMfol) := ⟨rfl, rfl, rfl, by decide +kernel, rfl, by decide +kernel, by decide +kernel⟩
theorem ok_Mfol {f : Addr} {fd : FuncData} {fM_gbf : Addr} {dM_gbf : FuncData} (F : Fun K "follow" "Frames.follow" sMfol f fd) (T : Ty K mg CB CM CP CK CW CF CH CC CI CS)
    (M_gbf : CalM P w K mg base CF 1 "go_back_from" ["self", "kind"] (spGbf CF) fM_gbf dM_gbf) : FnOk P w K mg base CX0 2 f fd ["self", "sort", "did", "at", "to"] (spFol CF) := by
  refine F.ok scMfol (fun vs H Q E h => by obtain ⟨_, _, _, _, _, _, _, _, _, _, rfl, _⟩ := h; rfl) (fun cdv A outer s H vs Q E hr h => ?_)
  have hu := hu_of hr
  obtain ⟨p, dx, fl, st, us, rows, so, d, a_, b_, rfl, hd, hp, hfl, ht, hn, k⟩ := h
  refine ⟨_, (pss_one (ps_if (pt_cmpR op_eq (pv 1) pe_str (nomark _)) (pss_one (ps_expr (pe_bm PySem.F.plainAttrs_list PySem.F.slot_list_append PySem.F.type_list_append mt_append (pe_fld (pv 0) rfl) (pa_cons (pe_tup (pa_cons (pv 3) (pa_cons (pv 4) (pa_cons pe_str pa_nil)))) pa_nil)))) (pss_one (ps_if (pt_cmpR op_eq (pv 2) pe_str (nomark _)) (pss_one (ps_expr (pe_bm PySem.F.plainAttrs_list PySem.F.slot_list_append PySem.F.type_list_append mt_append (pe_fld (pv 0) rfl) (pa_cons (pe_tup (pa_cons (pv 3) (pa_cons (pv 4) (pa_cons pe_str pa_nil)))) pa_nil)))) (pss_one (ps_if (pt_cmpR op_eq (pv 2) pe_str (nomark _)) (pss_one (ps_expr (pe_meth (pv 0) M_gbf.c M_gbf.m M_gbf.G (hr.mono (by decide)) M_gbf.b .nil pass0 (pa_cons pe_str pa_nil)))) (pss_one (ps_if (pt_cmpR op_eq (pv 2) pe_str (nomark _)) (pss_one (ps_expr (pe_meth (pv 0) M_gbf.c M_gbf.m M_gbf.G (hr.mono (by decide)) M_gbf.b .nil pass0 (pa_cons pe_str pa_nil)))) pss_nil)))))))), ?_⟩
  have nf : fl ≠ p := ne_of hfl hp (by intro z; cases z)
  unfold followR at k
  refine ⟨_, rfl, rfl, _, rfl, ifB (fun h => ?_) (fun h => ?_)⟩
  · rw [if_pos (V.str.inj (of_decide_eq_true h))] at k
    refine ⟨_, rfl, p, CF, dx, _, _, rfl, hp, T.cF, T.nF_rows, fF_rows, .inl ⟨rfl, _, SqL.of hfl⟩, _, rfl, _, rfl, (by show 3 ≤ sizeLine; decide), fun t nt => ?_⟩
    have et := same_upd' (o := .tup [V.int a_, V.int b_, V.str "interrupt"]) nt
    refine ⟨fl, us, _, rfl, rfl, et _ _ hfl, Nat.lt_of_le_of_lt (Nat.le_of_eq ht.len) (Nat.lt_trans hn (by decide)), ?_⟩
    exact k _ _ (fun b o n1 n2 e => by rw [upd_ne n2]; exact et _ _ e) (by rw [upd_ne nf.symm]; exact et _ _ hp) upd_same (T3At.mono (H := upd H t (.tup [V.int a_, V.int b_, V.str "interrupt"])) (fun t' xs e => by rw [upd_ne (ne_of e (et _ _ hfl) (by intro z; cases z))]; exact e) (T3At.snoc (u := (a_, b_, "interrupt")) upd_same (ht.mono fun t' xs e => et _ _ e)))
  · rw [if_neg (fun z => of_decide_eq_false h (congrArg V.str z))] at k
    refine ⟨_, rfl, nmOfS d hd _, _, rfl, ifB (fun h => ?_) (fun h => ?_)⟩
    · rw [if_pos (of_decide_eq_true h)] at k
      refine ⟨_, rfl, p, CF, dx, _, _, rfl, hp, T.cF, T.nF_rows, fF_rows, .inl ⟨rfl, _, SqL.of hfl⟩, _, rfl, _, rfl, (by show 3 ≤ sizeLine; decide), fun t nt => ?_⟩
      have et := same_upd' (o := .tup [V.int a_, V.int b_, V.str "call"]) nt
      refine ⟨fl, us, _, rfl, rfl, et _ _ hfl, Nat.lt_of_le_of_lt (Nat.le_of_eq ht.len) (Nat.lt_trans hn (by decide)), ?_⟩
      exact k _ _ (fun b o n1 n2 e => by rw [upd_ne n2]; exact et _ _ e) (by rw [upd_ne nf.symm]; exact et _ _ hp) upd_same (T3At.mono (H := upd H t (.tup [V.int a_, V.int b_, V.str "call"])) (fun t' xs e => by rw [upd_ne (ne_of e (et _ _ hfl) (by intro z; cases z))]; exact e) (T3At.snoc (u := (a_, b_, "call")) upd_same (ht.mono fun t' xs e => et _ _ e)))
    · rw [if_neg (of_decide_eq_false h)] at k
      refine ⟨_, rfl, nmOfS d hd _, _, rfl, ifB (fun h => ?_) (fun h => ?_)⟩
      · rw [if_pos (of_decide_eq_true h)] at k
        exact ⟨_, rfl, p, dx, _, rfl, hp, fN_go_back_from, p, dx, fl, st, us, rows, ("call" : Str), rfl, hp, hfl, ht, hn, k⟩
      · rw [if_neg (of_decide_eq_false h)] at k
        refine ⟨_, rfl, nmOfS d hd _, _, rfl, ifB (fun h => ?_) (fun h => ?_)⟩
        · rw [if_pos (of_decide_eq_true h)] at k
          exact ⟨_, rfl, p, dx, _, rfl, hp, fN_go_back_from, p, dx, fl, st, us, rows, ("interrupt" : Str), rfl, hp, hfl, ht, hn, k⟩
        · rw [if_neg (of_decide_eq_false h)] at k
          exact k H us (fun _ _ _ _ e => e) hp hfl ht
abbrev sMhno : Stmt := inClass (topS 72) 2
def scMhnoN : List Str := ["self", "beat", "sort", "pc"]
theorem scMhno : FnScope scMhnoN ["self", "beat", "sort", "pc"] (defScope sMhno) := ⟨rfl, rfl, rfl, by decide +kernel, rfl, by decide +kernel, by decide +kernel⟩
theorem ok_Mhno {f : Addr} {fd : FuncData} (F : Fun K "note" "History.note" sMhno f fd) (T : Ty K mg CB CM CP CK CW CF CH CC CI CS) : FnOk P w K mg base CX0 1 f fd ["self", "beat", "sort", "pc"] (spHno CH) := by
  refine F.ok scMhno (fun vs H Q E h => by obtain ⟨_, _, _, _, _, _, _, _, _, rfl, _⟩ := h; rfl) (fun cdv A outer s H vs Q E hr h => ?_)
  have hu := hu_of hr
  obtain ⟨t_KEPT_TURNS, g_KEPT_TURNS⟩ := T.g_KEPT_TURNS
  have z_len := T.z_len
  obtain ⟨p, dx, hl, f_, bt, pc, so, hs, hist, rfl, hp, hhl, ht, hn, k⟩ := h
  refine ⟨_, (pss_cons (ps_expr (pe_bm PySem.F.plainAttrs_list PySem.F.slot_list_append PySem.F.type_list_append mt_append (pe_fld (pv 0) rfl) (pa_cons (pe_tup (pa_cons (pv 1) (pa_cons (pv 2) (pa_cons (pv 3) pa_nil)))) pa_nil)))
    (pss_one (ps_if (pt_cmpR op_gt (pe_callB call_len_seq (by rfl) z_len PySem.boot_len (pa_cons (pe_fld (pv 0) rfl) pa_nil)) (pgI g_KEPT_TURNS) (nomark _)) (pss_cons (ps_delL (pe_fld (pv 0) rfl) pe_int)
    (pss_one (ps_fldaug (pv 0) pe_int in_add))) pss_nil))), ?_⟩
  have nf : hl ≠ p := ne_of hhl hp (by intro z; cases z)
  have hl_ := ht.len
  refine ⟨_, rfl, p, CH, dx, _, _, rfl, hp, T.cH, T.nH_rows, hF_rows, .inl ⟨rfl, _, SqL.of hhl⟩, _, rfl, _, rfl, _, rfl, (by show 3 ≤ sizeLine; decide), fun t nt => ?_⟩
  have et := same_upd' (o := .tup [V.int bt, V.str so, V.int pc]) nt
  refine ⟨hl, hs, _, rfl, rfl, et _ _ hhl, Nat.lt_of_le_of_lt (show hs.length ≤ 32 by omega) (by decide), ?_⟩
  have ht1 : HtAt (upd (upd H t (.tup [V.int bt, V.str so, V.int pc])) hl (.lst (hs ++ [.ref t]))) (hs ++ [.ref t]) (hist ++ [(bt, so, pc)]) := HtAt.mono (H := upd H t (.tup [V.int bt, V.str so, V.int pc])) (fun t' xs e => by rw [upd_ne (ne_of e (et _ _ hhl) (by intro z; cases z))]; exact e) (HtAt.snoc (u := (bt, so, pc)) upd_same (ht.mono fun t' xs e => et _ _ e))
  have kp1 : ∀ b o, b ≠ p → b ≠ hl → H b = some o → (upd (upd H t (.tup [V.int bt, V.str so, V.int pc])) hl (.lst (hs ++ [.ref t]))) b = some o := fun b o n1 n2 e => by rw [upd_ne n2]; exact et _ _ e
  have hp1 : (upd (upd H t (.tup [V.int bt, V.str so, V.int pc])) hl (.lst (hs ++ [.ref t]))) p = some (.ins CH dx (hiF hl f_)) := by rw [upd_ne nf.symm]; exact et _ _ hp
  have hl1 : (upd (upd H t (.tup [V.int bt, V.str so, V.int pc])) hl (.lst (hs ++ [.ref t]))) hl = some (.lst (hs ++ [.ref t])) := upd_same
  generalize upd (upd H t (.tup [V.int bt, V.str so, V.int pc])) hl (.lst (hs ++ [.ref t])) = G1 at *
  have el : (hs ++ [V.ref t]).length = hist.length + 1 := by rw [List.length_append, List.length_singleton, hl_]
  refine ⟨_, rfl, p, CH, dx, _, _, rfl, hp1, T.cH, T.nH_rows, hF_rows, hl, _, rfl, .inl (SqL.of hl1), _, _, rfl, rfl, _, rfl, ifB (fun h => ?_) (fun h => ?_)⟩
  · have h32 : 32 < hist.length + 1 := by
      have := of_decide_eq_true h
      rw [el] at this
      omega
    unfold noteHR at k
    rw [if_pos h32] at k
    refine ⟨_, rfl, p, CH, dx, _, _, rfl, hp1, T.cH, T.nH_rows, hF_rows, hl, _, _, 0, rfl, rfl, hl1, by decide, by decide, seqI_first (by rw [el]; omega), ?_⟩
    have hd : (hs ++ [V.ref t]).eraseIdx 0 = (hs ++ [V.ref t]).drop 1 := by
      cases hs <;> rfl
    rw [hd]
    have ht2 : HtAt (upd G1 hl (.lst ((hs ++ [V.ref t]).drop 1))) ((hs ++ [V.ref t]).drop 1) ((hist ++ [(bt, so, pc)]).drop 1) := ht1.tail.mono fun t' xs e => by rw [upd_ne (ne_of e hl1 (by intro z; cases z))]; exact e
    have hp2 : (upd G1 hl (.lst ((hs ++ [V.ref t]).drop 1))) p = some (.ins CH dx (hiF hl f_)) := by rw [upd_ne nf.symm]; exact hp1
    have hl2 : (upd G1 hl (.lst ((hs ++ [V.ref t]).drop 1))) hl = some (.lst ((hs ++ [V.ref t]).drop 1)) := upd_same
    have kp2 : ∀ b o, b ≠ p → b ≠ hl → H b = some o → (upd G1 hl (.lst ((hs ++ [V.ref t]).drop 1))) b = some o := fun b o n1 n2 e => by rw [upd_ne n2]; exact kp1 b o n1 n2 e
    generalize upd G1 hl (.lst ((hs ++ [V.ref t]).drop 1)) = G2 at *
    refine ⟨_, rfl, p, CH, dx, _, _, rfl, hp2, T.cH, T.nH_faded, hF_faded, _, _, rfl, rfl, dx, _, hp2, (by show 2 < 1000; decide), ?_⟩
    rw [hP_faded]
    exact k _ _ (fun b o n1 n2 e => by rw [upd_ne n1]; exact kp2 b o n1 n2 e) upd_same (by rw [upd_ne nf]; exact hl2) (ht2.mono fun t' xs e => by rw [upd_ne (ne_of e hp2 (by intro z; cases z))]; exact e)
  · have h32 : ¬ 32 < hist.length + 1 := by
      have := of_decide_eq_false h
      rw [el] at this
      omega
    unfold noteHR at k
    rw [if_neg h32] at k
    exact k _ _ kp1 hp1 hl1 ht1
abbrev sMnbe : Stmt := inClass (topS 73) 4
def scMnbeN : List Str := ["self", "beats", "to"]
theorem scMnbe : FnScope scMnbeN ["self", "beats", "to"] (defScope sMnbe) := ⟨rfl, rfl, rfl, by decide +kernel, rfl, by decide +kernel, by decide +kernel⟩
theorem ok_Mnbe {f : Addr} {fd : FuncData} (F : Fun K "note_beats" "Counts.note_beats" sMnbe f fd) (T : Ty K mg CB CM CP CK CW CF CH CC CI CS) : FnOk P w K mg base CX0 1 f fd ["self", "beats", "to"] (spNbe CC) := by
  refine F.ok scMnbe (fun vs H Q E h => by obtain ⟨_, _, _, _, _, _, _, _, _, rfl, _⟩ := h; rfl) (fun cdv A outer s H vs Q E hr h => ?_)
  have hu := hu_of hr
  obtain ⟨p, dx, cd, cf, i_, pk, bs, to, l, rfl, hp, hcf, hn, k⟩ := h
  refine ⟨_, (pss_one (ps_dput hu (pe_fld (pv 0) rfl) (pv 2) (pe_op op_add (pe_dget2 hu (pe_fld (pv 0) rfl) (pv 2) pe_int ⟨rfl, rfl, rfl, rfl⟩) (pv 1)) rfl)), ?_⟩
  refine ⟨_, rfl, p, CC, dx, _, _, rfl, hp, T.cC, T.nC_frames, cF_frames, cf, rfl, .inl ⟨_, .inl hcf⟩, _, rfl, _, DGet.k (k := Sum.inl to) hcf, ?_⟩
  rw [spD_get]
  refine ⟨_, rfl, _, _, rfl, rfl, _, rfl, p, CC, dx, _, _, rfl, hp, T.cC, T.nC_frames, cF_frames, _, rfl, cf, _, rfl, DPut.k (k := Sum.inl to) hcf (by rw [spD_len]; exact Nat.lt_trans hn (by decide)), ?_⟩
  rw [spD_put]
  exact k _ (fun b o n e => by rw [upd_ne n]; exact e) upd_same
abbrev sMntu : Stmt := inClass (topS 73) 2
def scMntuN : List Str := ["self", "sort", "pc", "beats", "to", "times", "before"]
theorem scMntu : FnScope scMntuN ["self", "sort", "pc", "beats", "to"] (defScope sMntu) := ⟨rfl, rfl, rfl, by decide +kernel, rfl, by decide +kernel, by decide +kernel⟩
theorem ok_Mntu {f : Addr} {fd : FuncData} {fM_nbe : Addr} {dM_nbe : FuncData} (F : Fun K "note_turn" "Counts.note_turn" sMntu f fd) (T : Ty K mg CB CM CP CK CW CF CH CC CI CS)
    (M_nbe : CalM P w K mg base CC 1 "note_beats" ["self", "beats", "to"] (spNbe CC) fM_nbe dM_nbe) : FnOk P w K mg base CX0 2 f fd ["self", "sort", "pc", "beats", "to"] (spNtu CC) := by
  refine F.ok scMntu (fun vs H Q E h => by obtain ⟨_, _, _, _, _, _, _, _, _, _, _, _, _, rfl, _⟩ := h; rfl) (fun cdv A outer s H vs Q E hr h => ?_)
  have hu := hu_of hr
  obtain ⟨p, dx, cd, cf, i_, pk, pc, bs, to, so, l, kd, ds, rfl, hp, hcf, hcd, hdd, ndf, hn, hm, k⟩ := h
  refine ⟨_, (pss_cons (ps_expr (pe_meth (pv 0) M_nbe.c M_nbe.m M_nbe.G (hr.mono (by decide)) M_nbe.b .nil pass0 (pa_cons (pv 3) (pa_cons (pv 4) pa_nil))))
    (pss_one (ps_if (pt_cmpR op_eq (pv 1) pe_str (nomark _)) (pss_one (ps_fldaug (pv 0) (pv 3) in_add)) (pss_one (ps_if (pt_cmpR op_eq (pv 1) pe_str (nomark _)) (pss_cons (ps_asg (pe_dget2 hu (pe_fld (pv 0) rfl) (pv 2) (pe_tup (pa_cons pe_int (pa_cons pe_int pa_nil))) ⟨rfl, rfl, rfl, rfl⟩) (pg_tup rfl (pgs_cons (pg_name (i := 5) scMntu.nd rfl (.inl rfl)) (pgs_cons (pg_name (i := 6) scMntu.nd rfl (.inl rfl)) pgs_nil))))
    (pss_one (ps_dput hu (pe_fld (pv 0) rfl) (pv 2) (pe_tup (pa_cons (pe_op op_add (pv 5) pe_int) (pa_cons (pe_op op_add (pv 6) (pv 3)) pa_nil))) rfl))) pss_nil))))), ?_⟩
  have npf : p ≠ cf := ne_of hp hcf (by intro z; cases z)
  have npd : p ≠ cd := ne_of hp hcd (by intro z; cases z)
  refine ⟨_, rfl, p, dx, _, rfl, hp, cN_note_beats, _, rfl, _, rfl, p, dx, cd, cf, i_, pk, bs, to, l, rfl, hp, hcf, hn, fun H1 kp1 hcf1 => ?_⟩
  have hp1 := kp1 _ _ npf hp
  have hcd1 := kp1 _ _ ndf hcd
  have hdd1 : DdAt H1 kd ds := hdd.mono fun t xs e => kp1 _ _ (ne_of e hcf (by intro z; cases z)) e
  unfold idleR deedsR at k
  refine ⟨_, rfl, rfl, _, rfl, ifB (fun h => ?_) (fun h => ?_)⟩
  · have es : so = "asleep" := V.str.inj (of_decide_eq_true h)
    subst es
    rw [if_pos rfl, if_neg (show ¬ ("asleep" : Str) = "deed" by decide +kernel)] at k
    refine ⟨_, rfl, p, CC, dx, _, _, rfl, hp1, T.cC, T.nC_idle, cF_idle, _, rfl, _, _, rfl, rfl, dx, _, hp1, (by show 4 < 1000; decide), ?_⟩
    rw [cP_idle]
    exact k _ kd (fun b o n1 n2 n3 e => by rw [upd_ne n1]; exact kp1 _ _ n2 e) upd_same (by rw [upd_ne npf.symm]; exact hcf1) (by rw [upd_ne npd.symm]; exact hcd1) (hdd1.mono fun t xs e => by rw [upd_ne (ne_of e hp1 (by intro z; cases z))]; exact e)
  · rw [if_neg (fun z => of_decide_eq_false h (congrArg V.str z))] at k
    refine ⟨_, rfl, rfl, _, rfl, ifB (fun h2 => ?_) (fun h2 => ?_)⟩
    · rw [if_pos (V.str.inj (of_decide_eq_true h2))] at k
      refine ⟨_, rfl, p, CC, dx, _, _, rfl, hp1, T.cC, T.nC_deeds, cF_deeds, cd, rfl, .inl ⟨_, .inl hcd1⟩, _, rfl, (by show 2 ≤ sizeLine; decide), fun t0 nt0 => ?_⟩
      have s0 := same_upd' (o := .tup [V.int 0, V.int 0]) nt0
      have h0 : upd H1 t0 (.tup [V.int 0, V.int 0]) t0 = some (.tup [V.int 0, V.int 0]) := upd_same
      have kp2 : ∀ b o, b ≠ cf → H b = some o → upd H1 t0 (.tup [V.int 0, V.int 0]) b = some o := fun b o n e => s0 _ _ (kp1 b o n e)
      have hp2 := s0 _ _ hp1
      have hcf2 := s0 _ _ hcf1
      have hcd2 := s0 _ _ hcd1
      have hdd2 := hdd1.mono fun t xs e => s0 _ _ e
      clear s0
      generalize upd H1 t0 (.tup [V.int 0, V.int 0]) = H2 at *
      obtain ⟨t9, e9, h9⟩ : ∃ t9, (valV kd (Sum.inl pc)).getD (V.ref t0) = V.ref t9 ∧ H2 t9 = some (.tup [.int (getA ds pc (0, 0)).1, .int (getA ds pc (0, 0)).2]) := by
        rcases hdd2.get pc with ⟨e1, e2⟩ | ⟨t, e1, e2⟩
        · exact ⟨t0, by rw [e1]; rfl, by rw [e2]; exact h0⟩
        · exact ⟨t, by rw [e1]; rfl, e2⟩
      refine ⟨_, DGet.k (k := Sum.inl pc) hcd2, ?_⟩
      rw [e9]
      refine ⟨t9, _, rfl, SqT.of h9, rfl, _, _, rfl, _, _, rfl, rfl, ?_⟩
      refine ⟨_, rfl, _, _, rfl, rfl, _, rfl, _, rfl, _, _, rfl, rfl, (by show 2 ≤ sizeLine; decide), fun t nt => ?_⟩
      have s3 := same_upd' (o := .tup [V.int ((getA ds pc (0, 0)).1 + 1), V.int ((getA ds pc (0, 0)).2 + bs)]) nt
      have h3 : upd H2 t (.tup [V.int ((getA ds pc (0, 0)).1 + 1), V.int ((getA ds pc (0, 0)).2 + bs)]) t = some (.tup [V.int ((getA ds pc (0, 0)).1 + 1), V.int ((getA ds pc (0, 0)).2 + bs)]) := upd_same
      have kp3 : ∀ b o, b ≠ cf → H b = some o → upd H2 t (.tup [V.int ((getA ds pc (0, 0)).1 + 1), V.int ((getA ds pc (0, 0)).2 + bs)]) b = some o := fun b o n e => s3 _ _ (kp2 b o n e)
      have hp3 := s3 _ _ hp2
      have hcf3 := s3 _ _ hcf2
      have hcd3 := s3 _ _ hcd2
      have hdd3 := hdd2.mono fun t xs e => s3 _ _ e
      clear s3
      generalize upd H2 t (.tup [V.int ((getA ds pc (0, 0)).1 + 1), V.int ((getA ds pc (0, 0)).2 + bs)]) = H3 at *
      have el := hdd3.len
      refine ⟨_, rfl, p, CC, dx, _, _, rfl, hp3, T.cC, T.nC_deeds, cF_deeds, _, rfl, cd, _, rfl, DPut.k (k := Sum.inl pc) hcd3 (Nat.lt_of_le_of_lt (Nat.le_of_eq el) (Nat.lt_trans hm (by decide))), ?_⟩
      have hdd4 : DdAt H3 (putK kd (Sum.inl pc) (.ref t)) (putA ds pc ((getA ds pc (0, 0)).1 + 1, (getA ds pc (0, 0)).2 + bs)) := DdAt.put h3 hdd3
      exact k _ _ (fun b o n1 n2 n3 e => by rw [upd_ne n3]; exact kp3 b o n2 e) (by rw [upd_ne npd]; exact hp3) (by rw [upd_ne ndf.symm]; exact hcf3) upd_same (hdd4.mono fun t' xs e => by rw [upd_ne (ne_of e hcd3 (by intro z; cases z))]; exact e)
    · rw [if_neg (fun z => of_decide_eq_false h2 (congrArg V.str z))] at k
      exact k _ kd (fun b o _ n2 _ e => kp1 _ _ n2 e) hp1 hcf1 hcd1 hdd1
abbrev sMnpk : Stmt := inClass (topS 73) 3
def scMnpkN : List Str := ["self", "to"]
theorem scMnpk : FnScope scMnpkN ["self", "to"] (defScope sMnpk) := ⟨rfl, rfl, rfl, by decide +kernel, rfl, by decide +kernel, by decide +kernel⟩
theorem ok_Mnpk {f : Addr} {fd : FuncData} {fM_nbe : Addr} {dM_nbe : FuncData} (F : Fun K "note_peek" "Counts.note_peek" sMnpk f fd) (T : Ty K mg CB CM CP CK CW CF CH CC CI CS)
    (M_nbe : CalM P w K mg base CC 1 "note_beats" ["self", "beats", "to"] (spNbe CC) fM_nbe dM_nbe) : FnOk P w K mg base CX0 2 f fd ["self", "to"] (spNpk CC) := by
  refine F.ok scMnpk (fun vs H Q E h => by obtain ⟨_, _, _, _, _, _, _, _, rfl, _⟩ := h; rfl) (fun cdv A outer s H vs Q E hr h => ?_)
  have hu := hu_of hr
  obtain ⟨p, dx, cd, cf, i_, pk, to, l, rfl, hp, hcf, hn, k⟩ := h
  refine ⟨_, (pss_cons (ps_expr (pe_meth (pv 0) M_nbe.c M_nbe.m M_nbe.G (hr.mono (by decide)) M_nbe.b .nil pass0 (pa_cons pe_int (pa_cons (pv 1) pa_nil))))
    (pss_one (ps_fldaug (pv 0) pe_int in_add))), ?_⟩
  have npf : p ≠ cf := ne_of hp hcf (by intro z; cases z)
  refine ⟨_, rfl, p, dx, _, rfl, hp, cN_note_beats, _, rfl, p, dx, cd, cf, i_, pk, 1, to, l, rfl, hp, hcf, hn, fun H1 kp1 hcf1 => ?_⟩
  have hp1 := kp1 _ _ npf hp
  refine ⟨_, rfl, p, CC, dx, _, _, rfl, hp1, T.cC, T.nC_peeked, cF_peeked, _, _, rfl, rfl, dx, _, hp1, (by show 4 < 1000; decide), ?_⟩
  rw [cP_peeked]
  exact k _ (fun b o n1 n2 e => by rw [upd_ne n1]; exact kp1 _ _ n2 e) upd_same (by rw [upd_ne npf.symm]; exact hcf1)
abbrev sMmet : Stmt := inClass (topS 93) 5
def scMmetN : List Str := ["self", "touches", "kind", "address", "number", "row"]
theorem scMmet : FnScope scMmetN ["self", "touches"] (defScope sMmet) := ⟨rfl, rfl, rfl, by decide +kernel, rfl, by decide +kernel, by decide +kernel⟩
theorem ok_Mmet {f : Addr} {fd : FuncData} (F : Fun K "met" "Watches.met" sMmet f fd) (T : Ty K mg CB CM CP CK CW CF CH CC CI CS) : FnOk P w K mg base CX0 1 f fd ["self", "touches"] (spMet CW) := by
  refine F.ok scMmet (fun vs H Q E h => by obtain ⟨_, _, _, _, _, _, _, _, rfl, _⟩ := h; rfl) (fun cdv A outer s H vs Q E hr h => ?_)
  have hu := hu_of hr
  have z_enumerate := T.z_enumerate
  obtain ⟨p, dx, wr, tl, wv, us, rows, ts, rfl, hp, hwr, hwt, hkd, htl, htu, k⟩ := h
  refine ⟨_, (pss_cons (ps_for PassesOwn.never rfl (pi_list (pv 1)) (pg_tup rfl (pgs_cons (pg_name (i := 2) scMmet.nd rfl (.inl rfl)) (pgs_cons (pg_name (i := 3) scMmet.nd rfl (.inl rfl)) pgs_nil)))
      (pss_one (ps_for PassesOwn.never rfl (pi_enum (by rfl) z_enumerate (pa_cons (pe_fld (pv 0) rfl) pa_nil)) (pg_tup rfl (pgs_cons (pg_name (i := 4) scMmet.nd rfl (.inl rfl)) (pgs_cons (pg_name (i := 5) scMmet.nd rfl (.inl rfl)) pgs_nil)))
      (pss_one (ps_if (PW.pt (pw_and (pt_cmp (pc_notN (pv 5))) (pw_and (pt_chain op_le op_le (pe_ix ix_tup (pv 5) pe_int (fun _ _ => rfl)) (pv 3) (pe_ix ix_tup (pv 5) pe_int (fun _ _ => rfl))) (pw_and1 (pt_cmpR op_in_str (pv 2) (pe_ix ix_tup (pv 5) pe_int (fun _ _ => rfl)) (by rfl)))))) (pss_one (ps_ret (pe_tup (pa_cons pe_str (pa_cons (pv 4) (pa_cons (pv 3) (pa_cons (pv 2) pa_nil))))))) pss_nil)))))
    (pss_one (ps_ret pe_non))), ?_⟩
  refine ⟨_, rfl, tl, rfl, ⟨_, SqL.of htl⟩, ?_⟩
  refine for_list (K := K) (a := tl) (xs := us) (fun i σ H' => Same H H' ∧ metM rows (ts.drop i) = metM rows ts ∧ ∃ y2 y3 y4 y5 : Option V, σ = [some (.ref p), some (.ref tl), y2, y3, y4, y5]) ⟨fun _ _ e => e, rfl, none, none, none, none, rfl⟩ (fun i σ H' _ h => SqL.of (h.1 _ _ htl)) ?_ ?_
  · rintro i v σ H1 hv ⟨s1, em, y2, y3, y4, y5, rfl⟩
    obtain ⟨q, t, rfl, e1, e2⟩ := TouAt.get htu hv
    have hil : i < ts.length := (List.getElem?_eq_some_iff.mp e1).1
    have hd : ts.drop i = t :: ts.drop (i + 1) := by
      rw [List.drop_eq_getElem_cons hil]
      have : ts[i] = t := Option.some.inj ((List.getElem?_eq_getElem hil).symm.trans e1)
      rw [this]
    rw [hd] at em
    refine ⟨q, _, rfl, SqT.of (s1 _ _ e2), rfl, _, _, rfl, _, _, rfl, rfl, ?_⟩
    refine ⟨_, rfl, p, CW, dx, _, _, rfl, (s1 _ _ hp), T.cW, T.nW_rows, wF_rows, wr, _, rfl, SqL.of (s1 _ _ hwr), ?_⟩
    have hwl := hwt.len
    refine for_enum (K := K) (a := wr) (xs := wv) (fun j σ H' => Same H H' ∧ hitM t j (rows.drop j) = hitM t 0 rows ∧ ∃ y4 y5 : Option V, σ = [some (.ref p), some (.ref tl), some (.str (kS t.1)), some (.int t.2), y4, y5]) ⟨s1, rfl, y4, y5, rfl⟩ (fun j σ H' _ h => SqL.of (h.1 _ _ hwr)) ?_ ?_
    · rintro j x T_ σ H2 hj nT ⟨s2, eh, z4, z5, rfl⟩
      obtain ⟨r, hr_, hx⟩ := hwt.get hj
      have hjl : j < rows.length := (List.getElem?_eq_some_iff.mp hr_).1
      have hdr : rows.drop j = r :: rows.drop (j + 1) := by
        rw [List.drop_eq_getElem_cons hjl]
        have : rows[j] = r := Option.some.inj ((List.getElem?_eq_getElem hjl).symm.trans hr_)
        rw [this]
      rw [hdr] at eh
      have s3 := same_upd' (o := .tup [V.int (j : Nat), x]) nT
      have s4 := s2.trans s3
      have hTT : upd H2 T_ (.tup [V.int (j : Nat), x]) T_ = some (.tup [V.int (j : Nat), x]) := upd_same
      generalize upd H2 T_ (.tup [V.int (j : Nat), x]) = H3 at *
      refine ⟨T_, _, rfl, SqT.of hTT, rfl, _, _, rfl, _, _, rfl, rfl, ?_⟩
      refine ⟨_, rfl, _, rfl, ?_⟩
      have miss : hits r t = false → hitM t (j + 1) (rows.drop (j + 1)) = hitM t 0 rows := fun hh => by
        rw [← eh]
        show _ = if hits r t = true then some j else hitM t (j + 1) (rows.drop (j + 1))
        rw [hh, if_neg Bool.false_ne_true]
      cases r with
      | none =>
        have hx : x = .non := hx
        subst hx
        refine ifN (fun h => absurd rfl (of_decide_eq_false h)) (fun _ => ?_)
        exact ⟨s4, miss rfl, _, _, rfl⟩
      | some u =>
        obtain ⟨t9, rfl, ht9⟩ := hx
        have ht9 := s4 _ _ ht9
        have hk9 := hkd u (List.mem_of_getElem? hr_)
        have hms : hits (some u) t = (decide (u.1 ≤ t.2 ∧ t.2 ≤ u.2.1) && kinB t.1 u.2.2) := rfl
        refine ifN (fun _ => ?_) (fun h => by cases of_decide_eq_true h)
        refine ⟨_, rfl, t9, _, 0, _, rfl, rfl, SqT.of ht9, atI_nat (j := 0) rfl, _, rfl, _, _, rfl, rfl, _, rfl, ifB (fun a1 => ?_) (fun a1 => ?_)⟩
        · refine ⟨_, rfl, t9, _, 1, _, rfl, rfl, SqT.of ht9, atI_nat (j := 1) rfl, _, _, rfl, rfl, _, rfl, ifB (fun a2 => ?_) (fun a2 => ?_)⟩
          · have a1 := of_decide_eq_true a1
            have a2 := of_decide_eq_true a2
            rw [decide_eq_true (⟨a1, a2⟩ : u.1 ≤ t.2 ∧ t.2 ≤ u.2.1), Bool.true_and] at hms
            refine ⟨_, rfl, _, rfl, t9, _, 2, _, rfl, rfl, SqT.of ht9, atI_nat (j := 2) rfl, _, _, rfl, rfl, _, rfl, ?_⟩
            rw [kin_eq t.1 hk9]
            refine ifB (fun a3 => ?_) (fun a3 => ?_)
            · rw [a3] at hms
              have e5 : hitM t 0 rows = some j := by
                rw [← eh]
                exact if_pos hms
              have e6 : metM rows ts = some (j, t) := by
                rw [← em]
                show (match hitM t 0 rows with | some n => some (n, t) | none => metM rows (ts.drop (i + 1))) = _
                rw [e5]
              rw [e6] at k
              refine ⟨_, rfl, _, rfl, _, rfl, (by show 4 ≤ sizeLine; decide), fun tq nq => ?_⟩
              exact k _ (.ref tq) (s4.trans (same_upd' nq)) ⟨tq, rfl, upd_same⟩
            · rw [a3] at hms
              exact ⟨s4, miss hms, _, _, rfl⟩
          · refine ⟨s4, miss ?_, _, _, rfl⟩
            rw [hms, decide_eq_false (fun z => of_decide_eq_false a2 z.2), Bool.false_and]
        · refine ⟨_, rfl, s4, miss ?_, _, _, rfl⟩
          rw [hms, decide_eq_false (fun z => of_decide_eq_false a1 z.1), Bool.false_and]
    · rintro σ H2 ⟨s2, eh, z4, z5, rfl⟩
      rw [hwl, List.drop_length] at eh
      refine ⟨s2, ?_, _, _, _, _, rfl⟩
      rw [← em]
      show _ = match hitM t 0 rows with | some n => some (n, t) | none => metM rows (ts.drop (i + 1))
      rw [← eh]
      rfl
  · rintro σ H1 ⟨s1, em, y2, y3, y4, y5, rfl⟩
    rw [htu.len, List.drop_length] at em
    rw [← em] at k
    exact k _ .non s1 rfl
abbrev sMbnd : Stmt := inClass (topS 87) 3
def scMbndN : List Str := ["self", "beat", "row"]
theorem scMbnd : FnScope scMbndN ["self", "beat"] (defScope sMbnd) := ⟨rfl, rfl, rfl, by decide +kernel, rfl, by decide +kernel, by decide +kernel⟩
theorem ok_Mbnd {f : Addr} {fd : FuncData} (F : Fun K "bending" "Mishaps.bending" sMbnd f fd) (T : Ty K mg CB CM CP CK CW CF CH CC CI CS) : FnOk P w K mg base CX0 1 f fd ["self", "beat"] (spBnd CI) := by
  refine F.ok scMbnd (fun vs H Q E h => by obtain ⟨_, _, _, _, _, rfl, _⟩ := h; rfl) (fun cdv A outer s H vs Q E hr h => ?_)
  have hu := hu_of hr
  obtain ⟨p, dx, ml, mr, bt, rfl, hp, hml, k⟩ := h
  refine ⟨_, (pss_cons (ps_for PassesOwn.never rfl (pi_list (pe_fld (pv 0) rfl)) (pg_name (i := 2) scMbnd.nd rfl (.inl rfl))
      (pss_one (ps_if (PW.pt (pw_and (pt_cmpR op_eq (pe_ix ix_list (pv 2) pe_int (fun _ _ => rfl)) pe_str (nomark _)) (pw_and1 (pt_cmpR op_le (pe_ix ix_list (pv 2) pe_int (fun _ _ => rfl)) (pv 1) (nomark _))))) (pss_one (ps_ret (pv 2))) pss_nil)))
    (pss_one (ps_ret pe_non))), ?_⟩
  refine ⟨_, rfl, p, CI, dx, _, _, rfl, hp, T.cI, T.nI_rows, iF_rows, ml, rfl, ⟨_, SqL.of hml⟩, ?_⟩
  refine for_list (K := K) (a := ml) (xs := []) (fun i σ H' => H' = H) rfl (fun i σ H' _ h => by rw [h]; exact SqL.of hml) (fun i v σ H' hv _ => by cases hv) ?_
  rintro σ H' rfl
  exact k
abbrev sMdue : Stmt := inClass (topS 87) 4
def scMdueN : List Str := ["self", "beat", "row"]
theorem scMdue : FnScope scMdueN ["self", "beat"] (defScope sMdue) := ⟨rfl, rfl, rfl, by decide +kernel, rfl, by decide +kernel, by decide +kernel⟩
theorem ok_Mdue {f : Addr} {fd : FuncData} (F : Fun K "due" "Mishaps.due" sMdue f fd) (T : Ty K mg CB CM CP CK CW CF CH CC CI CS) : FnOk P w K mg base CX0 1 f fd ["self", "beat"] (spDue CI) := by
  refine F.ok scMdue (fun vs H Q E h => by obtain ⟨_, _, _, _, _, rfl, _⟩ := h; rfl) (fun cdv A outer s H vs Q E hr h => ?_)
  have hu := hu_of hr
  obtain ⟨p, dx, ml, mr, bt, rfl, hp, hml, k⟩ := h
  refine ⟨_, (pss_one (ps_ret (pe_lc (own := [("row", 2)]) (g := gName 2) (by rfl) scMdue.nd (pi_list (pe_fld (pv 0) rfl)) (blkOk_by (own := [("row", 2)]) (N := scMdueN) (sc := defScope sMdue) (by decide +kernel)) (fun _ _ _ _ _ => (pg_name (i := 2) scMdue.nd rfl (.inl rfl))) (fun _ _ _ _ _ => (pts_one (PW.pt (pw_and (pt_cmpR op_ne (pe_ix (ix_listK (K := K)) (pv 2) pe_int (fun _ _ => rfl)) pe_str (nomark _)) (pw_and1 (pt_cmpR op_le (pe_ix (ix_listK (K := K)) (pv 2) pe_int (fun _ _ => rfl)) (pv 1) (nomark _))))))) (fun _ _ _ _ _ => (pv 2))))), ?_⟩
  refine ⟨_, rfl, p, CI, dx, _, _, rfl, hp, T.cI, T.nI_rows, iF_rows, ml, rfl, ⟨_, SqL.of hml⟩, fun D nD => ?_⟩
  refine lc_list (K := K) (a := ml) (xs := []) (fun i H' => H' = upd H D (.lst [])) rfl (fun i H' _ h => by rw [h]; exact SqL.of (same_upd' nD _ _ hml)) (fun i v H' hv _ => by cases hv) ?_
  rintro H' rfl
  exact k _ D (same_upd' nD) nD upd_same
abbrev sMsta : Stmt := inClass (topS 81) 2
def scMstaN : List Str := ["self", "address"]
theorem scMsta : FnScope scMstaN ["self", "address"] (defScope sMsta) := ⟨rfl, rfl, rfl, by decide +kernel, rfl, by decide +kernel, by decide +kernel⟩
theorem ok_Msta {f : Addr} {fd : FuncData} (F : Fun K "stands_at" "Marks.stands_at" sMsta f fd) (T : Ty K mg CB CM CP CK CW CF CH CC CI CS) : FnOk P w K mg base CX0 1 f fd ["self", "address"] (spSta CK CM) := by
  refine F.ok scMsta (fun vs H Q E h => by obtain ⟨_, _, _, _, _, _, _, _, _, _, _, rfl, _⟩ := h; rfl) (fun cdv A outer s H vs Q E hr h => ?_)
  have hu := hu_of hr
  obtain ⟨p, dk, m, dm, hd, er, ww, s_, a_, hs_, sw, rfl, hp, hhd, hm, hs, k⟩ := h
  refine ⟨_, (pss_one (ps_ret (pe_or (pe_cmp (pc_din hu (pv 1) (pe_fld (pv 0) rfl))) (pe_one (pe_cmp (pc_din hu (pv 1) (pe_fld (pe_fld (pv 0) rfl) rfl))))))), ?_⟩
  refine ⟨_, rfl, _, rfl, p, CK, dk, _, _, rfl, hp, T.cK, T.nK_hard, kF_hard, hd, _, rfl, DGet.k (k := Sum.inl a_) hhd, _, rfl, ?_⟩
  rw [swD_some]
  refine ifB (fun h => ?_) (fun h => ?_)
  · rw [h] at k
    exact k
  rw [h, Bool.false_or] at k
  refine ⟨_, rfl, _, rfl, p, CK, dk, _, _, rfl, hp, T.cK, T.nK_memory, kF_memory, m, CM, dm, _, _, rfl, hm, T.cM, T.n_swapped, mF_s, s_, _, rfl, DGet.k (k := Sum.inl a_) hs, ?_⟩
  rw [swD_some]
  exact k
end
end Bh

/-! Words stay words: nothing becomes less than nought; how much is sent in a turn. -/
namespace Bh
open PySem PySem.Spec PyProof.Rows L2
theorem and_natN (x y : Nat) : Builtin.bitAnd (x : Int) (y : Int) = ((x &&& y : Nat) : Int) := by
  unfold Builtin.bitAnd
  rw [decide_eq_true (by omega), decide_eq_true (by omega)]
  rfl
theorem or_natN (x y : Nat) : Builtin.bitOr (x : Int) (y : Int) = ((x ||| y : Nat) : Int) := by
  unfold Builtin.bitOr Builtin.bitAnd Builtin.bitNot
  rw [decide_eq_false (by omega), decide_eq_false (by omega)]
  simp only
  have e1 : (-(-(x : Int) - 1) - 1).toNat = x := by omega
  have e2 : (-(-(y : Int) - 1) - 1).toNat = y := by omega
  rw [e1, e2]
  omega
theorem and_ge {x : Int} (y : Int) (hx : 0 ≤ x) : 0 ≤ Builtin.bitAnd x y := by
  unfold Builtin.bitAnd
  rw [decide_eq_true hx]
  by_cases h : 0 ≤ y
  · rw [decide_eq_true h]
    show (0 : Int) ≤ ((x.toNat &&& y.toNat : Nat) : Int)
    omega
  · rw [decide_eq_false h]
    show (0 : Int) ≤ x - ((x.toNat &&& (Builtin.bitNot y).toNat : Nat) : Int)
    have := Nat.and_le_left (n := x.toNat) (m := (Builtin.bitNot y).toNat)
    omega
theorem or_ge {x y : Int} (hx : 0 ≤ x) (hy : 0 ≤ y) : 0 ≤ Builtin.bitOr x y := by
  rw [← Int.toNat_of_nonneg hx, ← Int.toNat_of_nonneg hy, or_natN]
  omega
theorem xor_ge {x y : Int} (hx : 0 ≤ x) (hy : 0 ≤ y) : 0 ≤ Builtin.bitXor x y := by
  unfold Builtin.bitXor
  rw [← Int.toNat_of_nonneg hx, ← Int.toNat_of_nonneg hy, or_natN, and_natN]
  have h1 := Nat.and_le_left (n := x.toNat) (m := y.toNat)
  have h2 := Nat.left_le_or (n := x.toNat) (m := y.toNat)
  omega
def Mge (m : List Int) : Prop := ∀ j : Int, 0 ≤ rd m j
theorem Mge.st {m : List Int} (h : Mge m) {i v : Int} (hv : 0 ≤ v) : Mge (stM m i v) := fun j => by
  have h0 := h j
  unfold rd stM at *
  rw [List.getD_eq_getElem?_getD] at h0 ⊢
  rw [List.getElem?_set]
  split
  · split
    · exact hv
    · exact Int.le_refl 0
  · exact h0
theorem mge_of {m : List Int} (h : ∀ w ∈ m, 0 ≤ w) : Mge m := fun j => by
  unfold rd
  rw [List.getD_eq_getElem?_getD]
  cases e : m[j.toNat]? with
  | none => exact Int.le_refl 0
  | some w => exact h w (List.mem_of_getElem? e)
structure NN (x : Bd) : Prop where
  a : 0 ≤ x.a
  b : 0 ≤ x.b
  p : 0 ≤ x.pc
  m : Mge x.mem
  l : ∀ u ∈ x.line, 0 ≤ u.2
  bn : 0 ≤ x.bend
theorem Mge.takeLine {m : List Int} (h : Mge m) {v : Int} (hv : 0 ≤ v) : Mge (takeLineM v m) := by
  have h1 := h.st (i := 772) hv
  unfold takeLineM
  split
  · exact h1.st (or_ge (h1 770) (by decide))
  · exact h1
theorem Mge.goTimer {m : List Int} (h : Mge m) : Mge (goTimerM m) := by
  unfold goTimerM
  split
  · exact h
  · split
    · exact (h.st (or_ge (h 770) (by decide))).st (Int.le_refl 0)
    · exact h.st (by have := h 768; omega)
theorem Mge.putM {m : List Int} (h : Mge m) {a v : Int} (hv : 0 ≤ v) : Mge (putMM a v m) := by
  unfold putMM
  split
  · exact h.st (and_ge _ (h 770))
  · exact h.st hv
theorem NN.come {x : Bd} (h : NN x) : NN (comeM x) := by
  unfold comeM
  split
  · rename_i z
    refine { h with m := h.m.takeLine ?_ }
    obtain ⟨z1, _⟩ := z
    rw [List.getD_eq_getElem?_getD, List.getElem?_eq_getElem z1]
    exact h.l _ (List.getElem_mem z1)
  · exact h
theorem NN.one {x : Bd} (h : NN x) : NN (passOneM x) := by
  have h1 : NN { x with beat := x.beat + 1 } := { h with }
  have h2 := h1.come
  exact { h2 with m := h2.m.goTimer }
theorem NN.pass : ∀ (n : Nat) {x : Bd}, NN x → NN (passM n x)
  | 0, _, h => h
  | n + 1, _, h => NN.pass n h.one
theorem NN.put {x : Bd} (h : NN x) {a v : Int} (hv : 0 ≤ v) : NN (putWM a v x) := by
  unfold putWM sendM
  split
  · exact { h with m := h.m.putM hv }
  · exact { h with m := h.m.putM hv }
theorem NN.putT {x : Bd} (h : NN x) {a v : Int} (hv : 0 ≤ v) : NN (putTM a v x) := by
  have h1 : NN { x with sw := x.sw.filter fun i => decide (i ≠ a) } := { h with }
  exact h1.put hv
theorem rdS_ge {m : List Int} (h : Mge m) (sw : List Int) (i pc : Int) : 0 ≤ rdS m sw i pc := by
  unfold rdS
  split
  · exact Int.le_refl 0
  · exact h i
theorem reads_ge {m : List Int} (h : Mge m) (sw : List Int) (pc : Int) (ts : List (Bool × Int)) : ∀ w ∈ readsM m sw pc ts, 0 ≤ w := fun w hw => by
  unfold readsM at hw
  obtain ⟨t, _, rfl⟩ := List.mem_map.mp hw
  exact rdS_ge h sw _ _
theorem words_ge {x : Bd} (h : NN x) (i : Nat) : 0 ≤ (wordsM x).getD i 0 := by
  have hw : ∀ w ∈ wordsM x, 0 ≤ w := by
    have hr := reads_ge h.m x.sw x.pc (toM x)
    unfold wordsM rawM
    generalize readsM x.mem x.sw x.pc (toM x) = l at *
    cases l with
    | nil => exact fun w z => by cases z
    | cons w0 r =>
      intro w z
      rcases List.mem_cons.mp z with z | z
      · rw [z]
        exact xor_ge (hr w0 List.mem_cons_self) h.bn
      · exact hr w (List.mem_cons_of_mem _ z)
  rw [List.getD_eq_getElem?_getD]
  cases e : (wordsM x)[i]? with
  | none => exact Int.le_refl 0
  | some w => exact hw w (List.mem_of_getElem? e)
theorem bent_ge {x : Bd} (h : NN x) : 0 ≤ bentM x := by
  unfold bentM
  split
  · exact h.bn
  · exact Int.le_refl 0
theorem NN.give {x : Bd} (h : NN x) {v : Int} (hv : 0 ≤ v) : NN (giveM v x) := { h with a := hv }
theorem NN.doM {x : Bd} (h : NN x) {op : Nat} {n : Int} (hn : 0 ≤ n) {ws : List Int} (hw : ∀ i, 0 ≤ ws.getD i 0) : NN (Bh.doM op n ws x) := by
  unfold Bh.doM
  split
  · exact h.give hn
  · exact h.give (hw 0)
  · exact h.putT h.a
  · exact h.give (Int.emod_nonneg _ (by decide))
  · exact h.give (Int.emod_nonneg _ (by decide))
  · exact h.give (and_ge _ h.a)
  · exact h.give (xor_ge h.a (hw 0))
  · exact h.give (hw 0)
  · exact h.putT h.a
  · exact { h with b := h.a }
  · exact { h.give h.b with b := h.a }
  · exact { h with p := hn }
  · split
    · exact { h with p := hn }
    · exact h
  · split
    · exact { h with p := hn }
    · exact h
  · exact { h.putT h.p with p := hn }
  · exact { h with p := hw 0 }
  · exact { h.putT h.a with }
  · have h1 : NN { x with sp := x.sp + 1 } := { h with }
    exact h1.give (hw 0)
  · exact { h with }
  · exact { h with }
  · exact { h with p := hw 1 }
  · exact h.give (Int.ediv_nonneg h.a (by decide))
  · exact h
theorem NN.deed {x : Bd} (h : NN x) : NN (deedM x).2 := by
  rcases deed_cases x with ⟨w, ns, e⟩ | e
  · rw [e]
    exact { h with }
  · rw [e]
    have h1 : NN { x with pc := x.pc + 1, bend := bentM x } := { h with p := by have := h.p; show 0 ≤ x.pc + 1; omega, bn := bent_ge h }
    exact NN.pass _ (h1.doM (Int.emod_nonneg _ (by decide)) (words_ge h))
theorem NN.int {x : Bd} (h : NN x) : NN (intM x).2 := by
  unfold intM
  split
  · exact { h with }
  · have h1 : NN (putTM (x.sp - 1) (b2n x.zero) (putTM x.sp x.pc x)) := (h.putT h.p).putT (by unfold b2n; split <;> decide)
    refine NN.pass 3 { h1 with p := ?_ }
    show (0 : Int) ≤ if Builtin.bitAnd (calledM x) 1 ≠ 0 then 1 else 2
    split <;> decide
theorem NN.turn {x : Bd} (h : NN x) : NN (turnM x).2 := by
  unfold turnM
  split
  · exact h
  · split
    · exact h.pass 1
    · split
      · exact NN.int { h with }
      · exact NN.deed { h with }
theorem NN.ok {x : Bd} (h : NN x) : PcOk x := fun _ _ => h.m _
theorem NN.tvd {x : Bd} (h : NN x) (T D : V) : NN (x.tvd T D) := { h with }
theorem come_sent (x : Bd) : (comeM x).sent = x.sent := by
  unfold comeM
  split <;> rfl
theorem pass_sent : ∀ (n : Nat) (x : Bd), (passM n x).sent = x.sent
  | 0, _ => rfl
  | n + 1, x => by
    show (passM n (passOneM x)).sent = x.sent
    rw [pass_sent n]
    exact come_sent { x with beat := x.beat + 1 }
theorem do_sent (op : Nat) (n : Int) (ws : List Int) (x : Bd) : (doM op n ws x).sent.length ≤ x.sent.length + 1 := by
  unfold doM
  split
  all_goals first
    | exact Nat.le_succ _
    | exact putTM_sent _ _ x
    | (split <;> exact Nat.le_succ _)
theorem turn_sent (x : Bd) : (turnM x).2.sent.length ≤ x.sent.length + 2 := by
  unfold turnM
  split
  · exact Nat.le_add_right _ _
  · split
    · rw [show ((("asleep" : Str), passM 1 x).2).sent = x.sent from pass_sent 1 x]
      exact Nat.le_add_right _ _
    · split
      · unfold intM
        split
        · exact Nat.le_add_right _ _
        · show (passM 3 _).sent.length ≤ _
          rw [pass_sent]
          have h1 := putTM_sent x.sp x.pc { x with asleep := false }
          have h2 := putTM_sent (x.sp - 1) (b2n x.zero) (putTM x.sp x.pc { x with asleep := false })
          exact Nat.le_trans h2 (Nat.succ_le_succ h1)
      · rcases deed_cases { x with asleep := false } with ⟨w, ns, e⟩ | e
        · rw [e]
          exact Nat.le_add_right _ _
        · rw [e]
          show (passM _ _).sent.length ≤ _
          rw [pass_sent]
          exact Nat.le_succ_of_le (do_sent _ _ _ _)
/-- what a turn leaves: where the memory's objects stand -/
theorem come_ma (x : Bd) : (comeM x).ma = x.ma ∧ (comeM x).sa = x.sa := by
  unfold comeM
  split <;> exact ⟨rfl, rfl⟩
theorem pass_ma : ∀ (n : Nat) (x : Bd), (passM n x).ma = x.ma ∧ (passM n x).sa = x.sa
  | 0, _ => ⟨rfl, rfl⟩
  | n + 1, x => by
    obtain ⟨h1, h2⟩ := pass_ma n (passOneM x)
    obtain ⟨h3, h4⟩ := come_ma { x with beat := x.beat + 1 }
    exact ⟨h1.trans h3, h2.trans h4⟩
theorem put_ma (a v : Int) (x : Bd) : (putWM a v x).ma = x.ma ∧ (putWM a v x).sa = x.sa := by
  unfold putWM sendM
  split <;> exact ⟨rfl, rfl⟩
theorem putT_ma (a v : Int) (x : Bd) : (putTM a v x).ma = x.ma ∧ (putTM a v x).sa = x.sa := put_ma a v _
theorem do_ma (op : Nat) (n : Int) (ws : List Int) (x : Bd) : (doM op n ws x).ma = x.ma ∧ (doM op n ws x).sa = x.sa := by
  unfold doM
  split
  all_goals first
    | exact ⟨rfl, rfl⟩
    | exact putT_ma _ _ x
    | (split <;> exact ⟨rfl, rfl⟩)
theorem turn_ma (x : Bd) : (turnM x).2.ma = x.ma ∧ (turnM x).2.sa = x.sa := by
  unfold turnM
  split
  · exact ⟨rfl, rfl⟩
  · split
    · exact pass_ma 1 x
    · split
      · unfold intM
        split
        · exact ⟨rfl, rfl⟩
        · obtain ⟨h1, h2⟩ := putT_ma x.sp x.pc { x with asleep := false }
          obtain ⟨h3, h4⟩ := putT_ma (x.sp - 1) (b2n x.zero) (putTM x.sp x.pc { x with asleep := false })
          obtain ⟨h5, h6⟩ := pass_ma 3 { putTM (x.sp - 1) (b2n x.zero) (putTM x.sp x.pc { x with asleep := false }) with sp := x.sp - 2, lets := false, pc := if Builtin.bitAnd (calledM x) 1 ≠ 0 then 1 else 2 }
          exact ⟨h5.trans (h3.trans h1), h6.trans (h4.trans h2)⟩
      · rcases deed_cases { x with asleep := false } with ⟨w, ns, e⟩ | e
        · rw [e]
          exact ⟨rfl, rfl⟩
        · rw [e]
          obtain ⟨h1, h2⟩ := do_ma (opM x) (xM x) (wordsM { x with asleep := false }) { x with asleep := false, pc := x.pc + 1, bend := bentM { x with asleep := false } }
          obtain ⟨h3, h4⟩ := pass_ma (1 + (toM x).length) (doM (opM x) (xM x) (wordsM { x with asleep := false }) { x with asleep := false, pc := x.pc + 1, bend := bentM { x with asleep := false } })
          exact ⟨h3.trans h1, h4.trans h2⟩
/-! ### swapped words, bent ones -/
theorem come_sw (x : Bd) : (comeM x).sw = x.sw ∧ (comeM x).bend = x.bend := by
  unfold comeM
  split <;> exact ⟨rfl, rfl⟩
theorem pass_sw : ∀ (n : Nat) (x : Bd), (passM n x).sw = x.sw ∧ (passM n x).bend = x.bend
  | 0, _ => ⟨rfl, rfl⟩
  | n + 1, x => by
    obtain ⟨h1, h2⟩ := pass_sw n (passOneM x)
    obtain ⟨h3, h4⟩ := come_sw { x with beat := x.beat + 1 }
    exact ⟨h1.trans h3, h2.trans h4⟩
theorem put_sw (a v : Int) (x : Bd) : (putWM a v x).sw = x.sw ∧ (putWM a v x).bend = x.bend := by
  unfold putWM sendM
  split <;> exact ⟨rfl, rfl⟩
theorem putT_sw (a v : Int) (x : Bd) : (putTM a v x).sw = (x.sw.filter fun i => decide (i ≠ a)) ∧ (putTM a v x).bend = x.bend := put_sw a v _
theorem filt_le (a : Int) (l : List Int) : (l.filter fun i => decide (i ≠ a)).Sublist l := List.filter_sublist
theorem do_sw (op : Nat) (n : Int) (ws : List Int) (x : Bd) : (doM op n ws x).sw.Sublist x.sw ∧ (doM op n ws x).bend = x.bend := by
  have hp : ∀ a v, (putTM a v x).sw.Sublist x.sw ∧ (putTM a v x).bend = x.bend := fun a v => by
    obtain ⟨h1, h2⟩ := putT_sw a v x
    rw [h1]
    exact ⟨filt_le _ _, h2⟩
  unfold doM
  split
  all_goals first
    | exact ⟨List.Sublist.refl _, rfl⟩
    | exact hp _ _
    | (split <;> exact ⟨List.Sublist.refl _, rfl⟩)
theorem turn_sw (x : Bd) : (turnM x).2.sw.Sublist x.sw := by
  unfold turnM
  split
  · exact List.Sublist.refl _
  · split
    · show (passM 1 x).sw.Sublist x.sw
      rw [(pass_sw 1 x).1]
      exact List.Sublist.refl _
    · split
      · unfold intM
        split
        · exact List.Sublist.refl _
        · show (passM 3 _).sw.Sublist x.sw
          rw [(pass_sw 3 _).1]
          show (putTM (x.sp - 1) (b2n x.zero) (putTM x.sp x.pc { x with asleep := false })).sw.Sublist x.sw
          rw [(putT_sw _ _ _).1, (putT_sw _ _ _).1]
          exact (filt_le _ _).trans (filt_le _ _)
      · rcases deed_cases { x with asleep := false } with ⟨w, ns, e⟩ | e
        · rw [e]
          exact List.Sublist.refl _
        · rw [e]
          show (passM _ _).sw.Sublist x.sw
          rw [(pass_sw _ _).1]
          exact (do_sw _ _ _ _).1
theorem turn_bend {x : Bd} (h : x.bend = 0) : (turnM x).2.bend = 0 := by
  unfold turnM
  split
  · exact h
  · split
    · show (passM 1 x).bend = 0
      rw [(pass_sw 1 x).2]
      exact h
    · split
      · unfold intM
        split
        · exact h
        · show (passM 3 _).bend = 0
          rw [(pass_sw 3 _).2]
          show (putTM (x.sp - 1) (b2n x.zero) (putTM x.sp x.pc { x with asleep := false })).bend = 0
          rw [(putT_sw _ _ _).2, (putT_sw _ _ _).2]
          exact h
      · rcases deed_cases { x with asleep := false } with ⟨w, ns, e⟩ | e
        · rw [e]
          exact h
        · rw [e]
          show (passM _ _).bend = 0
          rw [(pass_sw _ _).2, (do_sw _ _ _ _).2]
          show bentM { x with asleep := false } = 0
          unfold bentM
          split
          · exact h
          · rfl
end Bh

/-! A probe in the heap. -/
namespace Bh
open PySem PySem.Spec PyProof.Rows L2
/-- where a probe's things stand -/
structure Ap where
  dx : Addr
  bd : Addr
  A : Ad
  ts : List V
  ls : List V
  st : Addr
  dk : Addr
  hd : Addr
  er : Addr
  wa : Addr
  dw : Addr
  wr : Addr
  fr : Addr
  df : Addr
  fl : Addr
  hi : Addr
  dh : Addr
  hl : Addr
  co : Addr
  dc : Addr
  cd : Addr
  cf : Addr
  mi : Addr
  dm : Addr
  ml : Addr
  mr : Addr
  sd : Addr
  us : List V
  hs : List V
  kd : List (Key × V)
  wv : List V
def Ap.own (p : Addr) (a : Ap) : List Addr := [p, a.fr, a.fl, a.hi, a.hl, a.co, a.cd, a.cf, a.st, a.hd, a.er, a.wa, a.wr]
def FtP (p : Addr) (a : Ap) (b : Addr) : Prop := FtB a.bd a.A b ∨ b ∈ a.own p
def Pm.tvd (x : Pm) (T D : V) : Pm := { x with b := x.b.tvd T D }
structure PrC (CB CM CP CK CW CF CH CC CI : Addr) (S H : Hp) (p : Addr) (a : Ap) (x : Pm) : Prop where
  sm : Same S H
  fs : ∀ b, FtP p a b → S b = none
  nd : (a.own p).Nodup
  ob : ∀ b, b ∈ a.own p → ¬ FtB a.bd a.A b
  hp : H p = some (.ins CP a.dx (prF a.bd a.st a.wa a.fr a.hi a.co a.mi a.sd x.gone .non))
  B : BdOn CB CM H a.bd a.A a.ts a.ls x.b
  hfr : H a.fr = some (.ins CF a.df (frF a.fl x.strays))
  hfl : H a.fl = some (.lst a.us)
  rows : T3At H a.us x.rows
  hhi : H a.hi = some (.ins CH a.dh (hiF a.hl x.faded))
  hhl : H a.hl = some (.lst a.hs)
  hist : HtAt H a.hs x.hist
  hco : H a.co = some (.ins CC a.dc (coF a.cd a.cf x.idle x.peeked))
  hcd : H a.cd = some (.dK a.kd)
  deeds : DdAt H a.kd x.deeds
  hcf : H a.cf = some (.dK (spD x.spent))
  hst : H a.st = some (.ins CK a.dk (mkF x.b.ma a.hd a.er))
  hhd : H a.hd = some (.dK (swD x.hard))
  her : H a.er = some (.lst (x.wear.map V.int))
  hwa : H a.wa = some (.ins CW a.dw (wtF a.wr))
  hwr : H a.wr = some (.lst a.wv)
  wts : WtAt H a.wv x.wat
  hmi : S a.mi = some (.ins CI a.dm (miF a.ml a.mr))
  hml : S a.ml = some (.lst [])
/-- how much there is of each -/
structure PrN (x : Pm) : Prop where
  s : x.b.sent.length ≤ 2 * x.n
  r : x.rows.length ≤ x.n
  h : x.hist.length ≤ 32
  d : x.deeds.length ≤ x.n
  t : x.spent.length ≤ x.n
  nn : NN x.b
  hh : x.hard.length ≤ 2
  sw : x.b.sw.length ≤ x.n
  we : x.wear.length = 16
  wa : x.wat.length = 2
  wk : ∀ u, some u ∈ x.wat → u.2.2 ∈ kdN
theorem nd_ne {α : Type} {l : List α} {a b : α} (nd : l.Nodup) {i j : Nat} (h : i < j) (hi : l[i]? = some a) (hj : l[j]? = some b) : a ≠ b := fun e => by
  obtain ⟨i1, e1⟩ := List.getElem?_eq_some_iff.mp hi
  obtain ⟨j1, e2⟩ := List.getElem?_eq_some_iff.mp hj
  have := List.pairwise_iff_getElem.mp nd i j i1 j1 h
  exact this (e1.trans (e.trans e2.symm))
section
variable {CB CM CP CK CW CF CH CC CI : Addr} {S H H' : Hp} {p : Addr} {a : Ap} {x : Pm}
theorem PrC.solid (C : PrC CB CM CP CK CW CF CH CC CI S H p a x) : ∀ b, FtP p a b → ∃ o, H b = some o ∧ ∀ xs, o ≠ .tup xs := fun b h => by
  rcases h with h | h
  · exact C.B.solid b h
  · have h : b ∈ [p, a.fr, a.fl, a.hi, a.hl, a.co, a.cd, a.cf, a.st, a.hd, a.er, a.wa, a.wr] := h
    simp only [List.mem_cons, List.not_mem_nil, or_false] at h
    rcases h with h | h | h | h | h | h | h | h | h | h | h | h | h <;> rw [h]
    · exact ⟨_, C.hp, fun xs z => by cases z⟩
    · exact ⟨_, C.hfr, fun xs z => by cases z⟩
    · exact ⟨_, C.hfl, fun xs z => by cases z⟩
    · exact ⟨_, C.hhi, fun xs z => by cases z⟩
    · exact ⟨_, C.hhl, fun xs z => by cases z⟩
    · exact ⟨_, C.hco, fun xs z => by cases z⟩
    · exact ⟨_, C.hcd, fun xs z => by cases z⟩
    · exact ⟨_, C.hcf, fun xs z => by cases z⟩
    · exact ⟨_, C.hst, fun xs z => by cases z⟩
    · exact ⟨_, C.hhd, fun xs z => by cases z⟩
    · exact ⟨_, C.her, fun xs z => by cases z⟩
    · exact ⟨_, C.hwa, fun xs z => by cases z⟩
    · exact ⟨_, C.hwr, fun xs z => by cases z⟩
theorem PrC.m1 (C : PrC CB CM CP CK CW CF CH CC CI S H p a x) {i : Nat} {b : Addr} (h : (a.own p)[i]? = some b) : b ∈ a.own p := List.mem_of_getElem? h
/-- tuples stand as they stood where no more than own things changed -/
theorem tup_keep {F : Addr → Prop} (sol : ∀ b, F b → ∃ o, H b = some o ∧ ∀ xs, o ≠ .tup xs) (k : ∀ b o, ¬ F b → H b = some o → H' b = some o) : ∀ t xs, H t = some (.tup xs) → H' t = some (.tup xs) := fun t xs e => k t _ (fun z => by
  obtain ⟨o, e1, n⟩ := sol t z
  rw [e1] at e
  exact n xs (Option.some.inj e)) e
/-- it stands where the others' changes leave it -/
theorem PrC.keep (C : PrC CB CM CP CK CW CF CH CC CI S H p a x) (sm : Same S H') (k : ∀ b o, FtP p a b → H b = some o → H' b = some o) (t : ∀ b xs, H b = some (.tup xs) → H' b = some (.tup xs)) : PrC CB CM CP CK CW CF CH CC CI S H' p a x :=
  have o : ∀ {i : Nat} {b : Addr}, (a.own p)[i]? = some b → FtP p a b := fun h => .inr (List.mem_of_getElem? h)
  { C with
    sm := sm
    hp := k _ _ (o (i := 0) rfl) C.hp
    B := C.B.keep (fun b o h e => k b o (.inl h) e) t
    hfr := k _ _ (o (i := 1) rfl) C.hfr
    hfl := k _ _ (o (i := 2) rfl) C.hfl
    rows := C.rows.mono t
    hhi := k _ _ (o (i := 3) rfl) C.hhi
    hhl := k _ _ (o (i := 4) rfl) C.hhl
    hist := C.hist.mono t
    hco := k _ _ (o (i := 5) rfl) C.hco
    hcd := k _ _ (o (i := 6) rfl) C.hcd
    deeds := C.deeds.mono t
    hcf := k _ _ (o (i := 7) rfl) C.hcf
    hst := k _ _ (o (i := 8) rfl) C.hst
    hhd := k _ _ (o (i := 9) rfl) C.hhd
    her := k _ _ (o (i := 10) rfl) C.her
    hwa := k _ _ (o (i := 11) rfl) C.hwa
    hwr := k _ _ (o (i := 12) rfl) C.hwr
    wts := C.wts.mono t }
theorem PrC.same (C : PrC CB CM CP CK CW CF CH CC CI S H p a x) (s : Same H H') : PrC CB CM CP CK CW CF CH CC CI S H' p a x :=
  C.keep (C.sm.trans s) (fun b o _ e => s b o e) (fun b xs e => s b _ e)
/-- another's call changed what is not its own -/
theorem PrC.other {F F' : Addr → Prop} (C : PrC CB CM CP CK CW CF CH CC CI S H p a x) (f : Fr F H F' H') (d : ∀ b, F b → ¬ FtP p a b) (ds : ∀ b, F b → S b = none) (sol : ∀ b, F b → ∃ o, H b = some o ∧ ∀ xs, o ≠ .tup xs) : PrC CB CM CP CK CW CF CH CC CI S H' p a x :=
  C.keep (f.st C.sm ds) (fun b o h e => f.keep b o (fun z => d b z h) e) (tup_keep sol f.keep)
/-- its board changed -/
theorem PrC.board (C : PrC CB CM CP CK CW CF CH CC CI S H p a x) {A' : Ad} {ts' ls' : List V} {y : Bd} (B : BdOn CB CM H' a.bd A' ts' ls' y) (f : Fr (FtB a.bd a.A) H (FtB a.bd A') H') (em : y.ma = x.b.ma) : PrC CB CM CP CK CW CF CH CC CI S H' p { a with A := A', ts := ts', ls := ls' } { x with b := y } :=
  have t := tup_keep C.B.solid f.keep
  have o : ∀ {i : Nat} {b : Addr} {w : HO}, (a.own p)[i]? = some b → H b = some w → H' b = some w := fun h e => f.keep _ _ (C.ob _ (List.mem_of_getElem? h)) e
  { C with
    sm := f.st C.sm (fun b h => C.fs b (.inl h))
    fs := fun b h => by
      rcases h with h | h
      · exact f.stn C.sm (fun b h => C.fs b (.inl h)) b h
      · exact C.fs b (.inr h)
    ob := fun b h z => by
      rcases f.new b z with y | y
      · exact C.ob b h y
      · obtain ⟨o, e, _⟩ := C.solid b (.inr h)
        rw [y] at e
        cases e
    hp := o (i := 0) rfl C.hp
    B := B
    hfr := o (i := 1) rfl C.hfr
    hfl := o (i := 2) rfl C.hfl
    rows := C.rows.mono t
    hhi := o (i := 3) rfl C.hhi
    hhl := o (i := 4) rfl C.hhl
    hist := C.hist.mono t
    hco := o (i := 5) rfl C.hco
    hcd := o (i := 6) rfl C.hcd
    deeds := C.deeds.mono t
    hcf := o (i := 7) rfl C.hcf
    hst := by
      show H' a.st = some (.ins CK a.dk (mkF y.ma a.hd a.er))
      rw [em]
      exact o (i := 8) rfl C.hst
    hhd := o (i := 9) rfl C.hhd
    her := o (i := 10) rfl C.her
    hwa := o (i := 11) rfl C.hwa
    hwr := o (i := 12) rfl C.hwr
    wts := C.wts.mono t }
theorem PrC.boardFr (C : PrC CB CM CP CK CW CF CH CC CI S H p a x) {A' : Ad} {ts' ls' : List V} (f : Fr (FtB a.bd a.A) H (FtB a.bd A') H') : Fr (FtP p a) H (FtP p { a with A := A', ts := ts', ls := ls' }) H' where
  keep := fun b o n e => f.keep b o (fun z => n (.inl z)) e
  new := fun b z => by
    rcases z with z | z
    · rcases f.new b z with y | y
      · exact .inl (.inl y)
      · exact .inr y
    · exact .inl (.inr z)
/-- own cells changed, by their places -/
theorem PrC.kOwn (C : PrC CB CM CP CK CW CF CH CC CI S H p a x) {l : List Nat} (k : ∀ b o, (∀ i ∈ l, (a.own p)[i]? ≠ some b) → H b = some o → H' b = some o) :
    Same S H' ∧ (∀ b o, FtB a.bd a.A b → H b = some o → H' b = some o) ∧ (∀ t xs, H t = some (.tup xs) → H' t = some (.tup xs)) ∧ (∀ i b o, i ∉ l → (a.own p)[i]? = some b → H b = some o → H' b = some o) ∧ Fr (FtP p a) H (FtP p a) H' := by
  refine ⟨fun b o e => k b o (fun i _ h => ?_) (C.sm _ _ e), fun b o h e => k b o (fun i _ z => C.ob b (List.mem_of_getElem? z) h) e, fun t xs e => k t _ (fun i _ z => ?_) e, fun i b o hi hb e => k b o (fun j hj z => ?_) e, ⟨fun b o n e => k b o (fun i _ z => n (.inr (List.mem_of_getElem? z))) e, fun b z => .inl z⟩⟩
  · rw [C.fs b (.inr (List.mem_of_getElem? h))] at e
    cases e
  · obtain ⟨o, e1, n⟩ := C.solid t (.inr (List.mem_of_getElem? z))
    rw [e1] at e
    exact n xs (Option.some.inj e)
  · rcases Nat.lt_trichotomy i j with h | h | h
    · exact nd_ne C.nd h hb z rfl
    · exact hi (h ▸ hj)
    · exact nd_ne C.nd h z hb rfl
theorem PrC.frames (C : PrC CB CM CP CK CW CF CH CC CI S H p a x) {us' : List V} {rows' : List (Int × Int × Str)} {st' : Int} (k : ∀ b o, b ≠ a.fr → b ≠ a.fl → H b = some o → H' b = some o) (h1 : H' a.fr = some (.ins CF a.df (frF a.fl st'))) (h2 : H' a.fl = some (.lst us')) (h3 : T3At H' us' rows') :
    PrC CB CM CP CK CW CF CH CC CI S H' p { a with us := us' } { x with rows := rows', strays := st' } ∧ Fr (FtP p a) H (FtP p { a with us := us' }) H' := by
  obtain ⟨s, kb, t, ko, f⟩ := C.kOwn (l := [1, 2]) (H' := H') (fun b o n e => k b o (fun z => n 1 (by decide) (by rw [z]; rfl)) (fun z => n 2 (by decide) (by rw [z]; rfl)) e)
  exact ⟨{ C with
    sm := s
    hp := ko 0 _ _ (by decide) rfl C.hp
    B := C.B.keep kb t
    hfr := h1
    hfl := h2
    rows := h3
    hhi := ko 3 _ _ (by decide) rfl C.hhi
    hhl := ko 4 _ _ (by decide) rfl C.hhl
    hist := C.hist.mono t
    hco := ko 5 _ _ (by decide) rfl C.hco
    hcd := ko 6 _ _ (by decide) rfl C.hcd
    deeds := C.deeds.mono t
    hcf := ko 7 _ _ (by decide) rfl C.hcf
    hst := ko 8 _ _ (by decide) rfl C.hst
    hhd := ko 9 _ _ (by decide) rfl C.hhd
    her := ko 10 _ _ (by decide) rfl C.her
    hwa := ko 11 _ _ (by decide) rfl C.hwa
    hwr := ko 12 _ _ (by decide) rfl C.hwr
    wts := C.wts.mono t }, f⟩
theorem PrC.history (C : PrC CB CM CP CK CW CF CH CC CI S H p a x) {hs' : List V} {hist' : List (Int × Str × Int)} {f' : Int} (k : ∀ b o, b ≠ a.hi → b ≠ a.hl → H b = some o → H' b = some o) (h1 : H' a.hi = some (.ins CH a.dh (hiF a.hl f'))) (h2 : H' a.hl = some (.lst hs')) (h3 : HtAt H' hs' hist') :
    PrC CB CM CP CK CW CF CH CC CI S H' p { a with hs := hs' } { x with hist := hist', faded := f' } ∧ Fr (FtP p a) H (FtP p { a with hs := hs' }) H' := by
  obtain ⟨s, kb, t, ko, f⟩ := C.kOwn (l := [3, 4]) (H' := H') (fun b o n e => k b o (fun z => n 3 (by decide) (by rw [z]; rfl)) (fun z => n 4 (by decide) (by rw [z]; rfl)) e)
  exact ⟨{ C with
    sm := s
    hp := ko 0 _ _ (by decide) rfl C.hp
    B := C.B.keep kb t
    hfr := ko 1 _ _ (by decide) rfl C.hfr
    hfl := ko 2 _ _ (by decide) rfl C.hfl
    rows := C.rows.mono t
    hhi := h1
    hhl := h2
    hist := h3
    hco := ko 5 _ _ (by decide) rfl C.hco
    hcd := ko 6 _ _ (by decide) rfl C.hcd
    deeds := C.deeds.mono t
    hcf := ko 7 _ _ (by decide) rfl C.hcf
    hst := ko 8 _ _ (by decide) rfl C.hst
    hhd := ko 9 _ _ (by decide) rfl C.hhd
    her := ko 10 _ _ (by decide) rfl C.her
    hwa := ko 11 _ _ (by decide) rfl C.hwa
    hwr := ko 12 _ _ (by decide) rfl C.hwr
    wts := C.wts.mono t }, f⟩
theorem PrC.counts (C : PrC CB CM CP CK CW CF CH CC CI S H p a x) {kd' : List (Key × V)} {ds' : List (Int × Int × Int)} {sp' : List (Int × Int)} {i' pk' : Int} (k : ∀ b o, b ≠ a.co → b ≠ a.cf → b ≠ a.cd → H b = some o → H' b = some o) (h1 : H' a.co = some (.ins CC a.dc (coF a.cd a.cf i' pk'))) (h2 : H' a.cf = some (.dK (spD sp'))) (h3 : H' a.cd = some (.dK kd')) (h4 : DdAt H' kd' ds') :
    PrC CB CM CP CK CW CF CH CC CI S H' p { a with kd := kd' } { x with deeds := ds', spent := sp', idle := i', peeked := pk' } ∧ Fr (FtP p a) H (FtP p { a with kd := kd' }) H' := by
  obtain ⟨s, kb, t, ko, f⟩ := C.kOwn (l := [5, 6, 7]) (H' := H') (fun b o n e => k b o (fun z => n 5 (by decide) (by rw [z]; rfl)) (fun z => n 7 (by decide) (by rw [z]; rfl)) (fun z => n 6 (by decide) (by rw [z]; rfl)) e)
  exact ⟨{ C with
    sm := s
    hp := ko 0 _ _ (by decide) rfl C.hp
    B := C.B.keep kb t
    hfr := ko 1 _ _ (by decide) rfl C.hfr
    hfl := ko 2 _ _ (by decide) rfl C.hfl
    rows := C.rows.mono t
    hhi := ko 3 _ _ (by decide) rfl C.hhi
    hhl := ko 4 _ _ (by decide) rfl C.hhl
    hist := C.hist.mono t
    hco := h1
    hcd := h3
    deeds := h4
    hcf := h2
    hst := ko 8 _ _ (by decide) rfl C.hst
    hhd := ko 9 _ _ (by decide) rfl C.hhd
    her := ko 10 _ _ (by decide) rfl C.her
    hwa := ko 11 _ _ (by decide) rfl C.hwa
    hwr := ko 12 _ _ (by decide) rfl C.hwr
    wts := C.wts.mono t }, f⟩
theorem PrC.turned (C : PrC CB CM CP CK CW CF CH CC CI S H p a x) {g : Int} :
    PrC CB CM CP CK CW CF CH CC CI S (upd H p (.ins CP a.dx (prF a.bd a.st a.wa a.fr a.hi a.co a.mi a.sd g .non))) p a { x with gone := g } ∧ Fr (FtP p a) H (FtP p a) (upd H p (.ins CP a.dx (prF a.bd a.st a.wa a.fr a.hi a.co a.mi a.sd g .non))) := by
  obtain ⟨s, kb, t, ko, f⟩ := C.kOwn (l := [0]) (H' := upd H p (.ins CP a.dx (prF a.bd a.st a.wa a.fr a.hi a.co a.mi a.sd g .non))) (fun b o n e => by rw [upd_ne (fun z => n 0 (by decide) (by rw [z]; rfl))]; exact e)
  exact ⟨{ C with
    sm := s
    hp := upd_same
    B := C.B.keep kb t
    hfr := ko 1 _ _ (by decide) rfl C.hfr
    hfl := ko 2 _ _ (by decide) rfl C.hfl
    rows := C.rows.mono t
    hhi := ko 3 _ _ (by decide) rfl C.hhi
    hhl := ko 4 _ _ (by decide) rfl C.hhl
    hist := C.hist.mono t
    hco := ko 5 _ _ (by decide) rfl C.hco
    hcd := ko 6 _ _ (by decide) rfl C.hcd
    deeds := C.deeds.mono t
    hcf := ko 7 _ _ (by decide) rfl C.hcf
    hst := ko 8 _ _ (by decide) rfl C.hst
    hhd := ko 9 _ _ (by decide) rfl C.hhd
    her := ko 10 _ _ (by decide) rfl C.her
    hwa := ko 11 _ _ (by decide) rfl C.hwa
    hwr := ko 12 _ _ (by decide) rfl C.hwr
    wts := C.wts.mono t }, f⟩
end
end Bh

/-! A turn goes by under a probe. -/
namespace Bh
open PySem PySem.Spec PyProof.Rows L2
theorem bF_did {r t m l : Addr} {z le as : Bool} {bt bn : Int} {la : Nat} {sv tv dv : V} : (bdF r t m l z le as bt sv la tv dv bn).lookup ("did" : Str) = some dv := by kernel_rfl
theorem bF_tou {r t m l : Addr} {z le as : Bool} {bt bn : Int} {la : Nat} {sv tv dv : V} : (bdF r t m l z le as bt sv la tv dv bn).lookup ("touched" : Str) = some tv := by kernel_rfl
/-- what is never called here -/
def spNo : Sp := fun _ _ _ _ => False
def Tl (H : Hp) (T : V) (ts : List (Bool × Int)) : Prop := ∃ tl us, T = .ref tl ∧ H tl = some (.lst us) ∧ TouAt H us ts
section
variable (CB CM CP CK CW CF CH CC CI : Addr)
def spTf : Sp := fun vs H Q _ => ∃ (S : Hp) (p : Addr) (a : Ap) (x : Pm), vs = [.ref p] ∧ PrC CB CM CP CK CW CF CH CC CI S H p a x ∧ ∀ H', Same H H' → Q .non H'
def spNT : Sp := fun vs H Q _ => ∃ (S : Hp) (p : Addr) (a : Ap) (x : Pm), vs = [.ref p] ∧ PrC CB CM CP CK CW CF CH CC CI S H p a x ∧ PrN x ∧ x.n < 99000 ∧
  ∀ H' a' T D, Fr (FtP p a) H (FtP p a') H' → PrC CB CM CP CK CW CF CH CC CI S H' p a' ((noteTM x).2.tvd T D) → Tl H' T (touT x.b) → Q (.str (noteTM x).1) H'
def spPk : Sp := fun vs H Q _ => ∃ (S : Hp) (p : Addr) (a : Ap) (x : Pm) (i : Int), vs = [.ref p, .int i] ∧ PrC CB CM CP CK CW CF CH CC CI S H p a x ∧ PrN x ∧ x.n < 99000 ∧ 0 ≤ i ∧ i < 774 ∧
  ∀ H' a', Fr (FtP p a) H (FtP p a') H' → PrC CB CM CP CK CW CF CH CC CI S H' p a' (peekedM x) → Q (.int (rd x.b.mem i)) H'
def spMm : Sp := fun vs H Q _ => ∃ (S : Hp) (p : Addr) (a : Ap) (x : Pm), vs = [.ref p] ∧ PrC CB CM CP CK CW CF CH CC CI S H p a x ∧ Q (.bl (meetsM x)) H
end
theorem back_len (k : Str) (r : List (Int × Int × Str)) (s : Int) : (backR k r s).1.length ≤ r.length := by
  unfold backR
  split
  · exact Nat.le_refl _
  · split
    · rw [List.length_dropLast]
      exact Nat.sub_le _ _
    · exact Nat.le_refl _
theorem foll_len (x : Pm) : (follT x).1.length ≤ x.rows.length + 1 := by
  unfold follT followR
  split
  · rw [List.length_append]; exact Nat.le_refl _
  · split
    · rw [List.length_append]; exact Nat.le_refl _
    · split
      · exact Nat.le_succ_of_le (back_len _ _ _)
      · split
        · exact Nat.le_succ_of_le (back_len _ _ _)
        · exact Nat.le_succ _
theorem didV_or (x : Bd) : didV x = .non ∨ ∃ n, didV x = .str n := by
  unfold didV
  split
  · exact .inr ⟨_, rfl⟩
  · exact .inl rfl
section
variable {P : Program} {w : World} {K : PySem.W.Frag} {mg : Str → Option Value} {base : Heap} {CB CM CP CK CW CF CH CC CI CS : Addr}
abbrev sMcme : Stmt := inClass (topS 87) 5
theorem ok_Mcme {f : Addr} {fd : FuncData} (F : Fun K "come" "Mishaps.come" sMcme f fd) (T : Ty K mg CB CM CP CK CW CF CH CC CI CS) : FnOk P w K mg base CX0 1 f fd ["self", "fault", "beat"] (spNo) := ⟨fun vs H Q E h => h.elim, fun A outer s H args us vs Q E hr he hb hv h => h.elim⟩
abbrev sMtbit : Stmt := inClass (topS 52) 7
theorem ok_Mtbit {f : Addr} {fd : FuncData} (F : Fun K "turn_bit" "Memory.turn_bit" sMtbit f fd) (T : Ty K mg CB CM CP CK CW CF CH CC CI CS) : FnOk P w K mg base CX0 1 f fd ["self", "address", "bit"] (spNo) := ⟨fun vs H Q E h => h.elim, fun A outer s H args us vs Q E hr he hb hv h => h.elim⟩
abbrev sMlose : Stmt := inClass (topS 69) 3
theorem ok_Mlose {f : Addr} {fd : FuncData} (F : Fun K "lose_power" "Board.lose_power" sMlose f fd) (T : Ty K mg CB CM CP CK CW CF CH CC CI CS) : FnOk P w K mg base CX0 1 f fd ["self"] (spNo) := ⟨fun vs H Q E h => h.elim, fun A outer s H args us vs Q E hr he hb hv h => h.elim⟩
abbrev sMngv : Stmt := inClass (topS 97) 20
theorem ok_Mngv {f : Addr} {fd : FuncData} (F : Fun K "note_gone" "Probe.note_gone" sMngv f fd) (T : Ty K mg CB CM CP CK CW CF CH CC CI CS) : FnOk P w K mg base CX0 1 f fd ["self", "addresses", "whole"] (spNo) := ⟨fun vs H Q E h => h.elim, fun A outer s H args us vs Q E hr he hb hv h => h.elim⟩
abbrev sMtf : Stmt := inClass (topS 97) 25
def scMtfN : List Str := ["self", "fault"]
theorem scMtf : FnScope scMtfN ["self"] (defScope sMtf) := ⟨rfl, rfl, rfl, by decide +kernel, rfl, by decide +kernel, by decide +kernel⟩
theorem ok_Mtf {f : Addr} {fd : FuncData} {fC_fra : Addr} {dC_fra : FuncData} {fM_cme : Addr} {dM_cme : FuncData} {fM_due : Addr} {dM_due : FuncData} {fM_lose : Addr} {dM_lose : FuncData} {fM_tbit : Addr} {dM_tbit : FuncData} (F : Fun K "take_faults" "Probe.take_faults" sMtf f fd) (T : Ty K mg CB CM CP CK CW CF CH CC CI CS)
    (C_fra : CalC P w K mg base CF 1 "Frames" ["self"] (spMkF CF) fC_fra dC_fra)
    (M_cme : CalM P w K mg base CI 1 "come" ["self", "fault", "beat"] (spNo) fM_cme dM_cme)
    (M_due : CalM P w K mg base CI 1 "due" ["self", "beat"] (spDue CI) fM_due dM_due)
    (M_lose : CalM P w K mg base CB 1 "lose_power" ["self"] (spNo) fM_lose dM_lose)
    (M_tbit : CalM P w K mg base CM 1 "turn_bit" ["self", "address", "bit"] (spNo) fM_tbit dM_tbit) : FnOk P w K mg base CX0 3 f fd ["self"] (spTf CB CM CP CK CW CF CH CC CI) := by
  refine F.ok scMtf (fun vs H Q E h => by obtain ⟨_, _, _, _, rfl, _⟩ := h; rfl) (fun cdv A outer s H vs Q E hr h => ?_)
  have hu := hu_of hr
  obtain ⟨S, p, a, x, rfl, C, k⟩ := h
  obtain ⟨sv, tv, dv, hpb, hz⟩ := C.B.hp
  refine ⟨_, (pss_one (ps_for PassesOwn.never rfl (pi_list (pe_meth (pe_fld (pv 0) rfl) M_due.c M_due.m M_due.G (hr.mono (by decide)) M_due.b .nil pass0 (pa_cons (pe_fld (pe_fld (pv 0) rfl) rfl) pa_nil))) (pg_name (i := 1) scMtf.nd rfl (.inl rfl))
      (pss_cons (ps_expr (pe_meth (pe_fld (pv 0) rfl) M_cme.c M_cme.m M_cme.G (hr.mono (by decide)) M_cme.b .nil pass0 (pa_cons (pv 1) (pa_cons (pe_fld (pe_fld (pv 0) rfl) rfl) pa_nil))))
    (pss_one (ps_if (pt_cmpR op_eq (pe_ix ix_list (pv 1) pe_int (fun _ _ => rfl)) pe_str (nomark _)) (pss_one (ps_expr (pe_meth (pe_fld (pe_fld (pv 0) rfl) rfl) M_tbit.c M_tbit.m M_tbit.G (hr.mono (by decide)) M_tbit.b .nil pass0 (pa_cons (pe_ix ix_list (pv 1) pe_int (fun _ _ => rfl)) (pa_cons (pe_ix ix_list (pv 1) pe_int (fun _ _ => rfl)) pa_nil))))) (pss_cons (ps_expr (pe_meth0 (pe_fld (pv 0) rfl) M_lose.c M_lose.m M_lose.G (hr.mono (by decide)) M_lose.b .nil pass0))
    (pss_one (ps_fld (pv 0) (pe_make0 C_fra.M C_fra.I (hr.mono (by decide)) rfl C_fra.g C_fra.b .nil pass0) rfl)))))))), ?_⟩
  refine ⟨_, rfl, p, CP, a.dx, _, _, rfl, C.hp, T.cP, T.nP_mishaps, pF_mishaps, a.mi, a.dm, _, rfl, C.sm _ _ C.hmi, iN_due, _, rfl, p, CP, a.dx, _, _, rfl, C.hp, T.cP, T.nP_board, pF_board, a.bd, CB, a.A.dx, _, _, rfl, hpb, T.cB, T.n_beat, bF_beat, a.mi, a.dm, a.ml, a.mr, x.b.beat, rfl, C.sm _ _ C.hmi, C.sm _ _ C.hml, fun H1 l s1 nl h1 => ?_⟩
  refine ⟨l, rfl, ⟨_, SqL.of h1⟩, ?_⟩
  refine for_list (K := K) (a := l) (xs := []) (fun i σ H' => H' = H1) rfl (fun i σ H' _ h => by rw [h]; exact SqL.of h1) (fun i v σ H' hv _ => by cases hv) ?_
  rintro σ H' rfl
  exact k _ s1
abbrev sMmm : Stmt := inClass (topS 97) 22
def scMmmN : List Str := ["self"]
theorem scMmm : FnScope scMmmN ["self"] (defScope sMmm) := ⟨rfl, rfl, rfl, by decide +kernel, rfl, by decide +kernel, by decide +kernel⟩
theorem ok_Mmm {f : Addr} {fd : FuncData} {fM_coming : Addr} {dM_coming : FuncData} {fM_sta : Addr} {dM_sta : FuncData} (F : Fun K "meets_mark" "Probe.meets_mark" sMmm f fd) (T : Ty K mg CB CM CP CK CW CF CH CC CI CS)
    (M_coming : CalM P w K mg base CB 2 "coming" ["self"] (spComing CB CM) fM_coming dM_coming)
    (M_sta : CalM P w K mg base CK 1 "stands_at" ["self", "address"] (spSta CK CM) fM_sta dM_sta) : FnOk P w K mg base CX0 3 f fd ["self"] (spMm CB CM CP CK CW CF CH CC CI) := by
  refine F.ok scMmm (fun vs H Q E h => by obtain ⟨_, _, _, _, rfl, _⟩ := h; rfl) (fun cdv A outer s H vs Q E hr h => ?_)
  have hu := hu_of hr
  obtain ⟨S, p, a, x, rfl, C, k⟩ := h
  obtain ⟨sv, tv, dv, hpb, hz⟩ := C.B.hp
  refine ⟨_, (pss_one (ps_ret (pe_and (pe_meth (pe_fld (pv 0) rfl) M_sta.c M_sta.m M_sta.G (hr.mono (by decide)) M_sta.b .nil pass0 (pa_cons (pe_dget hu (pe_fld (pe_fld (pv 0) rfl) rfl) pe_str (fun _ _ => rfl)) pa_nil)) (pe_one (pe_cmpR op_eq (pe_meth0 (pe_fld (pv 0) rfl) M_coming.c M_coming.m M_coming.G (hr.mono (by decide)) M_coming.b .nil pass0) pe_str (nomark _)))))), ?_⟩
  refine ⟨_, rfl, p, CP, a.dx, _, _, rfl, C.hp, T.cP, T.nP_standing, pF_standing, a.st, a.dk, _, rfl, C.hst, kN_stands_at, _, rfl, p, CP, a.dx, _, _, rfl, C.hp, T.cP, T.nP_board, pF_board, a.bd, CB, a.A.dx, _, _, rfl, hpb, T.cB, T.n_registers, bF_reg, a.A.r, _, rfl, dg (k := Sum.inr "pc") C.B.hr rG_pc, a.st, a.dk, x.b.ma, a.A.dm, a.hd, a.er, a.A.w, a.A.s, x.b.pc, x.hard, x.b.sw, rfl, C.hst, C.hhd, (by rw [← C.B.am]; exact C.B.hm), C.B.hs, ?_⟩
  have em : meetsM x = (standsM x x.b.pc && decide (comingM x.b = "deed")) := rfl
  refine ⟨_, rfl, ifB (fun h => ?_) (fun h => ?_)⟩
  · have hs : standsM x x.b.pc = true := h
    rw [em, hs, Bool.true_and] at k
    refine ⟨_, rfl, p, CP, a.dx, _, _, rfl, C.hp, T.cP, T.nP_board, pF_board, a.bd, a.A.dx, _, rfl, hpb, bN_coming, baseOf H a.bd a.A, a.bd, x.b, rfl, ⟨a.A, a.ts, a.ls, C.B.rebase⟩, rfl, ?_⟩
    have ed : decide (V.str (comingM x.b) = V.str "deed") = decide (comingM x.b = "deed") := by
      by_cases z : comingM x.b = "deed"
      · rw [decide_eq_true z, decide_eq_true (congrArg V.str z)]
      · rw [decide_eq_false z, decide_eq_false (fun q => z (V.str.inj q))]
    rw [ed]
    exact k
  · have hs : standsM x x.b.pc = false := h
    rw [em, hs, Bool.false_and] at k
    exact k
abbrev sMnt : Stmt := inClass (topS 97) 26
def scMntN : List Str := ["self", "beat", "pc", "to", "sort"]
theorem scMnt : FnScope scMntN ["self"] (defScope sMnt) := ⟨rfl, rfl, rfl, by decide +kernel, rfl, by decide +kernel, by decide +kernel⟩
theorem ok_Mnt {f : Addr} {fd : FuncData} {fM_fol : Addr} {dM_fol : FuncData} {fM_hno : Addr} {dM_hno : FuncData} {fM_inn : Addr} {dM_inn : FuncData} {fM_ntu : Addr} {dM_ntu : FuncData} {fM_turn : Addr} {dM_turn : FuncData} (F : Fun K "note_turn" "Probe.note_turn" sMnt f fd) (T : Ty K mg CB CM CP CK CW CF CH CC CI CS)
    (M_fol : CalM P w K mg base CF 2 "follow" ["self", "sort", "did", "at", "to"] (spFol CF) fM_fol dM_fol)
    (M_hno : CalM P w K mg base CH 1 "note" ["self", "beat", "sort", "pc"] (spHno CH) fM_hno dM_hno)
    (M_inn : CalM P w K mg base CF 1 "innermost" ["self"] (spInn CF) fM_inn dM_inn)
    (M_ntu : CalM P w K mg base CC 2 "note_turn" ["self", "sort", "pc", "beats", "to"] (spNtu CC) fM_ntu dM_ntu)
    (M_turn : CalM P w K mg base CB 6 "turn" ["self"] (spTurn CB CM) fM_turn dM_turn) : FnOk P w K mg base CX0 7 f fd ["self"] (spNT CB CM CP CK CW CF CH CC CI) := by
  refine F.ok scMnt (fun vs H Q E h => by obtain ⟨_, _, _, _, rfl, _⟩ := h; rfl) (fun cdv A outer s H vs Q E hr h => ?_)
  have hu := hu_of hr
  obtain ⟨S, p, a, x, rfl, C, N, hn, k⟩ := h
  obtain ⟨sv, tv, dv, hpb, hz⟩ := C.B.hp
  refine ⟨_, (pss_cons (ps_set (i := 1) scMnt.nd rfl (.inl rfl) (pe_fld (pe_fld (pv 0) rfl) rfl))
    (pss_cons (ps_set (i := 2) scMnt.nd rfl (.inl rfl) (pe_dget hu (pe_fld (pe_fld (pv 0) rfl) rfl) pe_str (fun _ _ => rfl)))
    (pss_cons (ps_set (i := 3) scMnt.nd rfl (.inl rfl) (pe_meth0 (pe_fld (pv 0) rfl) M_inn.c M_inn.m M_inn.G (hr.mono (by decide)) M_inn.b .nil pass0))
    (pss_cons (ps_set (i := 4) scMnt.nd rfl (.inl rfl) (pe_meth0 (pe_fld (pv 0) rfl) M_turn.c M_turn.m M_turn.G (hr.mono (by decide)) M_turn.b .nil pass0))
    (pss_cons (ps_if (pt_cmpR op_eq (pv 4) pe_str (nomark _)) (pss_one (ps_ret (pv 4))) pss_nil)
    (pss_cons (ps_expr (pe_meth (pe_fld (pv 0) rfl) M_fol.c M_fol.m M_fol.G (hr.mono (by decide)) M_fol.b .nil pass0 (pa_cons (pv 4) (pa_cons (pe_fld (pe_fld (pv 0) rfl) rfl) (pa_cons (pv 2) (pa_cons (pe_dget hu (pe_fld (pe_fld (pv 0) rfl) rfl) pe_str (fun _ _ => rfl)) pa_nil))))))
    (pss_cons (ps_if (pt_cmpR op_eq (pv 4) pe_str (nomark _)) (pss_one (ps_set (i := 3) scMnt.nd rfl (.inl rfl) (pe_meth0 (pe_fld (pv 0) rfl) M_inn.c M_inn.m M_inn.G (hr.mono (by decide)) M_inn.b .nil pass0))) pss_nil)
    (pss_cons (ps_fldaug (pv 0) pe_int in_add)
    (pss_cons (ps_expr (pe_meth (pe_fld (pv 0) rfl) M_hno.c M_hno.m M_hno.G (hr.mono (by decide)) M_hno.b .nil pass0 (pa_cons (pv 1) (pa_cons (pv 4) (pa_cons (pv 2) pa_nil)))))
    (pss_cons (ps_expr (pe_meth (pe_fld (pv 0) rfl) M_ntu.c M_ntu.m M_ntu.G (hr.mono (by decide)) M_ntu.b .nil pass0 (pa_cons (pv 4) (pa_cons (pv 2) (pa_cons (pe_op op_sub (pe_fld (pe_fld (pv 0) rfl) rfl) (pv 1)) (pa_cons (pv 3) pa_nil))))))
    (pss_one (ps_ret (pv 4))))))))))))), ?_⟩
  have nr := N.r
  have ns := N.s
  have nd_ := N.d
  have nt := N.t
  refine ⟨_, rfl, p, CP, a.dx, _, _, rfl, C.hp, T.cP, T.nP_board, pF_board, a.bd, CB, a.A.dx, _, _, rfl, hpb, T.cB, T.n_beat, bF_beat, _, rfl, p, CP, a.dx, _, _, rfl, C.hp, T.cP, T.nP_board, pF_board, a.bd, CB, a.A.dx, _, _, rfl, hpb, T.cB, T.n_registers, bF_reg, a.A.r, _, rfl, dg (k := Sum.inr "pc") C.B.hr rG_pc, ?_⟩
  refine ⟨_, rfl, p, CP, a.dx, _, _, rfl, C.hp, T.cP, T.nP_frames, pF_frames, a.fr, a.df, _, rfl, C.hfr, fN_innermost, a.fr, a.df, a.fl, x.strays, a.us, x.rows, rfl, C.hfr, C.hfl, C.rows, by omega, ?_⟩
  refine ⟨_, rfl, p, CP, a.dx, _, _, rfl, C.hp, T.cP, T.nP_board, pF_board, a.bd, a.A.dx, _, rfl, hpb, bN_turn, baseOf H a.bd a.A, a.bd, x.b, rfl, ⟨a.A, a.ts, a.ls, C.B.rebase⟩, by omega, N.nn.ok, fun H1 T_ tou R1 => ?_⟩
  obtain ⟨A1, ts1, ls1, B1, f1⟩ := R1.fr
  have C1 := C.board B1 f1 (turn_ma x.b).1
  have F1 := C.boardFr (ts' := ts1) (ls' := ls1) f1
  have tl1 : Tl H1 T_ (touT x.b) := by
    obtain ⟨tl, us, e, _, h1, h2⟩ := tou
    exact ⟨tl, us, e, h1, h2⟩
  have ntl : ∀ tl, T_ = .ref tl → ∀ b, b ∈ a.own p → tl ≠ b := fun tl e b hb z => by
    obtain ⟨tl', us, e', n0, _, _⟩ := tou
    rw [e] at e'
    have e2 : tl = tl' := by cases e'; rfl
    rw [← e2, z, base_some (C.ob b hb)] at n0
    obtain ⟨o, eo, _⟩ := C.solid b (.inr hb)
    rw [eo] at n0
    cases n0
  clear f1 B1 tou
  by_cases es : (turnM x.b).1 = "stopped"
  · have en : noteTM x = (("stopped" : Str), { x with b := (turnM x.b).2, n := x.n + 1 }) := by
      unfold noteTM
      rw [if_pos es, es]
    rw [en] at k
    rw [es]
    exact ⟨_, rfl, rfl, _, rfl, ifB (fun _ => ⟨_, rfl, k _ { a with A := A1, ts := ts1, ls := ls1 } T_ (didV x.b) F1 { C1 with } tl1⟩) (fun h => absurd rfl (of_decide_eq_false h))⟩
  have en : noteTM x = ((turnM x.b).1, passedM x) := by
    unfold noteTM
    rw [if_neg es]
  rw [en] at k
  refine ⟨_, rfl, rfl, _, rfl, ifB (fun h => absurd (V.str.inj (of_decide_eq_true h)) es) (fun _ => ?_)⟩
  obtain ⟨sv1, tv1, dv1, hpb1, hz1⟩ := C1.B.hp
  have ed : dv1 = didV x.b := hz1.2.2
  subst ed
  refine ⟨_, rfl, p, CP, a.dx, _, _, rfl, C1.hp, T.cP, T.nP_frames, pF_frames, a.fr, a.df, _, rfl, C1.hfr, fN_follow, _, rfl, _, rfl, p, CP, a.dx, _, _, rfl, C1.hp, T.cP, T.nP_board, pF_board, a.bd, CB, A1.dx, _, _, rfl, hpb1, T.cB, T.n_did, bF_did, _, rfl, _, rfl, p, CP, a.dx, _, _, rfl, C1.hp, T.cP, T.nP_board, pF_board, a.bd, CB, A1.dx, _, _, rfl, hpb1, T.cB, T.n_registers, bF_reg, A1.r, _, rfl, dg (k := Sum.inr "pc") C1.B.hr rG_pc, a.fr, a.df, a.fl, x.strays, a.us, x.rows, (turnM x.b).1, didV x.b, x.b.pc, (turnM x.b).2.pc, rfl, didV_or _, C1.hfr, C1.hfl, C1.rows, by omega, fun H2 us2 kp2 hfr2 hfl2 rows2 => ?_⟩
  obtain ⟨C2, F2⟩ := C1.frames kp2 hfr2 hfl2 rows2
  have tl2 : Tl H2 T_ (touT x.b) := by
    obtain ⟨tl, us, e, h1, h2⟩ := tl1
    exact ⟨tl, us, e, kp2 _ _ (ntl tl e _ (List.mem_of_getElem? (i := 1) rfl)) (ntl tl e _ (List.mem_of_getElem? (i := 2) rfl)) h1, h2.mono fun t xs q => kp2 _ _ (ne_of q C1.hfr (by intro z; cases z)) (ne_of q C1.hfl (by intro z; cases z)) q⟩
  have F2 := F1.trans F2
  clear kp2 hfr2 hfl2 rows2 F1 C1 tl1 hpb1 hz1
  obtain ⟨sv2, tv2, dv2, hpb2, hz2⟩ := C2.B.hp
  refine ⟨_, rfl, rfl, _, rfl, ifB (fun h => ?_) (fun h => ?_)⟩
  · have et : innerM (follT x).1 = toT x := by
      unfold toT
      rw [if_pos (V.str.inj (of_decide_eq_true h))]
    refine ⟨_, rfl, p, CP, a.dx, _, _, rfl, C2.hp, T.cP, T.nP_frames, pF_frames, a.fr, a.df, _, rfl, C2.hfr, fN_innermost, a.fr, a.df, a.fl, (follT x).2, us2, (follT x).1, rfl, C2.hfr, C2.hfl, C2.rows, by have := foll_len x; omega, ?_⟩
    refine ⟨_, rfl, p, CP, a.dx, _, _, rfl, C2.hp, T.cP, T.nP_turns_gone, pF_turns_gone, _, _, rfl, rfl, a.dx, _, C2.hp, (by show 10 < 1000; decide), ?_⟩
    rw [pP_turns_gone]
    have tl3 : Tl (upd H2 p (.ins CP a.dx (prF a.bd a.st a.wa a.fr a.hi a.co a.mi a.sd (x.gone + 1) .non))) T_ (touT x.b) := by
      obtain ⟨tl, us, e, h1, h2⟩ := tl2
      exact ⟨tl, us, e, by rw [upd_ne (ntl tl e _ (List.mem_of_getElem? (i := 0) rfl))]; exact h1, h2.mono fun t xs q => by rw [upd_ne (ne_of q C2.hp (by intro z; cases z))]; exact q⟩
    obtain ⟨C3, F3⟩ := C2.turned (g := x.gone + 1)
    have F3 := F2.trans F3
    generalize upd H2 p (.ins CP a.dx (prF a.bd a.st a.wa a.fr a.hi a.co a.mi a.sd (x.gone + 1) .non)) = H3 at *
    refine ⟨_, rfl, p, CP, a.dx, _, _, rfl, C3.hp, T.cP, T.nP_history, pF_history, a.hi, a.dh, _, rfl, C3.hhi, hN_note, _, rfl, _, rfl, _, rfl, a.hi, a.dh, a.hl, x.faded, x.b.beat, x.b.pc, (turnM x.b).1, a.hs, x.hist, rfl, C3.hhi, C3.hhl, C3.hist, N.h, fun H4 hs4 kp4 hhi4 hhl4 hist4 => ?_⟩
    obtain ⟨C4, F4⟩ := C3.history kp4 hhi4 hhl4 hist4
    have F4 := F3.trans F4
    have tl4 : Tl H4 T_ (touT x.b) := by
      obtain ⟨tl, us, e, h1, h2⟩ := tl3
      exact ⟨tl, us, e, kp4 _ _ (ntl tl e _ (List.mem_of_getElem? (i := 3) rfl)) (ntl tl e _ (List.mem_of_getElem? (i := 4) rfl)) h1, h2.mono fun t xs q => kp4 _ _ (ne_of q C3.hhi (by intro z; cases z)) (ne_of q C3.hhl (by intro z; cases z)) q⟩
    clear kp4 hhi4 hhl4 hist4 F3 tl3 C3
    obtain ⟨sv4, tv4, dv4, hpb4, hz4⟩ := C4.B.hp
    refine ⟨_, rfl, p, CP, a.dx, _, _, rfl, C4.hp, T.cP, T.nP_counts, pF_counts, a.co, a.dc, _, rfl, C4.hco, cN_note_turn, _, rfl, _, rfl, _, rfl, p, CP, a.dx, _, _, rfl, C4.hp, T.cP, T.nP_board, pF_board, a.bd, CB, A1.dx, _, _, rfl, hpb4, T.cB, T.n_beat, bF_beat, _, rfl, _, _, rfl, rfl, _, rfl, a.co, a.dc, a.cd, a.cf, x.idle, x.peeked, x.b.pc, (turnM x.b).2.beat - x.b.beat, innerM (follT x).1, (turnM x.b).1, x.spent, a.kd, x.deeds, rfl, C4.hco, C4.hcf, C4.hcd, C4.deeds, nd_ne C4.nd (i := 6) (j := 7) (by decide) rfl rfl, by omega, by omega, fun H5 kd5 kp5 hco5 hcf5 hcd5 dd5 => ?_⟩
    have hcf6 : H5 a.cf = some (.dK (spD (putA x.spent (toT x) (getA x.spent (toT x) 0 + ((turnM x.b).2.beat - x.b.beat))))) := by
      rw [← et]
      exact hcf5
    have tl5 : Tl H5 T_ (touT x.b) := by
      obtain ⟨tl, us, e, h1, h2⟩ := tl4
      exact ⟨tl, us, e, kp5 _ _ (ntl tl e _ (List.mem_of_getElem? (i := 5) rfl)) (ntl tl e _ (List.mem_of_getElem? (i := 7) rfl)) (ntl tl e _ (List.mem_of_getElem? (i := 6) rfl)) h1, h2.mono fun t xs q => kp5 _ _ (ne_of q C4.hco (by intro z; cases z)) (ne_of q C4.hcf (by intro z; cases z)) (ne_of q C4.hcd (by intro z; cases z)) q⟩
    obtain ⟨C5, F5⟩ := C4.counts kp5 hco5 hcf6 hcd5 dd5
    have C6 : PrC CB CM CP CK CW CF CH CC CI S H5 p { a with A := A1, ts := ts1, ls := ls1, us := us2, hs := hs4, kd := kd5 } ((passedM x).tvd T_ (didV x.b)) := { C5 with }
    exact ⟨_, rfl, k _ _ T_ _ (F4.trans F5) C6 tl5⟩
  · have et : innerM x.rows = toT x := by
      unfold toT
      rw [if_neg (fun z => of_decide_eq_false h (congrArg V.str z))]
    refine ⟨_, rfl, p, CP, a.dx, _, _, rfl, C2.hp, T.cP, T.nP_turns_gone, pF_turns_gone, _, _, rfl, rfl, a.dx, _, C2.hp, (by show 10 < 1000; decide), ?_⟩
    rw [pP_turns_gone]
    have tl3 : Tl (upd H2 p (.ins CP a.dx (prF a.bd a.st a.wa a.fr a.hi a.co a.mi a.sd (x.gone + 1) .non))) T_ (touT x.b) := by
      obtain ⟨tl, us, e, h1, h2⟩ := tl2
      exact ⟨tl, us, e, by rw [upd_ne (ntl tl e _ (List.mem_of_getElem? (i := 0) rfl))]; exact h1, h2.mono fun t xs q => by rw [upd_ne (ne_of q C2.hp (by intro z; cases z))]; exact q⟩
    obtain ⟨C3, F3⟩ := C2.turned (g := x.gone + 1)
    have F3 := F2.trans F3
    generalize upd H2 p (.ins CP a.dx (prF a.bd a.st a.wa a.fr a.hi a.co a.mi a.sd (x.gone + 1) .non)) = H3 at *
    refine ⟨_, rfl, p, CP, a.dx, _, _, rfl, C3.hp, T.cP, T.nP_history, pF_history, a.hi, a.dh, _, rfl, C3.hhi, hN_note, _, rfl, _, rfl, _, rfl, a.hi, a.dh, a.hl, x.faded, x.b.beat, x.b.pc, (turnM x.b).1, a.hs, x.hist, rfl, C3.hhi, C3.hhl, C3.hist, N.h, fun H4 hs4 kp4 hhi4 hhl4 hist4 => ?_⟩
    obtain ⟨C4, F4⟩ := C3.history kp4 hhi4 hhl4 hist4
    have F4 := F3.trans F4
    have tl4 : Tl H4 T_ (touT x.b) := by
      obtain ⟨tl, us, e, h1, h2⟩ := tl3
      exact ⟨tl, us, e, kp4 _ _ (ntl tl e _ (List.mem_of_getElem? (i := 3) rfl)) (ntl tl e _ (List.mem_of_getElem? (i := 4) rfl)) h1, h2.mono fun t xs q => kp4 _ _ (ne_of q C3.hhi (by intro z; cases z)) (ne_of q C3.hhl (by intro z; cases z)) q⟩
    clear kp4 hhi4 hhl4 hist4 F3 tl3 C3
    obtain ⟨sv4, tv4, dv4, hpb4, hz4⟩ := C4.B.hp
    refine ⟨_, rfl, p, CP, a.dx, _, _, rfl, C4.hp, T.cP, T.nP_counts, pF_counts, a.co, a.dc, _, rfl, C4.hco, cN_note_turn, _, rfl, _, rfl, _, rfl, p, CP, a.dx, _, _, rfl, C4.hp, T.cP, T.nP_board, pF_board, a.bd, CB, A1.dx, _, _, rfl, hpb4, T.cB, T.n_beat, bF_beat, _, rfl, _, _, rfl, rfl, _, rfl, a.co, a.dc, a.cd, a.cf, x.idle, x.peeked, x.b.pc, (turnM x.b).2.beat - x.b.beat, innerM x.rows, (turnM x.b).1, x.spent, a.kd, x.deeds, rfl, C4.hco, C4.hcf, C4.hcd, C4.deeds, nd_ne C4.nd (i := 6) (j := 7) (by decide) rfl rfl, by omega, by omega, fun H5 kd5 kp5 hco5 hcf5 hcd5 dd5 => ?_⟩
    have hcf6 : H5 a.cf = some (.dK (spD (putA x.spent (toT x) (getA x.spent (toT x) 0 + ((turnM x.b).2.beat - x.b.beat))))) := by
      rw [← et]
      exact hcf5
    have tl5 : Tl H5 T_ (touT x.b) := by
      obtain ⟨tl, us, e, h1, h2⟩ := tl4
      exact ⟨tl, us, e, kp5 _ _ (ntl tl e _ (List.mem_of_getElem? (i := 5) rfl)) (ntl tl e _ (List.mem_of_getElem? (i := 7) rfl)) (ntl tl e _ (List.mem_of_getElem? (i := 6) rfl)) h1, h2.mono fun t xs q => kp5 _ _ (ne_of q C4.hco (by intro z; cases z)) (ne_of q C4.hcf (by intro z; cases z)) (ne_of q C4.hcd (by intro z; cases z)) q⟩
    obtain ⟨C5, F5⟩ := C4.counts kp5 hco5 hcf6 hcd5 dd5
    have C6 : PrC CB CM CP CK CW CF CH CC CI S H5 p { a with A := A1, ts := ts1, ls := ls1, us := us2, hs := hs4, kd := kd5 } ((passedM x).tvd T_ (didV x.b)) := { C5 with }
    exact ⟨_, rfl, k _ _ T_ _ (F4.trans F5) C6 tl5⟩
abbrev sMpeek : Stmt := inClass (topS 97) 21
def scMpeekN : List Str := ["self", "address", "word"]
theorem scMpeek : FnScope scMpeekN ["self", "address"] (defScope sMpeek) := ⟨rfl, rfl, rfl, by decide +kernel, rfl, by decide +kernel, by decide +kernel⟩
theorem ok_Mpeek {f : Addr} {fd : FuncData} {fM_at : Addr} {dM_at : FuncData} {fM_inn : Addr} {dM_inn : FuncData} {fM_npk : Addr} {dM_npk : FuncData} {fM_pass : Addr} {dM_pass : FuncData} {fM_tf : Addr} {dM_tf : FuncData} (F : Fun K "peek" "Probe.peek" sMpeek f fd) (T : Ty K mg CB CM CP CK CW CF CH CC CI CS)
    (M_at : CalM P w K mg base CM 1 "word_at" ["self", "address"] (spMAt CM) fM_at dM_at)
    (M_inn : CalM P w K mg base CF 1 "innermost" ["self"] (spInn CF) fM_inn dM_inn)
    (M_npk : CalM P w K mg base CC 2 "note_peek" ["self", "to"] (spNpk CC) fM_npk dM_npk)
    (M_pass : CalM P w K mg base CB 3 "pass_beats" ["self", "many"] (spPass CB CM) fM_pass dM_pass)
    (M_tf : CalM P w K mg base CP 3 "take_faults" ["self"] (spTf CB CM CP CK CW CF CH CC CI) fM_tf dM_tf) : FnOk P w K mg base CX0 6 f fd ["self", "address"] (spPk CB CM CP CK CW CF CH CC CI) := by
  refine F.ok scMpeek (fun vs H Q E h => by obtain ⟨_, _, _, _, _, rfl, _⟩ := h; rfl) (fun cdv A outer s H vs Q E hr h => ?_)
  have hu := hu_of hr
  obtain ⟨S, p, a, x, i_, rfl, C, N, hn, i0, i1, k⟩ := h
  obtain ⟨sv, tv, dv, hpb, hz⟩ := C.B.hp
  refine ⟨_, (pss_cons (ps_set (i := 2) scMpeek.nd rfl (.inl rfl) (pe_meth (pe_fld (pe_fld (pv 0) rfl) rfl) M_at.c M_at.m M_at.G (hr.mono (by decide)) M_at.b .nil pass0 (pa_cons (pv 1) pa_nil)))
    (pss_cons (ps_expr (pe_meth (pe_fld (pv 0) rfl) M_pass.c M_pass.m M_pass.G (hr.mono (by decide)) M_pass.b .nil pass0 (pa_cons pe_int pa_nil)))
    (pss_cons (ps_expr (pe_meth (pe_fld (pv 0) rfl) M_npk.c M_npk.m M_npk.G (hr.mono (by decide)) M_npk.b .nil pass0 (pa_cons (pe_meth0 (pe_fld (pv 0) rfl) M_inn.c M_inn.m M_inn.G (hr.mono (by decide)) M_inn.b .nil pass0) pa_nil)))
    (pss_cons (ps_expr (pe_meth0 (pv 0) M_tf.c M_tf.m M_tf.G (hr.mono (by decide)) M_tf.b .nil pass0))
    (pss_one (ps_ret (pv 2))))))), ?_⟩
  have nr := N.r
  have nt := N.t
  refine ⟨_, rfl, p, CP, a.dx, _, _, rfl, C.hp, T.cP, T.nP_board, pF_board, a.bd, CB, a.A.dx, _, _, rfl, hpb, T.cB, T.n_memory, bF_mem, a.A.m, a.A.dm, _, rfl, C.B.hm, mN_at, _, rfl, a.A.m, a.A.dm, a.A.w, a.A.s, x.b.mem, i_, rfl, C.B.mem, i0, i1, ?_⟩
  refine ⟨_, rfl, p, CP, a.dx, _, _, rfl, C.hp, T.cP, T.nP_board, pF_board, a.bd, a.A.dx, _, rfl, hpb, bN_pass, baseOf H a.bd a.A, a.bd, x.b, 1, rfl, ⟨a.A, a.ts, a.ls, C.B.rebase⟩, by decide, fun H1 R1 => ?_⟩
  obtain ⟨A1, ts1, ls1, B1, f1⟩ := R1.fr
  have C1 := C.board B1 f1 (pass_ma 1 x.b).1
  have F1 := C.boardFr (ts' := ts1) (ls' := ls1) f1
  clear f1 B1
  refine ⟨_, rfl, p, CP, a.dx, _, _, rfl, C1.hp, T.cP, T.nP_counts, pF_counts, a.co, a.dc, _, rfl, C1.hco, cN_note_peek, _, rfl, p, CP, a.dx, _, _, rfl, C1.hp, T.cP, T.nP_frames, pF_frames, a.fr, a.df, _, rfl, C1.hfr, fN_innermost, a.fr, a.df, a.fl, x.strays, a.us, x.rows, rfl, C1.hfr, C1.hfl, C1.rows, by omega, a.co, a.dc, a.cd, a.cf, x.idle, x.peeked, innerM x.rows, x.spent, rfl, C1.hco, C1.hcf, by omega, fun H2 kp2 hco2 hcf2 => ?_⟩
  obtain ⟨C2, F2⟩ := C1.counts (kd' := a.kd) (ds' := x.deeds) (fun b o n1 n2 n3 e => kp2 b o n1 n2 e) hco2 hcf2 (kp2 _ _ (ne_of C1.hcd C1.hco (by intro z; cases z)) (nd_ne C1.nd (i := 6) (j := 7) (by decide) rfl rfl) C1.hcd) (C1.deeds.mono fun t xs e => kp2 _ _ (ne_of e C1.hco (by intro z; cases z)) (ne_of e C1.hcf (by intro z; cases z)) e)
  refine ⟨_, rfl, p, a.dx, _, rfl, C2.hp, pN_take_faults, S, p, _, _, rfl, C2, fun H3 s3 => ?_⟩
  have C3 : PrC CB CM CP CK CW CF CH CC CI S H3 p { a with A := A1, ts := ts1, ls := ls1, kd := a.kd } (peekedM x) := { C2.same s3 with }
  exact ⟨_, rfl, k _ _ ((F1.trans F2).trans (Fr.of_same s3)) C3⟩
end
end Bh

/-! A probe lets its board go. -/
namespace Bh
open PySem PySem.Spec PyProof.Rows L2
theorem noteH_len {bt pc f : Int} {so : Str} {h : List (Int × Str × Int)} (hl : h.length ≤ 32) : (noteHR bt so pc h f).1.length ≤ 32 := by
  unfold noteHR
  split
  · rw [List.length_drop, List.length_append, List.length_singleton]
    omega
  · rw [List.length_append, List.length_singleton]
    omega
theorem deedsR_len (so : Str) (pc bs : Int) (l : List (Int × Int × Int)) : (deedsR so pc bs l).length ≤ l.length + 1 := by
  unfold deedsR
  split
  · exact putA_len _ _ _
  · exact Nat.le_succ _
theorem PrN.note {x : Pm} (N : PrN x) : PrN (noteTM x).2 := by
  have h1 := turn_sent x.b
  have h2 := foll_len x
  have h3 := deedsR_len (turnM x.b).1 x.b.pc ((turnM x.b).2.beat - x.b.beat) x.deeds
  have h4 := putA_len x.spent (toT x) (getA x.spent (toT x) 0 + ((turnM x.b).2.beat - x.b.beat))
  have hs := N.s
  have hr := N.r
  have hd := N.d
  have ht := N.t
  have hw := (turn_sw x.b).length_le
  have hsw := N.sw
  unfold noteTM
  show PrN (if (turnM x.b).1 = "stopped" then { x with b := (turnM x.b).2, n := x.n + 1 } else passedM x)
  split
  · exact ⟨by show (turnM x.b).2.sent.length ≤ 2 * (x.n + 1); omega, by show x.rows.length ≤ x.n + 1; omega, N.h, by show x.deeds.length ≤ x.n + 1; omega, by show x.spent.length ≤ x.n + 1; omega, N.nn.turn, N.hh, by show (turnM x.b).2.sw.length ≤ x.n + 1; omega, N.we, N.wa, N.wk⟩
  · exact ⟨by show (turnM x.b).2.sent.length ≤ 2 * (x.n + 1); omega, by show (follT x).1.length ≤ x.n + 1; omega, noteH_len N.h, by show (deedsR _ _ _ _).length ≤ x.n + 1; omega, by show (putA _ _ _).length ≤ x.n + 1; omega, N.nn.turn, N.hh, by show (turnM x.b).2.sw.length ≤ x.n + 1; omega, N.we, N.wa, N.wk⟩
theorem PrN.tvd {x : Pm} (N : PrN x) (T D : V) : PrN (x.tvd T D) := ⟨N.s, N.r, N.h, N.d, N.t, N.nn.tvd T D, N.hh, N.sw, N.we, N.wa, N.wk⟩
theorem note_n (x : Pm) : (noteTM x).2.n = x.n + 1 := by
  unfold noteTM
  show (if (turnM x.b).1 = "stopped" then { x with b := (turnM x.b).2, n := x.n + 1 } else passedM x).n = _
  split <;> rfl
/-- touched and did don't matter to what goes on -/
theorem note_tvd (x : Pm) (T D : V) : ∃ T' D', noteTM (x.tvd T D) = ((noteTM x).1, (noteTM x).2.tvd T' D') := by
  have e := tvd_turn x.b T D
  refine ⟨T, D, ?_⟩
  have eb : turnM (x.tvd T D).b = ((turnM x.b).1, (turnM x.b).2.tvd T D) := e
  have ed : didV (x.tvd T D).b = didV x.b := by
    unfold didV
    rw [eb]
    rfl
  have ef : follT (x.tvd T D) = follT x := by
    unfold follT
    rw [eb, ed]
    rfl
  have et : toT (x.tvd T D) = toT x := by
    unfold toT
    rw [eb, ef]
    rfl
  unfold noteTM
  rw [eb]
  show ((turnM x.b).1, if (turnM x.b).1 = "stopped" then _ else _) = _
  split
  · rfl
  · refine congrArg (Prod.mk _) ?_
    unfold passedM
    rw [eb, ef, et]
    rfl
/-! ### the ends of a go -/
inductive En where
  | no
  | over (q dx : Addr) (d : Int) (b : Bool)
  | out (q dx : Addr) (d : Int)
def oeF (d : Int) (b : Bool) : List (Str × V) := [("depth", .int d), ("deed_done", .bl b)]
def ouF (d : Int) : List (Str × V) := [("depth", .int d)]
section
variable {d : Int} {b c : Bool}
theorem oF_depth : (oeF d b).lookup ("depth" : Str) = some (.int d) := by kernel_rfl
theorem oF_deed : (oeF d b).lookup ("deed_done" : Str) = some (.bl b) := by kernel_rfl
theorem oP_deed : putF "deed_done" (.bl c) (oeF d b) = oeF d c := by kernel_rfl
theorem uF_depth : (ouF d).lookup ("depth" : Str) = some (.int d) := by kernel_rfl
theorem oN_comes : (oeF d b).lookup ("comes" : Str) = none := by kernel_rfl
theorem uN_comes : (ouF d).lookup ("comes" : Str) = none := by kernel_rfl
end
def overB (b : Bool) (so : Str) (ahead d : Int) : Bool := if so = "deed" ∧ ahead = d then true else b
def En.step (e : En) (so : Str) (ahead : Int) : En := match e with
  | .over q dx d b => .over q dx d (overB b so ahead d)
  | e => e
def En.comes (e : En) (so : Str) (ahead now : Int) : Bool := match e with
  | .no => false
  | .over _ _ d b => overB b so ahead d && decide (now ≤ d)
  | .out _ _ d => decide (now < d)
def EnAt (CO CQ : Addr) (H : Hp) : En → V → Prop
  | .no, v => v = .non
  | .over q dx d b, v => v = .ref q ∧ H q = some (.ins CO dx (oeF d b))
  | .out q dx d, v => v = .ref q ∧ H q = some (.ins CQ dx (ouF d))
def FtE : En → Addr → Prop
  | .no, _ => False
  | .over q _ _ _, b => b = q
  | .out q _ _, b => b = q
theorem FtE_step (e : En) (so : Str) (ahead : Int) : FtE (e.step so ahead) = FtE e := by cases e <;> rfl
def FtX (p : Addr) (a : Ap) (e : En) (b : Addr) : Prop := FtP p a b ∨ FtE e b
inductive Cz where
  | none
  | stop (s : Str × List Int)
  | done
  | watch (r : Nat × Bool × Int)
  | mark (pc : Int)
def CzAt (H : Hp) (v : V) : Cz → Prop
  | .none => v = .non
  | .stop s => StopAt H v (some s)
  | .done => ∃ q, v = .ref q ∧ H q = some (.tup [.str "done"])
  | .watch r => MetAt H v (some r)
  | .mark pc => ∃ q, v = .ref q ∧ H q = some (.tup [.str "mark", .int pc])
def RzAt (H : Hp) (v : V) : Cz → Prop
  | .none => ∃ q, v = .ref q ∧ H q = some (.tup [.str "turns"])
  | .stop s => StopAt H v (some s)
  | .done => ∃ q, v = .ref q ∧ H q = some (.tup [.str "done"])
  | .watch r => MetAt H v (some r)
  | .mark pc => ∃ q, v = .ref q ∧ H q = some (.tup [.str "mark", .int pc])
/-- one turn with its end: the cause that holds it -/
def passT (e : En) (x : Pm) : Cz × En × Pm :=
  match (noteTM x).2.b.stop with
  | some s => (.stop s, e, (noteTM x).2)
  | none => match metM x.wat (touT x.b) with
    | some r => (.watch r, e, (noteTM x).2)
    | none => (if e.comes (noteTM x).1 x.rows.length (noteTM x).2.rows.length = true then .done else .none, e.step (noteTM x).1 x.rows.length, (noteTM x).2)
/-- what a go comes to -/
structure Gr where
  c : Cz
  e : En
  x : Pm
  ws : List Int
def runP (pk : Nat → List Int) : Nat → Nat → En → Pm → Gr
  | 0, _, e, x => ⟨.none, e, x, []⟩
  | n + 1, i, e, x =>
    if 0 < i ∧ meetsM (peekAll (pk i) x) = true then ⟨.mark (peekAll (pk i) x).b.pc, e, peekAll (pk i) x, peekWords (pk i) x⟩
    else match (passT e (peekAll (pk i) x)).1 with
      | .none => { runP pk n (i + 1) (passT e (peekAll (pk i) x)).2.1 (passT e (peekAll (pk i) x)).2.2 with ws := peekWords (pk i) x ++ (runP pk n (i + 1) (passT e (peekAll (pk i) x)).2.1 (passT e (peekAll (pk i) x)).2.2).ws }
      | c => ⟨c, (passT e (peekAll (pk i) x)).2.1, (passT e (peekAll (pk i) x)).2.2, peekWords (pk i) x⟩
def noPk : Nat → List Int := fun _ => []
def goP (pk : Nat → List Int) (m : Int) (e : En) (x : Pm) : Gr :=
  match x.b.stop with
  | some s => if 0 < m then ⟨.stop s, e, x, []⟩ else ⟨.none, e, x, []⟩
  | none => runP pk m.toNat 0 e x
def isOut : En → Nat
  | .no => 0
  | .over _ _ _ _ => 1
  | .out _ _ _ => 2
section
variable (CB CM CP CK CW CF CH CC CI CO CQ : Addr)
def spFT : Sp := fun vs H Q _ => ∃ (S : Hp) (p : Addr) (a : Ap) (x : Pm), vs = [.ref p] ∧ PrC CB CM CP CK CW CF CH CC CI S H p a x ∧ PrN x ∧ x.n < 99000 ∧
  ∀ H' a' T D, Fr (FtP p a) H (FtP p a') H' → PrC CB CM CP CK CW CF CH CC CI S H' p a' ((noteTM x).2.tvd T D) → Tl H' T (touT x.b) → Q (.str (noteTM x).1) H'
def spComO : Sp := fun vs H Q _ => ∃ (q dx : Addr) (so : Str) (d ahead now : Int) (b : Bool), vs = [.ref q, .str so, .int ahead, .int now] ∧ H q = some (.ins CO dx (oeF d b)) ∧
  ∀ H', (∀ c o, c ≠ q → H c = some o → H' c = some o) → H' q = some (.ins CO dx (oeF d (overB b so ahead d))) → Q (.bl (overB b so ahead d && decide (now ≤ d))) H'
def spComQ : Sp := fun vs H Q _ => ∃ (q dx : Addr) (so : Str) (d ahead now : Int), vs = [.ref q, .str so, .int ahead, .int now] ∧ H q = some (.ins CQ dx (ouF d)) ∧ Q (.bl (decide (now < d))) H
def spPT (o : Nat) : Sp := fun vs H Q _ => ∃ (S : Hp) (p : Addr) (a : Ap) (x : Pm) (e : En) (ev : V), vs = [.ref p, ev] ∧ PrC CB CM CP CK CW CF CH CC CI S H p a x ∧ PrN x ∧ x.n < 99000 ∧ EnAt CO CQ H e ev ∧ (isOut e = o ∨ e = .no) ∧ (∀ b, FtE e b → S b = none ∧ ¬ FtP p a b) ∧
  ∀ H' a' T D v, Fr (FtX p a e) H (FtX p a' e) H' → PrC CB CM CP CK CW CF CH CC CI S H' p a' ((passT e x).2.2.tvd T D) → EnAt CO CQ H' (passT e x).2.1 ev → (∀ b, FtE e b → ¬ FtP p a' b) → CzAt H' v (passT e x).1 → Q v H'
end
section
variable {P : Program} {w : World} {K : PySem.W.Frag} {mg : Str → Option Value} {base : Heap} {CB CM CP CK CW CF CH CC CI CS CO CQ : Addr}

abbrev sMft : Stmt := inClass (topS 97) 24
def scMftN : List Str := ["self", "fault", "sort"]
theorem scMft : FnScope scMftN ["self"] (defScope sMft) := ⟨rfl, rfl, rfl, by decide +kernel, rfl, by decide +kernel, by decide +kernel⟩
theorem ok_Mft {f : Addr} {fd : FuncData} {fM_bnd : Addr} {dM_bnd : FuncData} {fM_cme : Addr} {dM_cme : FuncData} {fM_nt : Addr} {dM_nt : FuncData} {fM_tf : Addr} {dM_tf : FuncData} (F : Fun K "follow_turn" "Probe.follow_turn" sMft f fd) (T : Ty K mg CB CM CP CK CW CF CH CC CI CS)
    (M_bnd : CalM P w K mg base CI 1 "bending" ["self", "beat"] (spBnd CI) fM_bnd dM_bnd)
    (M_cme : CalM P w K mg base CI 1 "come" ["self", "fault", "beat"] (spNo) fM_cme dM_cme)
    (M_nt : CalM P w K mg base CP 7 "note_turn" ["self"] (spNT CB CM CP CK CW CF CH CC CI) fM_nt dM_nt)
    (M_tf : CalM P w K mg base CP 3 "take_faults" ["self"] (spTf CB CM CP CK CW CF CH CC CI) fM_tf dM_tf) : FnOk P w K mg base CX0 8 f fd ["self"] (spFT CB CM CP CK CW CF CH CC CI) := by
  refine F.ok scMft (fun vs H Q E h => by obtain ⟨_, _, _, _, rfl, _⟩ := h; rfl) (fun cdv A outer s H vs Q E hr h => ?_)
  have hu := hu_of hr
  obtain ⟨S, p, a, x, rfl, C, N, hn, k⟩ := h
  obtain ⟨sv, tv, dv, hpb, hz⟩ := C.B.hp
  refine ⟨_, (pss_cons (ps_set (i := 1) scMft.nd rfl (.inl rfl) (pe_meth (pe_fld (pv 0) rfl) M_bnd.c M_bnd.m M_bnd.G (hr.mono (by decide)) M_bnd.b .nil pass0 (pa_cons (pe_fld (pe_fld (pv 0) rfl) rfl) pa_nil)))
    (pss_cons (ps_if (pt_cmp (pc_isN (pv 1))) (pss_one (ps_set (i := 2) scMft.nd rfl (.inl rfl) (pe_meth0 (pv 0) M_nt.c M_nt.m M_nt.G (hr.mono (by decide)) M_nt.b .nil pass0))) (pss_cons (ps_fld (pe_fld (pv 0) rfl) (pe_ix ix_list (pv 1) pe_int (fun _ _ => rfl)) rfl)
    (pss_cons (ps_set (i := 2) scMft.nd rfl (.inl rfl) (pe_meth0 (pv 0) M_nt.c M_nt.m M_nt.G (hr.mono (by decide)) M_nt.b .nil pass0))
    (pss_cons (ps_if (pt_cmpR op_eq (pe_fld (pe_fld (pv 0) rfl) rfl) pe_int (nomark _)) (pss_one (ps_expr (pe_meth (pe_fld (pv 0) rfl) M_cme.c M_cme.m M_cme.G (hr.mono (by decide)) M_cme.b .nil pass0 (pa_cons (pv 1) (pa_cons (pe_fld (pe_fld (pv 0) rfl) rfl) pa_nil))))) pss_nil)
    (pss_one (ps_fld (pe_fld (pv 0) rfl) pe_int rfl))))))
    (pss_cons (ps_expr (pe_meth0 (pv 0) M_tf.c M_tf.m M_tf.G (hr.mono (by decide)) M_tf.b .nil pass0))
    (pss_one (ps_ret (pv 2)))))), ?_⟩
  refine ⟨_, rfl, p, CP, a.dx, _, _, rfl, C.hp, T.cP, T.nP_mishaps, pF_mishaps, a.mi, a.dm, _, rfl, C.sm _ _ C.hmi, iN_bending, _, rfl, p, CP, a.dx, _, _, rfl, C.hp, T.cP, T.nP_board, pF_board, a.bd, CB, a.A.dx, _, _, rfl, hpb, T.cB, T.n_beat, bF_beat, a.mi, a.dm, a.ml, a.mr, x.b.beat, rfl, C.sm _ _ C.hmi, C.sm _ _ C.hml, ?_⟩
  refine ⟨_, rfl, _, rfl, ifB (fun _ => ?_) (fun h => absurd rfl (of_decide_eq_false h))⟩
  refine ⟨_, rfl, p, a.dx, _, rfl, C.hp, pN_note_turn, S, p, a, x, rfl, C, N, hn, fun H1 a1 T_ D_ F1 C1 tl => ?_⟩
  refine ⟨_, rfl, p, a1.dx, _, rfl, C1.hp, pN_take_faults, S, p, a1, _, rfl, C1, fun H2 s2 => ?_⟩
  refine ⟨_, rfl, k H2 a1 T_ D_ (F1.trans (Fr.of_same s2)) (C1.same s2) ?_⟩
  obtain ⟨tl, us, e, h1, h2⟩ := tl
  exact ⟨tl, us, e, s2 _ _ h1, h2.mono fun t xs q => s2 _ _ q⟩
end
end Bh

/-! A turn with its end. -/
namespace Bh
open PySem PySem.Spec PyProof.Rows L2
section
variable {CB CM CP CK CW CF CH CC CI : Addr} {S H H' : Hp} {p q : Addr} {a : Ap} {x : Pm}
theorem PrC.kept1 (C : PrC CB CM CP CK CW CF CH CC CI S H p a x) (k : ∀ c o, c ≠ q → H c = some o → H' c = some o) (nf : ¬ FtP p a q) (ns : S q = none) (nt : ∀ xs, H q ≠ some (.tup xs)) : PrC CB CM CP CK CW CF CH CC CI S H' p a x :=
  C.keep (fun b o e => k b o (fun z => by rw [z, ns] at e; cases e) (C.sm _ _ e)) (fun b o h e => k b o (fun z => nf (z ▸ h)) e) (fun b xs e => k b _ (fun z => nt xs (z ▸ e)) e)
end
theorem note_wat (x : Pm) : (noteTM x).2.wat = x.wat := by
  unfold noteTM
  show (if (turnM x.b).1 = "stopped" then { x with b := (turnM x.b).2, n := x.n + 1 } else passedM x).wat = _
  split <;> rfl
theorem pe_never {X : Cx} {x : Expr} : PE X x (fun _ _ _ => False) := ⟨fun _ _ _ _ _ _ h => h.elim⟩
theorem Fr.ext {p : Addr} {a a' : Ap} {e : En} {H H' : Hp} (f : Fr (FtP p a) H (FtP p a') H') : Fr (FtX p a e) H (FtX p a' e) H' where
  keep := fun b o n h => f.keep b o (fun z => n (.inl z)) h
  new := fun b z => by
    rcases z with z | z
    · rcases f.new b z with y | y
      · exact .inl (.inl y)
      · exact .inr y
    · exact .inl (.inr z)
theorem Fr.one {F : Addr → Prop} {q : Addr} {H H' : Hp} (h : F q) (k : ∀ c o, c ≠ q → H c = some o → H' c = some o) : Fr F H F H' := ⟨fun b o n e => k b o (fun z => n (z ▸ h)) e, fun _ z => .inl z⟩
section
variable {P : Program} {w : World} {K : PySem.W.Frag} {mg : Str → Option Value} {base : Heap} {CB CM CP CK CW CF CH CC CI CS CO CQ : Addr}
abbrev sMptn : Stmt := inClass (topS 97) 23
def scMptnN : List Str := ["self", "end", "depth", "sort", "cause"]
theorem scMptn : FnScope scMptnN ["self", "end"] (defScope sMptn) := ⟨rfl, rfl, rfl, by decide +kernel, rfl, by decide +kernel, by decide +kernel⟩
theorem ok_Mptn {f : Addr} {fd : FuncData} {fM_ft : Addr} {dM_ft : FuncData} {fM_met : Addr} {dM_met : FuncData} (F : Fun K "pass_turn" "Probe.pass_turn" sMptn f fd) (T : Ty K mg CB CM CP CK CW CF CH CC CI CS)
    (M_ft : CalM P w K mg base CP 8 "follow_turn" ["self"] (spFT CB CM CP CK CW CF CH CC CI) fM_ft dM_ft)
    (M_met : CalM P w K mg base CW 1 "met" ["self", "touches"] (spMet CW) fM_met dM_met) : FnOk P w K mg base CX0 9 f fd ["self", "end"] (spPT CB CM CP CK CW CF CH CC CI CO CQ 3) := by
  refine F.ok scMptn (fun vs H Q E h => by obtain ⟨_, _, _, _, _, _, rfl, _⟩ := h; rfl) (fun cdv A outer s H vs Q E hr h => ?_)
  have hu := hu_of hr
  have z_len := T.z_len
  obtain ⟨S, p, a, x, e, ev, rfl, C, N, hn, he, hio, heo, k⟩ := h
  refine ⟨_, (pss_cons (ps_set (i := 2) scMptn.nd rfl (.inl rfl) (pe_callB call_len_seq (by rfl) z_len PySem.boot_len (pa_cons (pe_fld (pe_fld (pv 0) rfl) rfl) pa_nil)))
    (pss_cons (ps_set (i := 3) scMptn.nd rfl (.inl rfl) (pe_meth0 (pv 0) M_ft.c M_ft.m M_ft.G (hr.mono (by decide)) M_ft.b .nil pass0))
    (pss_cons (ps_if (pt_cmp (pc_notN (pe_fld (pe_fld (pv 0) rfl) rfl))) (pss_one (ps_ret (pe_fld (pe_fld (pv 0) rfl) rfl))) pss_nil)
    (pss_cons (ps_set (i := 4) scMptn.nd rfl (.inl rfl) (pe_meth (pe_fld (pv 0) rfl) M_met.c M_met.m M_met.G (hr.mono (by decide)) M_met.b .nil pass0 (pa_cons (pe_fld (pe_fld (pv 0) rfl) rfl) pa_nil)))
    (pss_cons (ps_if (PW.pt (pw_and (pt_cmp (pc_isN (pv 4))) (pw_and (pt_cmp (pc_notN (pv 1))) (pw_and1 (pt_val pe_never))))) (pss_one (ps_ret (pe_tup (pa_cons pe_str pa_nil)))) pss_nil)
    (pss_one (ps_ret (pv 4)))))))), ?_⟩
  have el := C.rows.len
  refine ⟨_, rfl, p, CP, a.dx, _, _, rfl, C.hp, T.cP, T.nP_frames, pF_frames, a.fr, CF, a.df, _, _, rfl, C.hfr, T.cF, T.nF_rows, fF_rows, a.fl, _, rfl, .inl (SqL.of C.hfl), ?_⟩
  rw [el]
  refine ⟨_, rfl, p, a.dx, _, rfl, C.hp, pN_follow_turn, S, p, a, x, rfl, C, N, hn, fun H1 a1 T_ D_ F1 C1 tl1 => ?_⟩
  obtain ⟨sv1, tv1, dv1, hpb1, hz1⟩ := C1.B.hp
  refine ⟨_, rfl, p, CP, a1.dx, _, _, rfl, C1.hp, T.cP, T.nP_board, pF_board, a1.bd, CB, a1.A.dx, _, _, rfl, hpb1, T.cB, T.n_stopped, bF_stop, _, rfl, ?_⟩
  obtain ⟨hs1, ht1, hd1⟩ := hz1
  have ent : ∀ b, FtE e b → ¬ FtP p a1 b := fun b h z => by
    rcases F1.new b z with y | y
    · exact (heo b h).2 y
    · cases e with
      | no => exact h
      | over q dx d c =>
        have h : b = q := h
        rw [h, he.2] at y
        cases y
      | out q dx d =>
        have h : b = q := h
        rw [h, he.2] at y
        cases y
  have he1 : EnAt CO CQ H1 e ev := by
    cases e with
    | no => exact he
    | over q dx d c => exact ⟨he.1, F1.keep _ _ (heo q rfl).2 he.2⟩
    | out q dx d => exact ⟨he.1, F1.keep _ _ (heo q rfl).2 he.2⟩
  unfold passT at k
  cases es : (noteTM x).2.b.stop with
  | some r =>
    rw [es] at k
    have hs1 : StopAt H1 sv1 (noteTM x).2.b.stop := hs1
    rw [es] at hs1
    refine ifN (fun _ => ?_) (fun h => ?_)
    · exact ⟨_, rfl, p, CP, a1.dx, _, _, rfl, C1.hp, T.cP, T.nP_board, pF_board, a1.bd, CB, a1.A.dx, _, _, rfl, hpb1, T.cB, T.n_stopped, bF_stop, k H1 a1 T_ D_ sv1 F1.ext C1 he1 ent hs1⟩
    · obtain ⟨q9, rfl, _⟩ := hs1
      cases of_decide_eq_true h
  | none =>
    rw [es] at k
    have hs1 : StopAt H1 sv1 (noteTM x).2.b.stop := hs1
    rw [es] at hs1
    have hs1 : sv1 = .non := hs1
    subst hs1
    refine ifN (fun h => absurd rfl (of_decide_eq_false h)) (fun _ => ?_)
    obtain ⟨tl, us, et, h1, h2⟩ := tl1
    have ht1 : tv1 = T_ := ht1
    rw [et] at ht1
    subst ht1
    have ew : (noteTM x).2.wat = x.wat := note_wat x
    refine ⟨_, rfl, p, CP, a1.dx, _, _, rfl, C1.hp, T.cP, T.nP_watching, pF_watching, a1.wa, a1.dw, _, rfl, C1.hwa, wN_met, _, rfl, p, CP, a1.dx, _, _, rfl, C1.hp, T.cP, T.nP_board, pF_board, a1.bd, CB, a1.A.dx, _, _, rfl, hpb1, T.cB, T.n_touched, bF_tou, a1.wa, a1.dw, a1.wr, tl, a1.wv, us, x.wat, touT x.b, rfl, C1.hwa, C1.hwr, (by rw [← ew]; exact C1.wts), N.wk, h1, h2, fun H2 vm s2 hm => ?_⟩
    have C2 := C1.same s2
    have F2 := F1.trans (Fr.of_same s2)
    have he2 : EnAt CO CQ H2 e ev := by
      cases e with
      | no => exact he1
      | over q dx d c => exact ⟨he1.1, s2 _ _ he1.2⟩
      | out q dx d => exact ⟨he1.1, s2 _ _ he1.2⟩
    cases em : metM x.wat (touT x.b) with
    | some r =>
      rw [em] at hm k
      obtain ⟨qm, rfl, hqm⟩ := hm
      refine ⟨_, rfl, _, rfl, ifB (fun h => by cases of_decide_eq_true h) (fun _ => ?_)⟩
      exact ⟨_, rfl, k H2 a1 T_ D_ (.ref qm) F2.ext C2 he2 ent ⟨qm, rfl, hqm⟩⟩
    | none =>
    rw [em] at hm k
    obtain rfl : vm = .non := hm
    refine ⟨_, rfl, _, rfl, ifB (fun _ => ?_) (fun h => absurd rfl (of_decide_eq_false h))⟩
    have el1 : a1.us.length = (noteTM x).2.rows.length := C1.rows.len
    cases e with
    | no =>
      obtain rfl : ev = .non := he2
      exact ⟨_, rfl, _, rfl, ifN (fun h => absurd rfl (of_decide_eq_false h)) (fun _ => ⟨_, rfl, k H2 a1 T_ D_ .non F2.ext C2 rfl ent rfl⟩)⟩
    | over q dx d c => rcases hio with h | h <;> cases h
    | out q dx d => rcases hio with h | h <;> cases h
end
end Bh

/-! Turns go by till something holds the board. -/
namespace Bh
open PySem PySem.Spec PyProof.Rows L2
theorem passT_tvd (e : En) (x : Pm) (T D : V) : ∃ T' D', passT e (x.tvd T D) = ((passT e x).1, (passT e x).2.1, (passT e x).2.2.tvd T' D') := by
  obtain ⟨T', D', h⟩ := note_tvd x T D
  refine ⟨T', D', ?_⟩
  have et : touT (x.tvd T D).b = touT x.b := by
    unfold touT
    rw [show turnM (x.tvd T D).b = ((turnM x.b).1, (turnM x.b).2.tvd T D) from tvd_turn x.b T D]
    rfl
  unfold passT
  rw [h, et]
  show (match (noteTM x).2.b.stop with
    | some s => _
    | none => match metM x.wat (touT x.b) with
      | some r => _
      | none => _) = _
  cases (noteTM x).2.b.stop with
  | some s => rfl
  | none => cases metM x.wat (touT x.b) <;> rfl
theorem PrN.pass {x : Pm} (N : PrN x) (e : En) : PrN (passT e x).2.2 := by
  have h := N.note
  unfold passT
  cases (noteTM x).2.b.stop with
  | some s => exact h
  | none => cases metM x.wat (touT x.b) <;> exact h
theorem pass_n (e : En) (x : Pm) : (passT e x).2.2.n = x.n + 1 := by
  have h := note_n x
  unfold passT
  cases (noteTM x).2.b.stop with
  | some s => exact h
  | none => cases metM x.wat (touT x.b) <;> exact h
theorem pass_en (e : En) (x : Pm) : FtE (passT e x).2.1 = FtE e ∧ isOut (passT e x).2.1 = isOut e ∧ ((passT e x).2.1 = .no ↔ e = .no) := by
  unfold passT
  cases (noteTM x).2.b.stop with
  | some s => exact ⟨rfl, rfl, Iff.rfl⟩
  | none => cases metM x.wat (touT x.b) with
    | some r => exact ⟨rfl, rfl, Iff.rfl⟩
    | none => cases e <;> refine ⟨rfl, rfl, ?_⟩ <;> constructor <;> intro h <;> cases h <;> rfl
theorem pass_mark (e : En) (x : Pm) : ∀ pc, (passT e x).1 ≠ .mark pc := by
  unfold passT
  cases (noteTM x).2.b.stop with
  | some s => intro pc z; cases z
  | none => cases metM x.wat (touT x.b) with
    | some r => intro pc z; cases z
    | none =>
      intro pc z
      dsimp only at z
      split at z <;> cases z
theorem peeked_tvd (x : Pm) (T D : V) : peekedM (x.tvd T D) = (peekedM x).tvd T D := by
  have e : passM 1 (x.tvd T D).b = (passM 1 x.b).tvd T D := tvd_pass 1 x.b T D
  unfold peekedM
  rw [e]
  rfl
theorem PrN.peeked {x : Pm} (N : PrN x) : PrN (peekedM x) := by
  have h4 := putA_len x.spent (innerM x.rows) (getA x.spent (innerM x.rows) 0 + 1)
  have hs := N.s
  have hr := N.r
  have hd := N.d
  have ht := N.t
  have hw := N.sw
  exact ⟨by show (passM 1 x.b).sent.length ≤ 2 * (x.n + 1); rw [pass_sent]; omega, by show x.rows.length ≤ x.n + 1; omega, N.h, by show x.deeds.length ≤ x.n + 1; omega, by show (putA _ _ _).length ≤ x.n + 1; omega, N.nn.pass 1, N.hh, by show (passM 1 x.b).sw.length ≤ x.n + 1; rw [(pass_sw 1 x.b).1]; omega, N.we, N.wa, N.wk⟩
theorem peekAll_snoc (i : Int) : ∀ (l : List Int) (x : Pm), peekAll (l ++ [i]) x = peekedM (peekAll l x)
  | [], _ => rfl
  | _ :: l, x => peekAll_snoc i l (peekedM x)
theorem peekWords_snoc (i : Int) : ∀ (l : List Int) (x : Pm), peekWords (l ++ [i]) x = peekWords l x ++ [rd (peekAll l x).b.mem i]
  | [], _ => rfl
  | _ :: l, x => congrArg (_ :: ·) (peekWords_snoc i l (peekedM x))
theorem peekWords_len : ∀ (l : List Int) (x : Pm), (peekWords l x).length = l.length
  | [], _ => rfl
  | _ :: l, x => congrArg (· + 1) (peekWords_len l (peekedM x))
theorem peekAll_n : ∀ (l : List Int) (x : Pm), (peekAll l x).n = x.n + l.length
  | [], _ => rfl
  | _ :: l, x => by
    show (peekAll l (peekedM x)).n = _
    rw [peekAll_n l]
    show x.n + 1 + l.length = x.n + (l.length + 1)
    omega
theorem PrN.peekAll : ∀ (l : List Int) {x : Pm}, PrN x → PrN (Bh.peekAll l x)
  | [], _, N => N
  | _ :: l, _, N => PrN.peekAll l N.peeked
/-- how many words are peeked in so many turns -/
def pkN (f : Nat → List Int) : Nat → Nat
  | 0 => 0
  | i + 1 => pkN f i + (f i).length
theorem pkN_mono (f : Nat → List Int) : ∀ {i j : Nat}, i ≤ j → pkN f i ≤ pkN f j
  | i, 0, h => by
    obtain rfl : i = 0 := Nat.le_zero.mp h
    exact Nat.le_refl _
  | i, j + 1, h => by
    rcases Nat.lt_or_eq_of_le h with h | h
    · exact Nat.le_trans (pkN_mono f (Nat.le_of_lt_succ h)) (Nat.le_add_right _ _)
    · rw [h]
      exact Nat.le_refl _
theorem pkN_no : ∀ i, pkN noPk i = 0
  | 0 => rfl
  | i + 1 => by
    show pkN noPk i + 0 = 0
    rw [pkN_no i]
/-- the peeked addresses by their turns, none of them own -/
def PkAt (H : Hp) (F : Addr → Prop) (pk : Addr) (f : Nat → List Int) : Prop := ∃ kv, ¬ F pk ∧ H pk = some (.dK kv) ∧ ∀ i : Nat, (valV kv (Sum.inl (i : Int)) = none ∧ f i = []) ∨ ∃ a, valV kv (Sum.inl (i : Int)) = some (.ref a) ∧ ¬ F a ∧ H a = some (.lst ((f i).map V.int))
theorem PkAt.fr {H H' : Hp} {F F' : Addr → Prop} {pk : Addr} {f : Nat → List Int} (A : PkAt H F pk f) (r : Fr F H F' H') : PkAt H' F' pk f := by
  obtain ⟨kv, n, h, q⟩ := A
  have nf : ∀ {b : Addr} {o : HO}, ¬ F b → H b = some o → ¬ F' b := fun n e z => by
    rcases r.new _ z with y | y
    · exact n y
    · rw [e] at y; cases y
  refine ⟨kv, nf n h, r.keep _ _ n h, fun i => ?_⟩
  rcases q i with q | ⟨a, q1, q2, q3⟩
  · exact .inl q
  · exact .inr ⟨a, q1, nf q2 q3, r.keep _ _ q2 q3⟩
theorem PkAt.same {H H' : Hp} {F : Addr → Prop} {pk : Addr} {f : Nat → List Int} (A : PkAt H F pk f) (s : Same H H') : PkAt H' F pk f := by
  obtain ⟨kv, n, h, q⟩ := A
  refine ⟨kv, n, s _ _ h, fun i => ?_⟩
  rcases q i with q | ⟨a, q1, q2, q3⟩
  · exact .inl q
  · exact .inr ⟨a, q1, q2, s _ _ q3⟩
def FtW (p : Addr) (a : Ap) (e : En) (wl b : Addr) : Prop := FtX p a e b ∨ b = wl
theorem Fr.wl {p wl : Addr} {a a' : Ap} {e : En} {H H' : Hp} (f : Fr (FtX p a e) H (FtX p a' e) H') : Fr (FtW p a e wl) H (FtW p a' e wl) H' where
  keep := fun b o n h => f.keep b o (fun z => n (.inl z)) h
  new := fun b z => by
    rcases z with z | z
    · rcases f.new b z with y | y
      · exact .inl (.inl y)
      · exact .inr y
    · exact .inl (.inr z)
theorem Gr.app {r : Gr} {a b c : List Int} (h : c = a ++ b) : ({ r with ws := c ++ r.ws } : Gr) = { ({ r with ws := b ++ r.ws } : Gr) with ws := a ++ (b ++ r.ws) } := by
  rw [h, List.append_assoc]
section
variable (CB CM CP CK CW CF CH CC CI CO CQ : Addr)
def spNG : Sp := fun vs H Q _ => ∃ (S : Hp) (p : Addr) (a : Ap) (x : Pm) (v : V) (b : Bool), vs = [.ref p, v, .bl b] ∧ PrC CB CM CP CK CW CF CH CC CI S H p a x ∧ Q .non H
def spLG (o : Nat) : Sp := fun vs H Q _ => ∃ (S : Hp) (p : Addr) (a : Ap) (x : Pm) (e : En) (ev : V) (m : Int) (pk wl : Addr) (f : Nat → List Int) (ws0 : List Int), vs = [.ref p, .int m, .ref pk, .ref wl, ev] ∧ PrC CB CM CP CK CW CF CH CC CI S H p a x ∧ PrN x ∧ 0 ≤ m ∧ m ≤ 1000 ∧ (x.n : Int) + m + (pkN f m.toNat : Int) < 99000 ∧
  EnAt CO CQ H e ev ∧ (isOut e = o ∨ e = .no) ∧ (∀ b, FtE e b → S b = none ∧ ¬ FtP p a b) ∧ PkAt H (FtW p a e wl) pk f ∧ (∀ i, ∀ w ∈ f i, 0 ≤ w ∧ w < 774) ∧ H wl = some (.lst (ws0.map V.int)) ∧ ¬ FtX p a e wl ∧ S wl = none ∧ ws0.length ≤ 1000 ∧
  ∀ H' a' T D v, Fr (FtW p a e wl) H (FtW p a' e wl) H' → PrC CB CM CP CK CW CF CH CC CI S H' p a' ((goP f m e x).x.tvd T D) → EnAt CO CQ H' (goP f m e x).e ev → (∀ b, FtE e b → ¬ FtP p a' b) → H' wl = some (.lst ((ws0 ++ (goP f m e x).ws).map V.int)) → ¬ FtX p a' e wl → RzAt H' v (goP f m e x).c → Q v H'
end
section
variable {P : Program} {w : World} {K : PySem.W.Frag} {mg : Str → Option Value} {base : Heap} {CB CM CP CK CW CF CH CC CI CS CO CQ : Addr}
abbrev sMng : Stmt := inClass (topS 97) 20
def scMngN : List Str := ["self", "addresses", "whole"]
theorem scMng : FnScope scMngN ["self", "addresses", "whole"] (defScope sMng) := ⟨rfl, rfl, rfl, by decide +kernel, rfl, by decide +kernel, by decide +kernel⟩
theorem ok_Mng {f : Addr} {fd : FuncData} {fM_ngv : Addr} {dM_ngv : FuncData} (F : Fun K "note_gone" "Probe.note_gone" sMng f fd) (T : Ty K mg CB CM CP CK CW CF CH CC CI CS)
    (M_ngv : CalM P w K mg base CP 1 "note_gone" ["self", "addresses", "whole"] (spNo) fM_ngv dM_ngv) : FnOk P w K mg base CX0 2 f fd ["self", "addresses", "whole"] (spNG CB CM CP CK CW CF CH CC CI) := by
  refine F.ok scMng (fun vs H Q E h => by obtain ⟨_, _, _, _, _, _, rfl, _⟩ := h; rfl) (fun cdv A outer s H vs Q E hr h => ?_)
  have hu := hu_of hr
  obtain ⟨S, p, a, x, v, b_, rfl, C, k⟩ := h
  refine ⟨_, (pss_one (ps_if (pt_cmp (pc_notN (pe_fld (pv 0) rfl))) (pss_one (ps_expr (pe_meth (pe_fld (pv 0) rfl) M_ngv.c M_ngv.m M_ngv.G (hr.mono (by decide)) M_ngv.b .nil pass0 (pa_cons (pv 1) (pa_cons (pv 2) pa_nil))))) pss_nil)), ?_⟩
  exact ⟨_, rfl, p, CP, a.dx, _, _, rfl, C.hp, T.cP, T.nP_course, pF_course, _, rfl, ifN (fun h => absurd rfl (of_decide_eq_false h)) (fun _ => k)⟩
abbrev sMlgn : Stmt := inClass (topS 97) 19
def scMlgnN : List Str := ["self", "most", "peeks", "words", "end", "number", "addresses", "address", "cause"]
theorem scMlgn : FnScope scMlgnN ["self", "most", "peeks", "words", "end"] (defScope sMlgn) := ⟨rfl, rfl, rfl, by decide +kernel, rfl, by decide +kernel, by decide +kernel⟩
theorem ok_Mlgn {f : Addr} {fd : FuncData} {fM_mm : Addr} {dM_mm : FuncData} {fM_ng : Addr} {dM_ng : FuncData} {fM_peek : Addr} {dM_peek : FuncData} {fM_ptn : Addr} {dM_ptn : FuncData} (F : Fun K "let_go" "Probe.let_go" sMlgn f fd) (T : Ty K mg CB CM CP CK CW CF CH CC CI CS)
    (M_mm : CalM P w K mg base CP 3 "meets_mark" ["self"] (spMm CB CM CP CK CW CF CH CC CI) fM_mm dM_mm)
    (M_ng : CalM P w K mg base CP 2 "note_gone" ["self", "addresses", "whole"] (spNG CB CM CP CK CW CF CH CC CI) fM_ng dM_ng)
    (M_peek : CalM P w K mg base CP 6 "peek" ["self", "address"] (spPk CB CM CP CK CW CF CH CC CI) fM_peek dM_peek)
    (M_ptn : CalM P w K mg base CP 9 "pass_turn" ["self", "end"] (spPT CB CM CP CK CW CF CH CC CI CO CQ 3) fM_ptn dM_ptn) : FnOk P w K mg base CX0 10 f fd ["self", "most", "peeks", "words", "end"] (spLG CB CM CP CK CW CF CH CC CI CO CQ 3) := by
  refine F.ok scMlgn (fun vs H Q E h => by obtain ⟨_, _, _, _, _, _, _, _, _, _, _, rfl, _⟩ := h; rfl) (fun cdv A outer s H vs Q E hr h => ?_)
  have hu := hu_of hr
  have z_range := T.z_range
  obtain ⟨S, p, a, x, e, ev, m, pk, wl, f, ws0, rfl, C, N, m0, m1, hn, he, hio, heo, hpk, hfo, hwl, nwl, Swl, hws0, k⟩ := h
  obtain ⟨sv, tv, dv, hpb, hz⟩ := C.B.hp
  refine ⟨_, (pss_cons (ps_if (PW.pt (pw_and (pt_cmpR op_gt (pv 1) pe_int (nomark _)) (pw_and1 (pt_cmp (pc_notN (pe_fld (pe_fld (pv 0) rfl) rfl)))))) (pss_one (ps_ret (pe_fld (pe_fld (pv 0) rfl) rfl))) pss_nil)
    (pss_cons (ps_for PassesOwn.never rfl (pi_range1 (by rfl) z_range (pa_cons (pv 1) pa_nil)) (pg_name (i := 5) scMlgn.nd rfl (.inl rfl))
      (pss_cons (ps_set (i := 6) scMlgn.nd rfl (.inl rfl) (pe_dget2 hu (pv 2) (pv 5) (pe_lst pa_nil) ⟨rfl, rfl, rfl, rfl⟩))
    (pss_cons (ps_for PassesOwn.never rfl (pi_list (pv 6)) (pg_name (i := 7) scMlgn.nd rfl (.inl rfl))
      (pss_one (ps_expr (pe_bm PySem.F.plainAttrs_list PySem.F.slot_list_append PySem.F.type_list_append mt_append (pv 3) (pa_cons (pe_meth (pv 0) M_peek.c M_peek.m M_peek.G (hr.mono (by decide)) M_peek.b .nil pass0 (pa_cons (pv 7) pa_nil)) pa_nil)))))
    (pss_cons (ps_if (PW.pt (pw_and (pt_cmpR op_gt (pv 5) pe_int (nomark _)) (pw_and1 (pt_val (pe_meth0 (pv 0) M_mm.c M_mm.m M_mm.G (hr.mono (by decide)) M_mm.b .nil pass0))))) (pss_cons (ps_expr (pe_meth (pv 0) M_ng.c M_ng.m M_ng.G (hr.mono (by decide)) M_ng.b .nil pass0 (pa_cons (pv 6) (pa_cons pe_bl pa_nil))))
    (pss_one (ps_ret (pe_tup (pa_cons pe_str (pa_cons (pe_dget hu (pe_fld (pe_fld (pv 0) rfl) rfl) pe_str (fun _ _ => rfl)) pa_nil)))))) pss_nil)
    (pss_cons (ps_set (i := 8) scMlgn.nd rfl (.inl rfl) (pe_meth (pv 0) M_ptn.c M_ptn.m M_ptn.G (hr.mono (by decide)) M_ptn.b .nil pass0 (pa_cons (pv 4) pa_nil)))
    (pss_cons (ps_expr (pe_meth (pv 0) M_ng.c M_ng.m M_ng.G (hr.mono (by decide)) M_ng.b .nil pass0 (pa_cons (pv 6) (pa_cons pe_bl pa_nil))))
    (pss_one (ps_if (pt_cmp (pc_notN (pv 8))) (pss_one (ps_ret (pv 8))) pss_nil))))))))
    (pss_one (ps_ret (pe_tup (pa_cons pe_str pa_nil)))))), ?_⟩
  cases es : x.b.stop with
  | some r =>
    rw [es] at hz
    obtain ⟨hs, ht_, hd_⟩ := hz
    by_cases hm : 0 < m
    · have ek : goP f m e x = ⟨.stop r, e, x, []⟩ := by
        unfold goP
        rw [es]
        exact if_pos hm
      rw [ek] at k
      refine ⟨_, rfl, _, _, rfl, rfl, _, rfl, ifB (fun _ => ?_) (fun h => absurd hm (of_decide_eq_false h))⟩
      refine ⟨_, rfl, p, CP, a.dx, _, _, rfl, C.hp, T.cP, T.nP_board, pF_board, a.bd, CB, a.A.dx, _, _, rfl, hpb, T.cB, T.n_stopped, bF_stop, _, rfl, ifN (fun _ => ?_) (fun h => ?_)⟩
      · exact ⟨_, rfl, p, CP, a.dx, _, _, rfl, C.hp, T.cP, T.nP_board, pF_board, a.bd, CB, a.A.dx, _, _, rfl, hpb, T.cB, T.n_stopped, bF_stop, k H a x.b.tv x.b.dv sv Fr.rfl' C he (fun b h => (heo b h).2) (by rw [List.append_nil]; exact hwl) nwl hs⟩
      · obtain ⟨q9, rfl, _⟩ := hs
        cases of_decide_eq_true h
    · have ek : goP f m e x = ⟨.none, e, x, []⟩ := by
        unfold goP
        rw [es]
        exact if_neg hm
      have e0 : m.toNat = 0 := by omega
      refine ⟨_, rfl, _, _, rfl, rfl, _, rfl, ifB (fun h => absurd (of_decide_eq_true h) hm) (fun _ => ifB (fun h => by cases h) (fun _ => ?_))⟩
      refine ⟨_, rfl, m, rfl, by omega, by omega, ?_⟩
      rw [e0]
      refine for_range (lo := 0) (n := 0) (fun i σ H' => H' = H) rfl (fun i _ _ h => absurd h (Nat.not_lt_zero _)) ?_
      rintro σ H' rfl
      rw [ek] at k
      refine ⟨(by show 1 ≤ sizeLine; decide), fun t nt => ?_⟩
      have s9 := same_upd' (o := .tup [V.str "turns"]) nt
      refine k _ a x.b.tv x.b.dv (.ref t) (Fr.of_same s9) (C.same s9) ?_ (fun b h => (heo b h).2) (by rw [List.append_nil]; exact s9 _ _ hwl) nwl ⟨t, rfl, upd_same⟩
      cases e with
      | no => exact he
      | over q dx d c => exact ⟨he.1, s9 _ _ he.2⟩
      | out q dx d => exact ⟨he.1, s9 _ _ he.2⟩
  | none =>
    rw [es] at hz
    obtain ⟨hs, ht_, hd_⟩ := hz
    obtain rfl : sv = .non := hs
    have eg : goP f m e x = runP f m.toNat 0 e x := by
      unfold goP
      rw [es]
    refine ⟨_, rfl, _, _, rfl, rfl, _, rfl, ifB (fun _ => ?_) (fun _ => ?_)⟩
    · refine ⟨_, rfl, p, CP, a.dx, _, _, rfl, C.hp, T.cP, T.nP_board, pF_board, a.bd, CB, a.A.dx, _, _, rfl, hpb, T.cB, T.n_stopped, bF_stop, _, rfl, ifN (fun h => absurd rfl (of_decide_eq_false h)) (fun _ => ?_)⟩
      refine ⟨_, rfl, m, rfl, by omega, by omega, ?_⟩
      refine for_range (lo := 0) (n := m.toNat) (fun i σ H' => ∃ (y6 y7 y8 y9 : Option V) (ai : Ap) (xi : Pm) (ei : En) (T_ D_ : V) (wi : List Int), σ = [some (.ref p), some (.int m), some (.ref pk), some (.ref wl), some ev, y6, y7, y8, y9] ∧ PrC CB CM CP CK CW CF CH CC CI S H' p ai (xi.tvd T_ D_) ∧ PrN xi ∧ xi.n = x.n + i + pkN f i ∧ Fr (FtW p a e wl) H (FtW p ai e wl) H' ∧ EnAt CO CQ H' ei ev ∧ FtE ei = FtE e ∧ (isOut ei = 3 ∨ ei = .no) ∧ (∀ b, FtE e b → ¬ FtP p ai b) ∧ PkAt H' (FtW p ai e wl) pk f ∧ H' wl = some (.lst ((ws0 ++ wi).map V.int)) ∧ ¬ FtX p ai e wl ∧ wi.length = pkN f i ∧ { runP f (m.toNat - i) i ei xi with ws := wi ++ (runP f (m.toNat - i) i ei xi).ws } = runP f m.toNat 0 e x) ⟨none, none, none, none, a, x, e, x.b.tv, x.b.dv, [], rfl, C, N, rfl, Fr.rfl', he, rfl, hio, (fun b h => (heo b h).2), hpk, (by rw [List.append_nil]; exact hwl), nwl, rfl, rfl⟩ ?_ ?_
      · rintro i σ H0 hi ⟨y6, y7, y8, y9, ai, xi, ei, T_, D_, wi, rfl, Ci, Ni, hni, Fi, hei, fe, hio1, heo1, pki, hwli, nwi, hwi, rn⟩
        have hm1 : i < m.toNat := hi
        have hbn := pkN_mono f (show i + 1 ≤ m.toNat from hi)
        have hbs : pkN f (i + 1) = pkN f i + (f i).length := rfl
        obtain ⟨kv, npk0, hpk0, hpks⟩ := pki
        refine ⟨_, rfl, pk, rfl, .inl ⟨_, .inl hpk0⟩, _, rfl, Nat.zero_le _, fun l nl => ?_⟩
        have s1 := same_upd' (o := .lst []) nl
        have hl : upd H0 l (.lst []) l = some (.lst []) := upd_same
        have C1 := Ci.same s1
        have F1 := Fi.trans (Fr.of_same s1)
        have hpk1 := s1 _ _ hpk0
        have pki : PkAt (upd H0 l (.lst [])) (FtW p ai e wl) pk f := PkAt.same ⟨kv, npk0, hpk0, hpks⟩ s1
        have hwl1 := s1 _ _ hwli
        have he1 : EnAt CO CQ (upd H0 l (.lst [])) ei ev := by
          cases ei with
          | no => exact hei
          | over q dx d c => exact ⟨hei.1, s1 _ _ hei.2⟩
          | out q dx d => exact ⟨hei.1, s1 _ _ hei.2⟩
        have nlF : ¬ FtW p ai e wl l := fun z => by
          rcases z with (z | z) | z
          · obtain ⟨o, eo, _⟩ := Ci.solid l z
            rw [nl] at eo; cases eo
          · cases ei with
            | no => rw [← fe] at z; exact z
            | over q dx d c =>
              rw [← fe] at z
              have z : l = q := z
              rw [z, hei.2] at nl; cases nl
            | out q dx d =>
              rw [← fe] at z
              have z : l = q := z
              rw [z, hei.2] at nl; cases nl
          · rw [z, hwli] at nl; cases nl
        obtain ⟨la, ela, nlaF, hla⟩ : ∃ la, (valV kv (Sum.inl (0 + (i : Int)))).getD (.ref l) = .ref la ∧ ¬ FtW p ai e wl la ∧ upd H0 l (.lst []) la = some (.lst ((f i).map V.int)) := by
          rw [Int.zero_add]
          rcases hpks i with ⟨q1, q2⟩ | ⟨b, q1, q2, q3⟩
          · exact ⟨l, by rw [q1]; rfl, nlF, by rw [q2]; exact hl⟩
          · exact ⟨b, by rw [q1]; rfl, q2, s1 _ _ q3⟩
        clear s1 Ci Fi hei hpk0 hpks hl nlF hwli npk0
        generalize upd H0 l (.lst []) = H1 at *
        refine ⟨_, DGet.k (k := Sum.inl (0 + (i : Int))) hpk1, ?_⟩
        rw [ela]
        refine ⟨_, rfl, la, rfl, ⟨_, SqL.of hla⟩, ?_⟩
        refine for_list (K := K) (a := la) (xs := (f i).map V.int) (fun j σ H' => ∃ (y8 : Option V) (aj : Ap) (T_ D_ : V), σ = [some (.ref p), some (.int m), some (.ref pk), some (.ref wl), some ev, some (.int (0 + (i : Int))), some (.ref la), y8, y9] ∧ PrC CB CM CP CK CW CF CH CC CI S H' p aj ((peekAll ((f i).take j) xi).tvd T_ D_) ∧ Fr (FtW p ai e wl) H1 (FtW p aj e wl) H' ∧ EnAt CO CQ H' ei ev ∧ (∀ b, FtE e b → ¬ FtP p aj b) ∧ H' wl = some (.lst ((ws0 ++ wi ++ peekWords ((f i).take j) xi).map V.int)) ∧ ¬ FtX p aj e wl) ⟨y8, ai, T_, D_, rfl, C1, Fr.rfl', he1, heo1, (by rw [show (f i).take 0 = [] from rfl]; show H1 wl = some (.lst ((ws0 ++ wi ++ []).map V.int)); rw [List.append_nil]; exact hwl1), nwi⟩ (fun j σ H' _ h => by
          obtain ⟨_, _, _, _, _, _, fr, _⟩ := h
          exact SqL.of (fr.keep _ _ nlaF hla)) ?_ ?_
        · rintro j v σ H2 hv ⟨z8, aj, Tj, Dj, rfl, Cj, Fj, hej, heoj, hwj, nwj⟩
          obtain ⟨ad, had, rfl⟩ : ∃ ad, (f i)[j]? = some ad ∧ V.int ad = v := by
            rw [List.getElem?_map] at hv
            cases e9 : (f i)[j]? with
            | none => rw [e9] at hv; cases hv
            | some n => rw [e9] at hv; exact ⟨n, rfl, Option.some.inj hv⟩
          have hjl := (List.getElem?_eq_some_iff.mp had).1
          obtain ⟨ad0, ad1⟩ := hfo i ad (List.mem_of_getElem? had)
          have htk : (f i).take (j + 1) = (f i).take j ++ [ad] := by rw [List.take_succ, had]; rfl
          have Nj := Ni.peekAll ((f i).take j)
          have hnj := peekAll_n ((f i).take j) xi
          rw [List.length_take] at hnj
          refine ⟨_, rfl, .inl ⟨rfl, _, SqL.of hwj⟩, _, rfl, p, aj.dx, _, rfl, Cj.hp, pN_peek, _, rfl, S, p, aj, _, ad, rfl, Cj, Nj.tvd _ _, (by show (peekAll ((f i).take j) xi).n < 99000; omega), ad0, ad1, fun H3 a3 F3 C3 => ?_⟩
          rw [peeked_tvd, ← peekAll_snoc, ← htk] at C3
          have F3w := (F3.ext (e := e)).wl (wl := wl)
          have hw3 := F3.keep _ _ (fun z => nwj (.inl z)) hwj
          have nw3 : ¬ FtX p a3 e wl := fun z => by
            rcases (F3.ext (e := e)).new wl z with y | y
            · exact nwj y
            · rw [hwj] at y; cases y
          refine ⟨wl, _, _, rfl, rfl, hw3, ?_, ?_⟩
          · rw [List.length_map, List.length_append, List.length_append, peekWords_len, List.length_take]
            exact Nat.lt_of_le_of_lt (show _ ≤ 100000 by omega) (by decide)
          have swl : ∀ b o, b ≠ wl → H3 b = some o → upd H3 wl (.lst ((ws0 ++ wi ++ peekWords ((f i).take j) xi).map V.int ++ [.int (rd (peekAll ((f i).take j) xi).b.mem ad)])) b = some o := fun b o n e => by rw [upd_ne n]; exact e
          refine ⟨_, a3, Tj, Dj, rfl, C3.kept1 swl (fun z => nw3 (.inl z)) Swl (fun xs z => by rw [hw3] at z; cases z), (Fj.trans F3w).trans (Fr.one (F := FtW p a3 e wl) (.inr rfl) swl), ?_, ?_, ?_, nw3⟩
          · cases ei with
            | no => exact hej
            | over q dx d c => exact ⟨hej.1, swl _ _ (fun z => nw3 (.inr (by rw [← fe]; exact z.symm))) (F3.keep _ _ (heoj q (by rw [← fe]; rfl)) hej.2)⟩
            | out q dx d => exact ⟨hej.1, swl _ _ (fun z => nw3 (.inr (by rw [← fe]; exact z.symm))) (F3.keep _ _ (heoj q (by rw [← fe]; rfl)) hej.2)⟩
          · intro b h z
            rcases F3.new b z with y | y
            · exact heoj b h y
            · cases ei with
              | no => rw [← fe] at h; exact h
              | over q dx d c =>
                rw [← fe] at h
                have h : b = q := h
                rw [h, hej.2] at y; cases y
              | out q dx d =>
                rw [← fe] at h
                have h : b = q := h
                rw [h, hej.2] at y; cases y
          · rw [upd_same, htk, peekWords_snoc, ← List.append_assoc]
            exact congrArg (fun z => some (HO.lst z)) (List.map_append (f := V.int) (l₁ := ws0 ++ wi ++ peekWords ((f i).take j) xi) (l₂ := [rd (peekAll ((f i).take j) xi).b.mem ad])).symm
        rintro σ H2 ⟨z8, aq, Tq, Dq, rfl, Cq, Fj, heq, heoq, hwq, nwq⟩
        rw [List.length_map, List.take_length] at Cq hwq
        have Nq := Ni.peekAll (f i)
        have hnq := peekAll_n (f i) xi
        have pkq := pki.fr Fj
        have Fq := F1.trans Fj
        obtain ⟨xq, hxq⟩ : ∃ xq, peekAll (f i) xi = xq := ⟨_, rfl⟩
        rw [hxq] at Cq Nq hnq
        have hmt : meetsM (xq.tvd Tq Dq) = meetsM xq := rfl
        refine ⟨_, rfl, _, _, rfl, rfl, _, rfl, ifB (fun hi0 => ?_) (fun hi0 => ?_)⟩
        · have hi0 : 0 < i := by
            have := of_decide_eq_true hi0
            omega
          refine ⟨_, rfl, p, aq.dx, _, rfl, Cq.hp, pN_meets_mark, S, p, aq, _, rfl, Cq, ?_⟩
          rw [hmt]
          refine ⟨_, rfl, ifB (fun hm2 => ?_) (fun hm2 => ?_)⟩
          · have er : runP f (m.toNat - i) i ei xi = ⟨.mark xq.b.pc, ei, xq, peekWords (f i) xi⟩ := by
              rw [show m.toNat - i = (m.toNat - (i + 1)) + 1 by omega, ← hxq]
              exact if_pos ⟨hi0, by rw [hxq]; exact hm2⟩
            have ek : goP f m e x = ⟨.mark xq.b.pc, ei, xq, wi ++ peekWords (f i) xi⟩ := by rw [eg, ← rn, er]
            rw [ek] at k
            refine ⟨_, rfl, p, aq.dx, _, rfl, Cq.hp, pN_note_gone, _, rfl, S, p, aq, _, .ref la, false, rfl, Cq, ?_⟩
            obtain ⟨svq, tvq, dvq, hpbq, hzq⟩ := Cq.B.hp
            refine ⟨_, rfl, p, CP, aq.dx, _, _, rfl, Cq.hp, T.cP, T.nP_board, pF_board, aq.bd, CB, aq.A.dx, _, _, rfl, hpbq, T.cB, T.n_registers, bF_reg, aq.A.r, _, rfl, dg (k := Sum.inr "pc") Cq.B.hr rG_pc, (by show 2 ≤ sizeLine; decide), fun t nt => ?_⟩
            have s9 := same_upd' (o := .tup [V.str "mark", V.int xq.b.pc]) nt
            refine k _ aq Tq Dq (.ref t) (Fq.trans (Fr.of_same s9)) (Cq.same s9) ?_ heoq (by rw [← List.append_assoc]; exact s9 _ _ hwq) nwq ⟨t, rfl, upd_same⟩
            cases ei with
            | no => exact heq
            | over q dx d c => exact ⟨heq.1, s9 _ _ heq.2⟩
            | out q dx d => exact ⟨heq.1, s9 _ _ heq.2⟩
          · skip
            have er : runP f (m.toNat - i) i ei xi = match (passT ei xq).1 with
                | .none => { runP f (m.toNat - (i + 1)) (i + 1) (passT ei xq).2.1 (passT ei xq).2.2 with ws := peekWords (f i) xi ++ (runP f (m.toNat - (i + 1)) (i + 1) (passT ei xq).2.1 (passT ei xq).2.2).ws }
                | c => ⟨c, (passT ei xq).2.1, (passT ei xq).2.2, peekWords (f i) xi⟩ := by
              rw [show m.toNat - i = (m.toNat - (i + 1)) + 1 by omega, ← hxq]
              exact if_neg (fun z => by have z2 := z.2; rw [hxq, hm2] at z2; cases z2)
            refine ⟨_, rfl, p, aq.dx, _, rfl, Cq.hp, pN_pass_turn, _, rfl, S, p, aq, xq.tvd Tq Dq, ei, ev, rfl, Cq, Nq.tvd _ _, (by show xq.n < 99000; omega), heq, hio1, (fun b h => by rw [fe] at h; exact ⟨(heo b h).1, heoq b h⟩), fun H3 a3 T3 D3 v F3 C3 he3 heo3 cz => ?_⟩
            obtain ⟨T4, D4, e4⟩ := passT_tvd ei xq Tq Dq
            rw [e4] at C3 he3 cz
            have C3 : PrC CB CM CP CK CW CF CH CC CI S H3 p a3 ((passT ei xq).2.2.tvd T3 D3) := C3
            have hfx : ∀ c, FtX p c ei = FtX p c e := fun c => by unfold FtX; rw [fe]
            rw [hfx, hfx] at F3
            have F3w := Fq.trans (F3.wl (wl := wl))
            have heo3 : ∀ b, FtE e b → ¬ FtP p a3 b := fun b h => heo3 b (by rw [fe]; exact h)
            have hw3 := F3.keep _ _ nwq hwq
            have nw3 : ¬ FtX p a3 e wl := fun z => by
              rcases F3.new wl z with y | y
              · exact nwq y
              · rw [hwq] at y; cases y
            have pk3 := pkq.fr (F3.wl (wl := wl))
            refine ⟨_, rfl, p, a3.dx, _, rfl, C3.hp, pN_note_gone, _, rfl, S, p, a3, _, .ref la, true, rfl, C3, ?_⟩
            refine ⟨_, rfl, _, rfl, ?_⟩
            obtain ⟨q1, q2, q3⟩ := pass_en ei xq
            have nm := pass_mark ei xq
            cases ec : (passT ei xq).1 with
            | none =>
              rw [ec] at cz er
              obtain rfl : v = .non := cz
              refine ifN (fun h => absurd rfl (of_decide_eq_false h)) (fun _ => ?_)
              refine ⟨_, _, _, _, a3, (passT ei xq).2.2, (passT ei xq).2.1, T3, D3, wi ++ peekWords (f i) xi, rfl, C3, Nq.pass ei, by rw [pass_n]; show xq.n + 1 = x.n + (i + 1) + (pkN f i + (f i).length); omega, F3w, he3, q1.trans fe, ?_, heo3, pk3, by rw [← List.append_assoc]; exact hw3, nw3, by rw [List.length_append, peekWords_len, hwi]; rfl, ?_⟩
              · rcases hio1 with h | h
                · exact .inl (q2.trans h)
                · exact .inr (q3.mpr h)
              · rw [← rn, er]
                exact Gr.app rfl
            | stop s_ =>
              rw [ec] at cz er
              refine ifN (fun _ => ?_) (fun h => ?_)
              · have ek : goP f m e x = ⟨.stop s_, (passT ei xq).2.1, (passT ei xq).2.2, wi ++ peekWords (f i) xi⟩ := by rw [eg, ← rn, er]
                rw [ek] at k
                exact ⟨_, rfl, k H3 a3 T3 D3 v F3w C3 he3 heo3 (by rw [← List.append_assoc]; exact hw3) nw3 cz⟩
              · obtain ⟨q9, rfl, _⟩ := cz
                cases of_decide_eq_true h
            | done =>
              rw [ec] at cz er
              refine ifN (fun _ => ?_) (fun h => ?_)
              · have ek : goP f m e x = ⟨.done, (passT ei xq).2.1, (passT ei xq).2.2, wi ++ peekWords (f i) xi⟩ := by rw [eg, ← rn, er]
                rw [ek] at k
                exact ⟨_, rfl, k H3 a3 T3 D3 v F3w C3 he3 heo3 (by rw [← List.append_assoc]; exact hw3) nw3 cz⟩
              · obtain ⟨q9, rfl, _⟩ := cz
                cases of_decide_eq_true h
            | watch r_ =>
              rw [ec] at cz er
              refine ifN (fun _ => ?_) (fun h => ?_)
              · have ek : goP f m e x = ⟨.watch r_, (passT ei xq).2.1, (passT ei xq).2.2, wi ++ peekWords (f i) xi⟩ := by rw [eg, ← rn, er]
                rw [ek] at k
                exact ⟨_, rfl, k H3 a3 T3 D3 v F3w C3 he3 heo3 (by rw [← List.append_assoc]; exact hw3) nw3 cz⟩
              · obtain ⟨q9, rfl, _⟩ := cz
                cases of_decide_eq_true h
            | mark pc_ => exact absurd ec (nm pc_)
        · have hi0 : ¬ 0 < i := by
            have := of_decide_eq_false hi0
            omega
          refine ifB (fun h => by cases h) (fun _ => ?_)
          have er : runP f (m.toNat - i) i ei xi = match (passT ei xq).1 with
              | .none => { runP f (m.toNat - (i + 1)) (i + 1) (passT ei xq).2.1 (passT ei xq).2.2 with ws := peekWords (f i) xi ++ (runP f (m.toNat - (i + 1)) (i + 1) (passT ei xq).2.1 (passT ei xq).2.2).ws }
              | c => ⟨c, (passT ei xq).2.1, (passT ei xq).2.2, peekWords (f i) xi⟩ := by
            rw [show m.toNat - i = (m.toNat - (i + 1)) + 1 by omega, ← hxq]
            exact if_neg (fun z => hi0 z.1)
          refine ⟨_, rfl, p, aq.dx, _, rfl, Cq.hp, pN_pass_turn, _, rfl, S, p, aq, xq.tvd Tq Dq, ei, ev, rfl, Cq, Nq.tvd _ _, (by show xq.n < 99000; omega), heq, hio1, (fun b h => by rw [fe] at h; exact ⟨(heo b h).1, heoq b h⟩), fun H3 a3 T3 D3 v F3 C3 he3 heo3 cz => ?_⟩
          obtain ⟨T4, D4, e4⟩ := passT_tvd ei xq Tq Dq
          rw [e4] at C3 he3 cz
          have C3 : PrC CB CM CP CK CW CF CH CC CI S H3 p a3 ((passT ei xq).2.2.tvd T3 D3) := C3
          have hfx : ∀ c, FtX p c ei = FtX p c e := fun c => by unfold FtX; rw [fe]
          rw [hfx, hfx] at F3
          have F3w := Fq.trans (F3.wl (wl := wl))
          have heo3 : ∀ b, FtE e b → ¬ FtP p a3 b := fun b h => heo3 b (by rw [fe]; exact h)
          have hw3 := F3.keep _ _ nwq hwq
          have nw3 : ¬ FtX p a3 e wl := fun z => by
            rcases F3.new wl z with y | y
            · exact nwq y
            · rw [hwq] at y; cases y
          have pk3 := pkq.fr (F3.wl (wl := wl))
          refine ⟨_, rfl, p, a3.dx, _, rfl, C3.hp, pN_note_gone, _, rfl, S, p, a3, _, .ref la, true, rfl, C3, ?_⟩
          refine ⟨_, rfl, _, rfl, ?_⟩
          obtain ⟨q1, q2, q3⟩ := pass_en ei xq
          have nm := pass_mark ei xq
          cases ec : (passT ei xq).1 with
          | none =>
            rw [ec] at cz er
            obtain rfl : v = .non := cz
            refine ifN (fun h => absurd rfl (of_decide_eq_false h)) (fun _ => ?_)
            refine ⟨_, _, _, _, a3, (passT ei xq).2.2, (passT ei xq).2.1, T3, D3, wi ++ peekWords (f i) xi, rfl, C3, Nq.pass ei, by rw [pass_n]; show xq.n + 1 = x.n + (i + 1) + (pkN f i + (f i).length); omega, F3w, he3, q1.trans fe, ?_, heo3, pk3, by rw [← List.append_assoc]; exact hw3, nw3, by rw [List.length_append, peekWords_len, hwi]; rfl, ?_⟩
            · rcases hio1 with h | h
              · exact .inl (q2.trans h)
              · exact .inr (q3.mpr h)
            · rw [← rn, er]
              exact Gr.app rfl
          | stop s_ =>
            rw [ec] at cz er
            refine ifN (fun _ => ?_) (fun h => ?_)
            · have ek : goP f m e x = ⟨.stop s_, (passT ei xq).2.1, (passT ei xq).2.2, wi ++ peekWords (f i) xi⟩ := by rw [eg, ← rn, er]
              rw [ek] at k
              exact ⟨_, rfl, k H3 a3 T3 D3 v F3w C3 he3 heo3 (by rw [← List.append_assoc]; exact hw3) nw3 cz⟩
            · obtain ⟨q9, rfl, _⟩ := cz
              cases of_decide_eq_true h
          | done =>
            rw [ec] at cz er
            refine ifN (fun _ => ?_) (fun h => ?_)
            · have ek : goP f m e x = ⟨.done, (passT ei xq).2.1, (passT ei xq).2.2, wi ++ peekWords (f i) xi⟩ := by rw [eg, ← rn, er]
              rw [ek] at k
              exact ⟨_, rfl, k H3 a3 T3 D3 v F3w C3 he3 heo3 (by rw [← List.append_assoc]; exact hw3) nw3 cz⟩
            · obtain ⟨q9, rfl, _⟩ := cz
              cases of_decide_eq_true h
          | watch r_ =>
            rw [ec] at cz er
            refine ifN (fun _ => ?_) (fun h => ?_)
            · have ek : goP f m e x = ⟨.watch r_, (passT ei xq).2.1, (passT ei xq).2.2, wi ++ peekWords (f i) xi⟩ := by rw [eg, ← rn, er]
              rw [ek] at k
              exact ⟨_, rfl, k H3 a3 T3 D3 v F3w C3 he3 heo3 (by rw [← List.append_assoc]; exact hw3) nw3 cz⟩
            · obtain ⟨q9, rfl, _⟩ := cz
              cases of_decide_eq_true h
          | mark pc_ => exact absurd ec (nm pc_)
      · rintro σ H0 ⟨y6, y7, y8, y9, ai, xi, ei, T_, D_, wi, rfl, Ci, Ni, hni, Fi, hei, fe, hio1, heo1, pki, hwli, nwi, hwi, rn⟩
        rw [Nat.sub_self] at rn
        have ek : goP f m e x = ⟨.none, ei, xi, wi ++ []⟩ := by rw [eg, ← rn]; rfl
        rw [ek] at k
        refine ⟨(by show 1 ≤ sizeLine; decide), fun t nt => ?_⟩
        have s9 := same_upd' (o := .tup [V.str "turns"]) nt
        refine k _ ai T_ D_ (.ref t) (Fi.trans (Fr.of_same s9)) (Ci.same s9) ?_ heo1 (by rw [List.append_nil]; exact s9 _ _ hwli) nwi ⟨t, rfl, upd_same⟩
        cases ei with
        | no => exact hei
        | over q dx d c => exact ⟨hei.1, s9 _ _ hei.2⟩
        | out q dx d => exact ⟨hei.1, s9 _ _ hei.2⟩
    · refine ifB (fun h => by cases h) (fun _ => ?_)
      refine ⟨_, rfl, m, rfl, by omega, by omega, ?_⟩
      refine for_range (lo := 0) (n := m.toNat) (fun i σ H' => ∃ (y6 y7 y8 y9 : Option V) (ai : Ap) (xi : Pm) (ei : En) (T_ D_ : V) (wi : List Int), σ = [some (.ref p), some (.int m), some (.ref pk), some (.ref wl), some ev, y6, y7, y8, y9] ∧ PrC CB CM CP CK CW CF CH CC CI S H' p ai (xi.tvd T_ D_) ∧ PrN xi ∧ xi.n = x.n + i + pkN f i ∧ Fr (FtW p a e wl) H (FtW p ai e wl) H' ∧ EnAt CO CQ H' ei ev ∧ FtE ei = FtE e ∧ (isOut ei = 3 ∨ ei = .no) ∧ (∀ b, FtE e b → ¬ FtP p ai b) ∧ PkAt H' (FtW p ai e wl) pk f ∧ H' wl = some (.lst ((ws0 ++ wi).map V.int)) ∧ ¬ FtX p ai e wl ∧ wi.length = pkN f i ∧ { runP f (m.toNat - i) i ei xi with ws := wi ++ (runP f (m.toNat - i) i ei xi).ws } = runP f m.toNat 0 e x) ⟨none, none, none, none, a, x, e, x.b.tv, x.b.dv, [], rfl, C, N, rfl, Fr.rfl', he, rfl, hio, (fun b h => (heo b h).2), hpk, (by rw [List.append_nil]; exact hwl), nwl, rfl, rfl⟩ ?_ ?_
      · rintro i σ H0 hi ⟨y6, y7, y8, y9, ai, xi, ei, T_, D_, wi, rfl, Ci, Ni, hni, Fi, hei, fe, hio1, heo1, pki, hwli, nwi, hwi, rn⟩
        have hm1 : i < m.toNat := hi
        have hbn := pkN_mono f (show i + 1 ≤ m.toNat from hi)
        have hbs : pkN f (i + 1) = pkN f i + (f i).length := rfl
        obtain ⟨kv, npk0, hpk0, hpks⟩ := pki
        refine ⟨_, rfl, pk, rfl, .inl ⟨_, .inl hpk0⟩, _, rfl, Nat.zero_le _, fun l nl => ?_⟩
        have s1 := same_upd' (o := .lst []) nl
        have hl : upd H0 l (.lst []) l = some (.lst []) := upd_same
        have C1 := Ci.same s1
        have F1 := Fi.trans (Fr.of_same s1)
        have hpk1 := s1 _ _ hpk0
        have pki : PkAt (upd H0 l (.lst [])) (FtW p ai e wl) pk f := PkAt.same ⟨kv, npk0, hpk0, hpks⟩ s1
        have hwl1 := s1 _ _ hwli
        have he1 : EnAt CO CQ (upd H0 l (.lst [])) ei ev := by
          cases ei with
          | no => exact hei
          | over q dx d c => exact ⟨hei.1, s1 _ _ hei.2⟩
          | out q dx d => exact ⟨hei.1, s1 _ _ hei.2⟩
        have nlF : ¬ FtW p ai e wl l := fun z => by
          rcases z with (z | z) | z
          · obtain ⟨o, eo, _⟩ := Ci.solid l z
            rw [nl] at eo; cases eo
          · cases ei with
            | no => rw [← fe] at z; exact z
            | over q dx d c =>
              rw [← fe] at z
              have z : l = q := z
              rw [z, hei.2] at nl; cases nl
            | out q dx d =>
              rw [← fe] at z
              have z : l = q := z
              rw [z, hei.2] at nl; cases nl
          · rw [z, hwli] at nl; cases nl
        obtain ⟨la, ela, nlaF, hla⟩ : ∃ la, (valV kv (Sum.inl (0 + (i : Int)))).getD (.ref l) = .ref la ∧ ¬ FtW p ai e wl la ∧ upd H0 l (.lst []) la = some (.lst ((f i).map V.int)) := by
          rw [Int.zero_add]
          rcases hpks i with ⟨q1, q2⟩ | ⟨b, q1, q2, q3⟩
          · exact ⟨l, by rw [q1]; rfl, nlF, by rw [q2]; exact hl⟩
          · exact ⟨b, by rw [q1]; rfl, q2, s1 _ _ q3⟩
        clear s1 Ci Fi hei hpk0 hpks hl nlF hwli npk0
        generalize upd H0 l (.lst []) = H1 at *
        refine ⟨_, DGet.k (k := Sum.inl (0 + (i : Int))) hpk1, ?_⟩
        rw [ela]
        refine ⟨_, rfl, la, rfl, ⟨_, SqL.of hla⟩, ?_⟩
        refine for_list (K := K) (a := la) (xs := (f i).map V.int) (fun j σ H' => ∃ (y8 : Option V) (aj : Ap) (T_ D_ : V), σ = [some (.ref p), some (.int m), some (.ref pk), some (.ref wl), some ev, some (.int (0 + (i : Int))), some (.ref la), y8, y9] ∧ PrC CB CM CP CK CW CF CH CC CI S H' p aj ((peekAll ((f i).take j) xi).tvd T_ D_) ∧ Fr (FtW p ai e wl) H1 (FtW p aj e wl) H' ∧ EnAt CO CQ H' ei ev ∧ (∀ b, FtE e b → ¬ FtP p aj b) ∧ H' wl = some (.lst ((ws0 ++ wi ++ peekWords ((f i).take j) xi).map V.int)) ∧ ¬ FtX p aj e wl) ⟨y8, ai, T_, D_, rfl, C1, Fr.rfl', he1, heo1, (by rw [show (f i).take 0 = [] from rfl]; show H1 wl = some (.lst ((ws0 ++ wi ++ []).map V.int)); rw [List.append_nil]; exact hwl1), nwi⟩ (fun j σ H' _ h => by
          obtain ⟨_, _, _, _, _, _, fr, _⟩ := h
          exact SqL.of (fr.keep _ _ nlaF hla)) ?_ ?_
        · rintro j v σ H2 hv ⟨z8, aj, Tj, Dj, rfl, Cj, Fj, hej, heoj, hwj, nwj⟩
          obtain ⟨ad, had, rfl⟩ : ∃ ad, (f i)[j]? = some ad ∧ V.int ad = v := by
            rw [List.getElem?_map] at hv
            cases e9 : (f i)[j]? with
            | none => rw [e9] at hv; cases hv
            | some n => rw [e9] at hv; exact ⟨n, rfl, Option.some.inj hv⟩
          have hjl := (List.getElem?_eq_some_iff.mp had).1
          obtain ⟨ad0, ad1⟩ := hfo i ad (List.mem_of_getElem? had)
          have htk : (f i).take (j + 1) = (f i).take j ++ [ad] := by rw [List.take_succ, had]; rfl
          have Nj := Ni.peekAll ((f i).take j)
          have hnj := peekAll_n ((f i).take j) xi
          rw [List.length_take] at hnj
          refine ⟨_, rfl, .inl ⟨rfl, _, SqL.of hwj⟩, _, rfl, p, aj.dx, _, rfl, Cj.hp, pN_peek, _, rfl, S, p, aj, _, ad, rfl, Cj, Nj.tvd _ _, (by show (peekAll ((f i).take j) xi).n < 99000; omega), ad0, ad1, fun H3 a3 F3 C3 => ?_⟩
          rw [peeked_tvd, ← peekAll_snoc, ← htk] at C3
          have F3w := (F3.ext (e := e)).wl (wl := wl)
          have hw3 := F3.keep _ _ (fun z => nwj (.inl z)) hwj
          have nw3 : ¬ FtX p a3 e wl := fun z => by
            rcases (F3.ext (e := e)).new wl z with y | y
            · exact nwj y
            · rw [hwj] at y; cases y
          refine ⟨wl, _, _, rfl, rfl, hw3, ?_, ?_⟩
          · rw [List.length_map, List.length_append, List.length_append, peekWords_len, List.length_take]
            exact Nat.lt_of_le_of_lt (show _ ≤ 100000 by omega) (by decide)
          have swl : ∀ b o, b ≠ wl → H3 b = some o → upd H3 wl (.lst ((ws0 ++ wi ++ peekWords ((f i).take j) xi).map V.int ++ [.int (rd (peekAll ((f i).take j) xi).b.mem ad)])) b = some o := fun b o n e => by rw [upd_ne n]; exact e
          refine ⟨_, a3, Tj, Dj, rfl, C3.kept1 swl (fun z => nw3 (.inl z)) Swl (fun xs z => by rw [hw3] at z; cases z), (Fj.trans F3w).trans (Fr.one (F := FtW p a3 e wl) (.inr rfl) swl), ?_, ?_, ?_, nw3⟩
          · cases ei with
            | no => exact hej
            | over q dx d c => exact ⟨hej.1, swl _ _ (fun z => nw3 (.inr (by rw [← fe]; exact z.symm))) (F3.keep _ _ (heoj q (by rw [← fe]; rfl)) hej.2)⟩
            | out q dx d => exact ⟨hej.1, swl _ _ (fun z => nw3 (.inr (by rw [← fe]; exact z.symm))) (F3.keep _ _ (heoj q (by rw [← fe]; rfl)) hej.2)⟩
          · intro b h z
            rcases F3.new b z with y | y
            · exact heoj b h y
            · cases ei with
              | no => rw [← fe] at h; exact h
              | over q dx d c =>
                rw [← fe] at h
                have h : b = q := h
                rw [h, hej.2] at y; cases y
              | out q dx d =>
                rw [← fe] at h
                have h : b = q := h
                rw [h, hej.2] at y; cases y
          · rw [upd_same, htk, peekWords_snoc, ← List.append_assoc]
            exact congrArg (fun z => some (HO.lst z)) (List.map_append (f := V.int) (l₁ := ws0 ++ wi ++ peekWords ((f i).take j) xi) (l₂ := [rd (peekAll ((f i).take j) xi).b.mem ad])).symm
        rintro σ H2 ⟨z8, aq, Tq, Dq, rfl, Cq, Fj, heq, heoq, hwq, nwq⟩
        rw [List.length_map, List.take_length] at Cq hwq
        have Nq := Ni.peekAll (f i)
        have hnq := peekAll_n (f i) xi
        have pkq := pki.fr Fj
        have Fq := F1.trans Fj
        obtain ⟨xq, hxq⟩ : ∃ xq, peekAll (f i) xi = xq := ⟨_, rfl⟩
        rw [hxq] at Cq Nq hnq
        have hmt : meetsM (xq.tvd Tq Dq) = meetsM xq := rfl
        refine ⟨_, rfl, _, _, rfl, rfl, _, rfl, ifB (fun hi0 => ?_) (fun hi0 => ?_)⟩
        · have hi0 : 0 < i := by
            have := of_decide_eq_true hi0
            omega
          refine ⟨_, rfl, p, aq.dx, _, rfl, Cq.hp, pN_meets_mark, S, p, aq, _, rfl, Cq, ?_⟩
          rw [hmt]
          refine ⟨_, rfl, ifB (fun hm2 => ?_) (fun hm2 => ?_)⟩
          · have er : runP f (m.toNat - i) i ei xi = ⟨.mark xq.b.pc, ei, xq, peekWords (f i) xi⟩ := by
              rw [show m.toNat - i = (m.toNat - (i + 1)) + 1 by omega, ← hxq]
              exact if_pos ⟨hi0, by rw [hxq]; exact hm2⟩
            have ek : goP f m e x = ⟨.mark xq.b.pc, ei, xq, wi ++ peekWords (f i) xi⟩ := by rw [eg, ← rn, er]
            rw [ek] at k
            refine ⟨_, rfl, p, aq.dx, _, rfl, Cq.hp, pN_note_gone, _, rfl, S, p, aq, _, .ref la, false, rfl, Cq, ?_⟩
            obtain ⟨svq, tvq, dvq, hpbq, hzq⟩ := Cq.B.hp
            refine ⟨_, rfl, p, CP, aq.dx, _, _, rfl, Cq.hp, T.cP, T.nP_board, pF_board, aq.bd, CB, aq.A.dx, _, _, rfl, hpbq, T.cB, T.n_registers, bF_reg, aq.A.r, _, rfl, dg (k := Sum.inr "pc") Cq.B.hr rG_pc, (by show 2 ≤ sizeLine; decide), fun t nt => ?_⟩
            have s9 := same_upd' (o := .tup [V.str "mark", V.int xq.b.pc]) nt
            refine k _ aq Tq Dq (.ref t) (Fq.trans (Fr.of_same s9)) (Cq.same s9) ?_ heoq (by rw [← List.append_assoc]; exact s9 _ _ hwq) nwq ⟨t, rfl, upd_same⟩
            cases ei with
            | no => exact heq
            | over q dx d c => exact ⟨heq.1, s9 _ _ heq.2⟩
            | out q dx d => exact ⟨heq.1, s9 _ _ heq.2⟩
          · skip
            have er : runP f (m.toNat - i) i ei xi = match (passT ei xq).1 with
                | .none => { runP f (m.toNat - (i + 1)) (i + 1) (passT ei xq).2.1 (passT ei xq).2.2 with ws := peekWords (f i) xi ++ (runP f (m.toNat - (i + 1)) (i + 1) (passT ei xq).2.1 (passT ei xq).2.2).ws }
                | c => ⟨c, (passT ei xq).2.1, (passT ei xq).2.2, peekWords (f i) xi⟩ := by
              rw [show m.toNat - i = (m.toNat - (i + 1)) + 1 by omega, ← hxq]
              exact if_neg (fun z => by have z2 := z.2; rw [hxq, hm2] at z2; cases z2)
            refine ⟨_, rfl, p, aq.dx, _, rfl, Cq.hp, pN_pass_turn, _, rfl, S, p, aq, xq.tvd Tq Dq, ei, ev, rfl, Cq, Nq.tvd _ _, (by show xq.n < 99000; omega), heq, hio1, (fun b h => by rw [fe] at h; exact ⟨(heo b h).1, heoq b h⟩), fun H3 a3 T3 D3 v F3 C3 he3 heo3 cz => ?_⟩
            obtain ⟨T4, D4, e4⟩ := passT_tvd ei xq Tq Dq
            rw [e4] at C3 he3 cz
            have C3 : PrC CB CM CP CK CW CF CH CC CI S H3 p a3 ((passT ei xq).2.2.tvd T3 D3) := C3
            have hfx : ∀ c, FtX p c ei = FtX p c e := fun c => by unfold FtX; rw [fe]
            rw [hfx, hfx] at F3
            have F3w := Fq.trans (F3.wl (wl := wl))
            have heo3 : ∀ b, FtE e b → ¬ FtP p a3 b := fun b h => heo3 b (by rw [fe]; exact h)
            have hw3 := F3.keep _ _ nwq hwq
            have nw3 : ¬ FtX p a3 e wl := fun z => by
              rcases F3.new wl z with y | y
              · exact nwq y
              · rw [hwq] at y; cases y
            have pk3 := pkq.fr (F3.wl (wl := wl))
            refine ⟨_, rfl, p, a3.dx, _, rfl, C3.hp, pN_note_gone, _, rfl, S, p, a3, _, .ref la, true, rfl, C3, ?_⟩
            refine ⟨_, rfl, _, rfl, ?_⟩
            obtain ⟨q1, q2, q3⟩ := pass_en ei xq
            have nm := pass_mark ei xq
            cases ec : (passT ei xq).1 with
            | none =>
              rw [ec] at cz er
              obtain rfl : v = .non := cz
              refine ifN (fun h => absurd rfl (of_decide_eq_false h)) (fun _ => ?_)
              refine ⟨_, _, _, _, a3, (passT ei xq).2.2, (passT ei xq).2.1, T3, D3, wi ++ peekWords (f i) xi, rfl, C3, Nq.pass ei, by rw [pass_n]; show xq.n + 1 = x.n + (i + 1) + (pkN f i + (f i).length); omega, F3w, he3, q1.trans fe, ?_, heo3, pk3, by rw [← List.append_assoc]; exact hw3, nw3, by rw [List.length_append, peekWords_len, hwi]; rfl, ?_⟩
              · rcases hio1 with h | h
                · exact .inl (q2.trans h)
                · exact .inr (q3.mpr h)
              · rw [← rn, er]
                exact Gr.app rfl
            | stop s_ =>
              rw [ec] at cz er
              refine ifN (fun _ => ?_) (fun h => ?_)
              · have ek : goP f m e x = ⟨.stop s_, (passT ei xq).2.1, (passT ei xq).2.2, wi ++ peekWords (f i) xi⟩ := by rw [eg, ← rn, er]
                rw [ek] at k
                exact ⟨_, rfl, k H3 a3 T3 D3 v F3w C3 he3 heo3 (by rw [← List.append_assoc]; exact hw3) nw3 cz⟩
              · obtain ⟨q9, rfl, _⟩ := cz
                cases of_decide_eq_true h
            | done =>
              rw [ec] at cz er
              refine ifN (fun _ => ?_) (fun h => ?_)
              · have ek : goP f m e x = ⟨.done, (passT ei xq).2.1, (passT ei xq).2.2, wi ++ peekWords (f i) xi⟩ := by rw [eg, ← rn, er]
                rw [ek] at k
                exact ⟨_, rfl, k H3 a3 T3 D3 v F3w C3 he3 heo3 (by rw [← List.append_assoc]; exact hw3) nw3 cz⟩
              · obtain ⟨q9, rfl, _⟩ := cz
                cases of_decide_eq_true h
            | watch r_ =>
              rw [ec] at cz er
              refine ifN (fun _ => ?_) (fun h => ?_)
              · have ek : goP f m e x = ⟨.watch r_, (passT ei xq).2.1, (passT ei xq).2.2, wi ++ peekWords (f i) xi⟩ := by rw [eg, ← rn, er]
                rw [ek] at k
                exact ⟨_, rfl, k H3 a3 T3 D3 v F3w C3 he3 heo3 (by rw [← List.append_assoc]; exact hw3) nw3 cz⟩
              · obtain ⟨q9, rfl, _⟩ := cz
                cases of_decide_eq_true h
            | mark pc_ => exact absurd ec (nm pc_)
        · have hi0 : ¬ 0 < i := by
            have := of_decide_eq_false hi0
            omega
          refine ifB (fun h => by cases h) (fun _ => ?_)
          have er : runP f (m.toNat - i) i ei xi = match (passT ei xq).1 with
              | .none => { runP f (m.toNat - (i + 1)) (i + 1) (passT ei xq).2.1 (passT ei xq).2.2 with ws := peekWords (f i) xi ++ (runP f (m.toNat - (i + 1)) (i + 1) (passT ei xq).2.1 (passT ei xq).2.2).ws }
              | c => ⟨c, (passT ei xq).2.1, (passT ei xq).2.2, peekWords (f i) xi⟩ := by
            rw [show m.toNat - i = (m.toNat - (i + 1)) + 1 by omega, ← hxq]
            exact if_neg (fun z => hi0 z.1)
          refine ⟨_, rfl, p, aq.dx, _, rfl, Cq.hp, pN_pass_turn, _, rfl, S, p, aq, xq.tvd Tq Dq, ei, ev, rfl, Cq, Nq.tvd _ _, (by show xq.n < 99000; omega), heq, hio1, (fun b h => by rw [fe] at h; exact ⟨(heo b h).1, heoq b h⟩), fun H3 a3 T3 D3 v F3 C3 he3 heo3 cz => ?_⟩
          obtain ⟨T4, D4, e4⟩ := passT_tvd ei xq Tq Dq
          rw [e4] at C3 he3 cz
          have C3 : PrC CB CM CP CK CW CF CH CC CI S H3 p a3 ((passT ei xq).2.2.tvd T3 D3) := C3
          have hfx : ∀ c, FtX p c ei = FtX p c e := fun c => by unfold FtX; rw [fe]
          rw [hfx, hfx] at F3
          have F3w := Fq.trans (F3.wl (wl := wl))
          have heo3 : ∀ b, FtE e b → ¬ FtP p a3 b := fun b h => heo3 b (by rw [fe]; exact h)
          have hw3 := F3.keep _ _ nwq hwq
          have nw3 : ¬ FtX p a3 e wl := fun z => by
            rcases F3.new wl z with y | y
            · exact nwq y
            · rw [hwq] at y; cases y
          have pk3 := pkq.fr (F3.wl (wl := wl))
          refine ⟨_, rfl, p, a3.dx, _, rfl, C3.hp, pN_note_gone, _, rfl, S, p, a3, _, .ref la, true, rfl, C3, ?_⟩
          refine ⟨_, rfl, _, rfl, ?_⟩
          obtain ⟨q1, q2, q3⟩ := pass_en ei xq
          have nm := pass_mark ei xq
          cases ec : (passT ei xq).1 with
          | none =>
            rw [ec] at cz er
            obtain rfl : v = .non := cz
            refine ifN (fun h => absurd rfl (of_decide_eq_false h)) (fun _ => ?_)
            refine ⟨_, _, _, _, a3, (passT ei xq).2.2, (passT ei xq).2.1, T3, D3, wi ++ peekWords (f i) xi, rfl, C3, Nq.pass ei, by rw [pass_n]; show xq.n + 1 = x.n + (i + 1) + (pkN f i + (f i).length); omega, F3w, he3, q1.trans fe, ?_, heo3, pk3, by rw [← List.append_assoc]; exact hw3, nw3, by rw [List.length_append, peekWords_len, hwi]; rfl, ?_⟩
            · rcases hio1 with h | h
              · exact .inl (q2.trans h)
              · exact .inr (q3.mpr h)
            · rw [← rn, er]
              exact Gr.app rfl
          | stop s_ =>
            rw [ec] at cz er
            refine ifN (fun _ => ?_) (fun h => ?_)
            · have ek : goP f m e x = ⟨.stop s_, (passT ei xq).2.1, (passT ei xq).2.2, wi ++ peekWords (f i) xi⟩ := by rw [eg, ← rn, er]
              rw [ek] at k
              exact ⟨_, rfl, k H3 a3 T3 D3 v F3w C3 he3 heo3 (by rw [← List.append_assoc]; exact hw3) nw3 cz⟩
            · obtain ⟨q9, rfl, _⟩ := cz
              cases of_decide_eq_true h
          | done =>
            rw [ec] at cz er
            refine ifN (fun _ => ?_) (fun h => ?_)
            · have ek : goP f m e x = ⟨.done, (passT ei xq).2.1, (passT ei xq).2.2, wi ++ peekWords (f i) xi⟩ := by rw [eg, ← rn, er]
              rw [ek] at k
              exact ⟨_, rfl, k H3 a3 T3 D3 v F3w C3 he3 heo3 (by rw [← List.append_assoc]; exact hw3) nw3 cz⟩
            · obtain ⟨q9, rfl, _⟩ := cz
              cases of_decide_eq_true h
          | watch r_ =>
            rw [ec] at cz er
            refine ifN (fun _ => ?_) (fun h => ?_)
            · have ek : goP f m e x = ⟨.watch r_, (passT ei xq).2.1, (passT ei xq).2.2, wi ++ peekWords (f i) xi⟩ := by rw [eg, ← rn, er]
              rw [ek] at k
              exact ⟨_, rfl, k H3 a3 T3 D3 v F3w C3 he3 heo3 (by rw [← List.append_assoc]; exact hw3) nw3 cz⟩
            · obtain ⟨q9, rfl, _⟩ := cz
              cases of_decide_eq_true h
          | mark pc_ => exact absurd ec (nm pc_)
      · rintro σ H0 ⟨y6, y7, y8, y9, ai, xi, ei, T_, D_, wi, rfl, Ci, Ni, hni, Fi, hei, fe, hio1, heo1, pki, hwli, nwi, hwi, rn⟩
        rw [Nat.sub_self] at rn
        have ek : goP f m e x = ⟨.none, ei, xi, wi ++ []⟩ := by rw [eg, ← rn]; rfl
        rw [ek] at k
        refine ⟨(by show 1 ≤ sizeLine; decide), fun t nt => ?_⟩
        have s9 := same_upd' (o := .tup [V.str "turns"]) nt
        refine k _ ai T_ D_ (.ref t) (Fi.trans (Fr.of_same s9)) (Ci.same s9) ?_ heo1 (by rw [List.append_nil]; exact s9 _ _ hwli) nwi ⟨t, rfl, upd_same⟩
        cases ei with
        | no => exact hei
        | over q dx d c => exact ⟨hei.1, s9 _ _ hei.2⟩
        | out q dx d => exact ⟨hei.1, s9 _ _ hei.2⟩
end
end Bh

/-! Where a board's memory stands doesn't matter to what goes on. -/
namespace Bh
open PySem PySem.Spec PyProof.Rows L2
/-- with other things in the fields that tell where the memory stands -/
def Bd.mas (x : Bd) (T D : Addr) : Bd := { x with ma := T, sa := D }
theorem mas_come (x : Bd) (T D : Addr) : comeM (x.mas T D) = (comeM x).mas T D := by
  unfold comeM
  show (if x.la < x.line.length ∧ (x.line.getD x.la (0, 0)).1 = x.beat then _ else _) = Bd.mas (if x.la < x.line.length ∧ (x.line.getD x.la (0, 0)).1 = x.beat then _ else _) T D
  split <;> rfl
theorem mas_one (x : Bd) (T D : Addr) : passOneM (x.mas T D) = (passOneM x).mas T D := by
  have h := mas_come { x with beat := x.beat + 1 } T D
  unfold passOneM
  show { comeM (Bd.mas { x with beat := x.beat + 1 } T D) with mem := goTimerM (comeM (Bd.mas { x with beat := x.beat + 1 } T D)).mem } = _
  rw [h]
  rfl
theorem mas_pass : ∀ (n : Nat) (x : Bd) (T D : Addr), passM n (x.mas T D) = (passM n x).mas T D
  | 0, _, _, _ => rfl
  | n + 1, x, T, D => by
    show passM n (passOneM (x.mas T D)) = (passM n (passOneM x)).mas T D
    rw [mas_one, mas_pass n]
theorem mas_put (a v : Int) (x : Bd) (T D : Addr) : putWM a v (x.mas T D) = (putWM a v x).mas T D := by
  unfold putWM sendM
  split <;> rfl
theorem mas_putT (a v : Int) (x : Bd) (T D : Addr) : putTM a v (x.mas T D) = (putTM a v x).mas T D := mas_put a v { x with sw := x.sw.filter fun i => decide (i ≠ a) } T D
theorem mas_do (op : Nat) (n : Int) (ws : List Int) (x : Bd) (T D : Addr) : doM op n ws (x.mas T D) = (doM op n ws x).mas T D := by
  unfold doM
  split
  all_goals first
    | rfl
    | (show putTM _ _ (x.mas T D) = _; rw [mas_putT]; rfl)
    | (show { putTM x.sp x.pc (x.mas T D) with sp := x.sp - 1, pc := n } = _; rw [mas_putT]; rfl)
    | (show { putTM x.sp x.a (x.mas T D) with sp := x.sp - 1 } = _; rw [mas_putT]; rfl)
    | (show (if x.zero = true then _ else _) = Bd.mas (if x.zero = true then _ else _) T D; split <;> rfl)
    | (show (if 32768 ≤ x.a then _ else _) = Bd.mas (if 32768 ≤ x.a then _ else _) T D; split <;> rfl)
theorem mas_done (x : Bd) (T D : Addr) : doneM (x.mas T D) = (doneM x).mas T D := by
  show passM (1 + (toM x).length) (doM (opM x) (xM x) (wordsM x) (Bd.mas { x with pc := x.pc + 1, bend := bentM x } T D)) = (passM (1 + (toM x).length) (doM (opM x) (xM x) (wordsM x) { x with pc := x.pc + 1, bend := bentM x })).mas T D
  rw [mas_do, mas_pass]
theorem mas_begun (x : Bd) (T D : Addr) : begunM (x.mas T D) = (begunM x).mas T D := by
  show passM 3 { putTM (x.sp - 1) (b2n x.zero) (putTM x.sp x.pc (x.mas T D)) with sp := x.sp - 2, lets := false, pc := if Builtin.bitAnd (calledM x) 1 ≠ 0 then 1 else 2 } = _
  rw [mas_putT, mas_putT]
  exact mas_pass 3 { putTM (x.sp - 1) (b2n x.zero) (putTM x.sp x.pc x) with sp := x.sp - 2, lets := false, pc := if Builtin.bitAnd (calledM x) 1 ≠ 0 then 1 else 2 } T D
theorem mas_deed (x : Bd) (T D : Addr) : deedM (x.mas T D) = ((deedM x).1, (deedM x).2.mas T D) := by
  unfold deedM
  by_cases c1 : ¬ (0 ≤ x.pc ∧ x.pc < 768)
  · rw [if_pos c1, if_pos (show ¬ (0 ≤ (x.mas T D).pc ∧ (x.mas T D).pc < 768) from c1)]
    rfl
  · rw [if_neg c1, if_neg (show ¬ ¬ (0 ≤ (x.mas T D).pc ∧ (x.mas T D).pc < 768) from c1)]
    by_cases c2 : 23 ≤ opM x
    · rw [if_pos c2, if_pos (show 23 ≤ opM (x.mas T D) from c2)]
      rfl
    · rw [if_neg c2, if_neg (show ¬ 23 ≤ opM (x.mas T D) from c2)]
      by_cases c3 : opM x = 0
      · rw [if_pos c3, if_pos (show opM (x.mas T D) = 0 from c3)]
        rfl
      · rw [if_neg c3, if_neg (show ¬ opM (x.mas T D) = 0 from c3)]
        have et : firstBad (toM (x.mas T D)) = firstBad (toM x) := rfl
        rw [et]
        cases firstBad (toM x) with
        | some r => rfl
        | none =>
          dsimp only
          rw [mas_done]
theorem mas_int (x : Bd) (T D : Addr) : intM (x.mas T D) = ((intM x).1, (intM x).2.mas T D) := by
  unfold intM
  have et : firstBad [(true, (x.mas T D).sp), (true, (x.mas T D).sp - 1)] = firstBad [(true, x.sp), (true, x.sp - 1)] := rfl
  rw [et]
  cases firstBad [(true, x.sp), (true, x.sp - 1)] with
  | some r => rfl
  | none =>
    dsimp only
    rw [mas_begun]
theorem mas_turn (x : Bd) (T D : Addr) : turnM (x.mas T D) = ((turnM x).1, (turnM x).2.mas T D) := by
  unfold turnM
  show (if x.stop ≠ none then _ else if x.asleep = true ∧ calledM x = 0 then (("asleep" : Str), passM 1 (x.mas T D)) else if x.lets = true ∧ calledM x ≠ 0 then intM (Bd.mas { x with asleep := false } T D) else deedM (Bd.mas { x with asleep := false } T D)) = _
  split
  · rfl
  · split
    · rw [mas_pass]
    · split
      · rw [mas_int]
      · rw [mas_deed]
def Pm.mas (x : Pm) (m s : Addr) : Pm := { x with b := x.b.mas m s }
theorem note_mas (x : Pm) (T D : Addr) : noteTM (x.mas T D) = ((noteTM x).1, (noteTM x).2.mas T D) := by
  have eb : turnM (x.mas T D).b = ((turnM x.b).1, (turnM x.b).2.mas T D) := mas_turn x.b T D
  have ed : didV (x.mas T D).b = didV x.b := by
    unfold didV
    rw [eb]
    rfl
  have ef : follT (x.mas T D) = follT x := by
    unfold follT
    rw [eb, ed]
    rfl
  have et : toT (x.mas T D) = toT x := by
    unfold toT
    rw [eb, ef]
    rfl
  unfold noteTM
  rw [eb]
  show ((turnM x.b).1, if (turnM x.b).1 = "stopped" then _ else _) = _
  split
  · rfl
  · refine congrArg (Prod.mk _) ?_
    unfold passedM
    rw [eb, ef, et]
    rfl
theorem passT_mas (e : En) (x : Pm) (T D : Addr) : passT e (x.mas T D) = ((passT e x).1, (passT e x).2.1, (passT e x).2.2.mas T D) := by
  have et : touT (x.mas T D).b = touT x.b := by
    unfold touT
    rw [show turnM (x.mas T D).b = ((turnM x.b).1, (turnM x.b).2.mas T D) from mas_turn x.b T D]
    rfl
  unfold passT
  rw [note_mas, et]
  show (match (noteTM x).2.b.stop with
    | some s => _
    | none => match metM x.wat (touT x.b) with
      | some r => _
      | none => _) = _
  cases (noteTM x).2.b.stop with
  | some s => rfl
  | none => cases metM x.wat (touT x.b) <;> rfl
theorem peeked_mas (x : Pm) (T D : Addr) : peekedM (x.mas T D) = (peekedM x).mas T D := by
  have e : passM 1 (x.mas T D).b = (passM 1 x.b).mas T D := mas_pass 1 x.b T D
  unfold peekedM
  rw [e]
  rfl
theorem peekAll_mas (T D : Addr) : ∀ (l : List Int) (x : Pm), peekAll l (x.mas T D) = (peekAll l x).mas T D ∧ peekWords l (x.mas T D) = peekWords l x
  | [], _ => ⟨rfl, rfl⟩
  | i :: l, x => by
    obtain ⟨h1, h2⟩ := peekAll_mas T D l (peekedM x)
    rw [← peeked_mas] at h1 h2
    exact ⟨h1, congrArg (_ :: ·) h2⟩
theorem peekAll_tvd (T D : V) : ∀ (l : List Int) (x : Pm), peekAll l (x.tvd T D) = (peekAll l x).tvd T D ∧ peekWords l (x.tvd T D) = peekWords l x
  | [], _ => ⟨rfl, rfl⟩
  | i :: l, x => by
    obtain ⟨h1, h2⟩ := peekAll_tvd T D l (peekedM x)
    rw [← peeked_tvd] at h1 h2
    exact ⟨h1, congrArg (_ :: ·) h2⟩
theorem goP_mas (f : Nat → List Int) (m : Int) (e : En) (x : Pm) (T D : Addr) : goP f m e (x.mas T D) = { goP f m e x with x := (goP f m e x).x.mas T D } := by
  have hr : ∀ (n i : Nat) (e : En) (x : Pm), runP f n i e (x.mas T D) = { runP f n i e x with x := (runP f n i e x).x.mas T D } := by
    intro n
    induction n with
    | zero => exact fun i e x => rfl
    | succ n ih =>
      intro i e x
      obtain ⟨h1, h2⟩ := peekAll_mas T D (f i) x
      unfold runP
      rw [h1, h2, passT_mas]
      have em : meetsM ((peekAll (f i) x).mas T D) = meetsM (peekAll (f i) x) := rfl
      rw [em]
      by_cases c : 0 < i ∧ meetsM (peekAll (f i) x) = true
      · rw [if_pos c, if_pos c]
        rfl
      · rw [if_neg c, if_neg c]
        dsimp only
        cases (passT e (peekAll (f i) x)).1 with
        | none => dsimp only; rw [ih]
        | stop s => rfl
        | done => rfl
        | watch r => rfl
        | mark pc => rfl
  unfold goP
  have eb : (x.mas T D).b.stop = x.b.stop := rfl
  rw [eb]
  cases x.b.stop with
  | some s =>
    dsimp only
    by_cases h : 0 < m
    · rw [if_pos h, if_pos h]
    · rw [if_neg h, if_neg h]
  | none => exact hr _ _ e x
end Bh

/-! What a probe is asked to do: to go, to step. -/
namespace Bh
open PySem PySem.Spec PyProof.Rows L2
theorem FunD.ok0 {P : Program} {w : World} {K : PySem.W.Frag} {mg : Str → Option Value} {base : Heap} {x qual : Str} {st : Stmt} {dvs : List V} {kws : List (Str × V)} {f : Addr} {fd : FuncData} {N ps : List Str} {k : Nat} {sp : Sp} (F : FunD K x qual (defArgs st) (defBody st) (defScope st) dvs kws f fd) (S : FnScope N ps (defScope st)) (len : ∀ vs H Q E, sp vs H Q E → vs.length = ps.length)
    (hbody : ∀ (cdv : Value) (A : Around) (outer : List Env) (s : Shared) (H : Hp) (vs : List V) (Q : VK) (E : XK), Room k (A.deeper (envOfC qual (defScope st) s.heap.objs.size f cdv)) → sp vs H Q E →
      ∃ t, PSs (cxOf CX0 P w K mg base N qual (defScope st) f cdv A outer s H E).nox (defBody st) t ∧ t { nx := fun _ H' => Q .non H', rt := Q } (start N vs) H) : FnOk P w K mg base CX0 (k + 1) f fd ps sp :=
  F.ok S len fun cdv A outer s H vs Q E hr hsp => by
    obtain ⟨t, h, q⟩ := hbody cdv A outer s H vs Q E hr hsp
    exact ⟨t, h.nox, q⟩
/-- a method whose last parameter may be left out: None then -/
structure CalMd (P : Program) (w : World) (K : PySem.W.Frag) (mg : Str → Option Value) (base : Heap) (C : Addr) (k : Nat) (nm : Str) (ps : List Str) (sp : Sp) (f : Addr) (fd : FuncData) : Prop where
  c : Cls K C
  m : Meth K C nm f
  b : Binds K fd ps [.none]
  G : FnOk P w K mg base CX0 k f fd ps sp
theorem joinA {Goal : Prop} {I : Hp → Addr → Prop} (R : Hp → Addr → Prop) (body : (∀ G' a, I G' a → R G' a) → Goal) (key : ∀ G' a, I G' a → R G' a) : Goal := body key
theorem PrN.mas {x : Pm} (N : PrN x) (m s : Addr) : PrN (x.mas m s) := ⟨N.s, N.r, N.h, N.d, N.t, { N.nn with }, N.hh, N.sw, N.we, N.wa, N.wk⟩
/-- a probe and its own things, by what it is -/
def PrA (CB CM CP CK CW CF CH CC CI : Addr) (S H : Hp) (F : Addr → Prop) (p : Addr) (x : Pm) : Prop := (∃ a T D m s, F = FtP p a ∧ PrC CB CM CP CK CW CF CH CC CI S H p a ((x.mas m s).tvd T D)) ∧ PrN x
section
variable {CB CM CP CK CW CF CH CC CI : Addr} {S H H' : Hp} {F G G' : Addr → Prop} {p : Addr} {x : Pm}
theorem PrA.solid (A : PrA CB CM CP CK CW CF CH CC CI S H F p x) : ∀ b, F b → ∃ o, H b = some o ∧ ∀ xs, o ≠ .tup xs := by
  obtain ⟨⟨a, T, D, m, s, rfl, C⟩, _⟩ := A
  exact C.solid
theorem PrA.off (A : PrA CB CM CP CK CW CF CH CC CI S H F p x) : ∀ b, F b → S b = none := by
  obtain ⟨⟨a, T, D, m, s, rfl, C⟩, _⟩ := A
  exact C.fs
theorem PrA.sm (A : PrA CB CM CP CK CW CF CH CC CI S H F p x) : Same S H := by
  obtain ⟨⟨a, T, D, m, s, rfl, C⟩, _⟩ := A
  exact C.sm
theorem PrA.same (A : PrA CB CM CP CK CW CF CH CC CI S H F p x) (s' : Same H H') : PrA CB CM CP CK CW CF CH CC CI S H' F p x := by
  obtain ⟨⟨a, T, D, m, s, rfl, C⟩, N⟩ := A
  exact ⟨⟨a, T, D, m, s, rfl, C.same s'⟩, N⟩
theorem PrA.other (A : PrA CB CM CP CK CW CF CH CC CI S H F p x) (f : Fr G H G' H') (d : ∀ b, G b → ¬ F b) (ds : ∀ b, G b → S b = none) (sol : ∀ b, G b → ∃ o, H b = some o ∧ ∀ xs, o ≠ .tup xs) : PrA CB CM CP CK CW CF CH CC CI S H' F p x ∧ ∀ b, G' b → ¬ F b := by
  have s1 := A.solid
  obtain ⟨⟨a, T, D, m, s, rfl, C⟩, N⟩ := A
  refine ⟨⟨⟨a, T, D, m, s, rfl, C.other f d ds sol⟩, N⟩, fun b h z => ?_⟩
  rcases f.new b h with y | y
  · exact d b y z
  · obtain ⟨o, e, _⟩ := s1 b z
    rw [y] at e
    cases e
/-- more stands for good -/
theorem PrA.base {S' : Hp} (A : PrA CB CM CP CK CW CF CH CC CI S H F p x) (s1 : Same S S') (s2 : Same S' H) (d : ∀ b, F b → S' b = none) : PrA CB CM CP CK CW CF CH CC CI S' H F p x := by
  obtain ⟨⟨a, T, D, m, s, rfl, C⟩, N⟩ := A
  exact ⟨⟨a, T, D, m, s, rfl, { C with
    sm := s2
    fs := d
    hmi := s1 _ _ C.hmi
    hml := s1 _ _ C.hml }⟩, N⟩
end
theorem Fr.drop {p wl : Addr} {a a' : Ap} {H H1 H' : Hp} {e : En} (s : Same H H1) (he : ∀ b, FtE e b → H b = none) (hw : H wl = none) (f : Fr (FtW p a e wl) H1 (FtW p a' e wl) H') : Fr (FtP p a) H (FtP p a') H' where
  keep := fun b o n h => f.keep b o (fun z => by
    rcases z with (z | z) | z
    · exact n z
    · rw [he b z] at h; cases h
    · rw [z, hw] at h; cases h) (s _ _ h)
  new := fun b z => by
    rcases f.new b (.inl (.inl z)) with y | y
    · rcases y with (y | y) | y
      · exact .inl y
      · exact .inr (he b y)
      · exact .inr (by rw [y]; exact hw)
    · exact .inr (s.free y)
theorem goP_tvd (f : Nat → List Int) (m : Int) (e : En) (x : Pm) (T D : V) : ∃ T' D', goP f m e (x.tvd T D) = { goP f m e x with x := (goP f m e x).x.tvd T' D' } := by
  have hr : ∀ (n i : Nat) (e : En) (x : Pm) (T D : V), ∃ T' D', runP f n i e (x.tvd T D) = { runP f n i e x with x := (runP f n i e x).x.tvd T' D' } := by
    intro n
    induction n with
    | zero => exact fun i e x T D => ⟨T, D, rfl⟩
    | succ n ih =>
      intro i e x T D
      obtain ⟨h1, h2⟩ := peekAll_tvd T D (f i) x
      obtain ⟨T1, D1, h3⟩ := passT_tvd e (peekAll (f i) x) T D
      have em : meetsM ((peekAll (f i) x).tvd T D) = meetsM (peekAll (f i) x) := rfl
      unfold runP
      rw [h1, h2, h3, em]
      by_cases c : 0 < i ∧ meetsM (peekAll (f i) x) = true
      · rw [if_pos c, if_pos c]
        exact ⟨T, D, rfl⟩
      · rw [if_neg c, if_neg c]
        dsimp only
        cases (passT e (peekAll (f i) x)).1 with
        | none =>
          obtain ⟨T2, D2, h4⟩ := ih (i + 1) (passT e (peekAll (f i) x)).2.1 (passT e (peekAll (f i) x)).2.2 T1 D1
          refine ⟨T2, D2, ?_⟩
          dsimp only
          rw [h4]
        | stop s => exact ⟨T1, D1, rfl⟩
        | done => exact ⟨T1, D1, rfl⟩
        | watch r => exact ⟨T1, D1, rfl⟩
        | mark pc => exact ⟨T1, D1, rfl⟩
  unfold goP
  have eb : (x.tvd T D).b.stop = x.b.stop := rfl
  rw [eb]
  cases x.b.stop with
  | some s =>
    dsimp only
    by_cases h : 0 < m
    · rw [if_pos h, if_pos h]
      exact ⟨T, D, rfl⟩
    · rw [if_neg h, if_neg h]
      exact ⟨T, D, rfl⟩
  | none => exact hr _ _ e x T D
def En.at_ (e : En) (q dx : Addr) : En := match e with
  | .no => .no
  | .over _ _ d b => .over q dx d b
  | .out _ _ d => .out q dx d
theorem passT_at (e : En) (x : Pm) (q dx : Addr) : passT (e.at_ q dx) x = ((passT e x).1, (passT e x).2.1.at_ q dx, (passT e x).2.2) := by
  unfold passT
  cases (noteTM x).2.b.stop with
  | some s => rfl
  | none => cases metM x.wat (touT x.b) with
    | some r => rfl
    | none => cases e <;> rfl
theorem goP_at (f : Nat → List Int) (m : Int) (e : En) (x : Pm) (q dx : Addr) : goP f m (e.at_ q dx) x = { goP f m e x with e := (goP f m e x).e.at_ q dx } := by
  have hr : ∀ (n i : Nat) (e : En) (x : Pm), runP f n i (e.at_ q dx) x = { runP f n i e x with e := (runP f n i e x).e.at_ q dx } := by
    intro n
    induction n with
    | zero => exact fun i e x => rfl
    | succ n ih =>
      intro i e x
      unfold runP
      rw [passT_at]
      by_cases c : 0 < i ∧ meetsM (peekAll (f i) x) = true
      · rw [if_pos c, if_pos c]
      · rw [if_neg c, if_neg c]
        dsimp only
        cases (passT e (peekAll (f i) x)).1 with
        | none => dsimp only; rw [ih]
        | stop s => rfl
        | done => rfl
        | watch r => rfl
        | mark pc => rfl
  unfold goP
  cases x.b.stop with
  | some s =>
    dsimp only
    by_cases h : 0 < m
    · rw [if_pos h, if_pos h]
    · rw [if_neg h, if_neg h]
  | none => exact hr _ _ e x
theorem RzAt.mono {H H' : Hp} (k : ∀ t xs, H t = some (.tup xs) → H' t = some (.tup xs)) {v : V} : ∀ {c : Cz}, RzAt H v c → RzAt H' v c
  | .none, ⟨t, e, h⟩ => ⟨t, e, k _ _ h⟩
  | .done, ⟨t, e, h⟩ => ⟨t, e, k _ _ h⟩
  | .stop s, h => StopAt.mono (o := some s) k h
  | .watch r, ⟨t, e, h⟩ => ⟨t, e, k _ _ h⟩
  | .mark pc, ⟨t, e, h⟩ => ⟨t, e, k _ _ h⟩
theorem goP_N {x : Pm} (N : PrN x) (f : Nat → List Int) (m : Int) (e : En) : PrN (goP f m e x).x ∧ (goP f m e x).x.n ≤ x.n + m.toNat + pkN f m.toNat := by
  have hr : ∀ (n i : Nat) (e : En) (x : Pm), PrN x → PrN (runP f n i e x).x ∧ (runP f n i e x).x.n + pkN f i ≤ x.n + n + pkN f (i + n) := by
    intro n
    induction n with
    | zero => exact fun i e x N => ⟨N, Nat.le_refl _⟩
    | succ n ih =>
      intro i e x N
      have N0 := N.peekAll (f i)
      have n0 := peekAll_n (f i) x
      have N1 := N0.pass e
      have n1 := pass_n e (peekAll (f i) x)
      have hp : pkN f (i + 1) = pkN f i + (f i).length := rfl
      have hm : pkN f (i + 1) ≤ pkN f (i + (n + 1)) := pkN_mono f (by omega)
      unfold runP
      by_cases c : 0 < i ∧ meetsM (peekAll (f i) x) = true
      · rw [if_pos c]
        exact ⟨N0, by show (peekAll (f i) x).n + pkN f i ≤ _; omega⟩
      · rw [if_neg c]
        cases (passT e (peekAll (f i) x)).1 with
        | none =>
          obtain ⟨a, b⟩ := ih (i + 1) (passT e (peekAll (f i) x)).2.1 (passT e (peekAll (f i) x)).2.2 N1
          rw [show i + 1 + n = i + (n + 1) by omega] at b
          exact ⟨a, by show (runP f n (i + 1) (passT e (peekAll (f i) x)).2.1 (passT e (peekAll (f i) x)).2.2).x.n + pkN f i ≤ _; omega⟩
        | stop s => exact ⟨N1, by show (passT e (peekAll (f i) x)).2.2.n + pkN f i ≤ _; omega⟩
        | done => exact ⟨N1, by show (passT e (peekAll (f i) x)).2.2.n + pkN f i ≤ _; omega⟩
        | watch r => exact ⟨N1, by show (passT e (peekAll (f i) x)).2.2.n + pkN f i ≤ _; omega⟩
        | mark pc => exact ⟨N1, by show (passT e (peekAll (f i) x)).2.2.n + pkN f i ≤ _; omega⟩
  unfold goP
  cases x.b.stop with
  | some s =>
    show PrN (if 0 < m then _ else _ : Gr).x ∧ (if 0 < m then _ else _ : Gr).x.n ≤ _
    by_cases h : 0 < m
    · rw [if_pos h]
      exact ⟨N, by show x.n ≤ _; omega⟩
    · rw [if_neg h]
      exact ⟨N, by show x.n ≤ _; omega⟩
  | none =>
    obtain ⟨a, b⟩ := hr m.toNat 0 e x N
    rw [Nat.zero_add] at b
    exact ⟨a, b⟩
/-- the peeked addresses by the numbers of their turns -/
def pksF (l : List (Int × Int)) (i : Int) : List Int := (l.filter fun u => decide (u.1 = i)).map (·.2)
def pkF (l : List (Int × Int)) (i : Nat) : List Int := pksF l (i : Int)
theorem pksF_snoc (l : List (Int × Int)) (u : Int × Int) (i : Int) : pksF (l ++ [u]) i = if u.1 = i then pksF l i ++ [u.2] else pksF l i := by
  unfold pksF
  rw [List.filter_append, List.map_append]
  by_cases h : u.1 = i
  · rw [if_pos h, List.filter_cons, if_pos (by simpa using h)]
    rfl
  · rw [if_neg h, List.filter_cons, if_neg (by simpa using h)]
    exact List.append_nil _
theorem pkF_mem {l : List (Int × Int)} {i : Nat} {w : Int} (h : w ∈ pkF l i) : ∃ u ∈ l, u.2 = w := by
  unfold pkF pksF at h
  obtain ⟨u, hu, e⟩ := List.mem_map.mp h
  exact ⟨u, (List.mem_filter.mp hu).1, e⟩
theorem filt_split {α : Type} (p q : α → Bool) (hpq : ∀ a, p a = true → q a = false) : ∀ l : List α, (l.filter p).length + (l.filter q).length ≤ l.length
  | [] => Nat.le_refl _
  | a :: r => by
    have ih := filt_split p q hpq r
    by_cases h : p a = true
    · rw [List.filter_cons, if_pos h, List.filter_cons, if_neg (by rw [hpq a h]; exact Bool.false_ne_true), List.length_cons, List.length_cons]
      omega
    · rw [List.filter_cons, if_neg h, List.filter_cons]
      split
      · rw [List.length_cons, List.length_cons]; omega
      · rw [List.length_cons]; omega
theorem pkN_le (l : List (Int × Int)) : ∀ n : Nat, pkN (pkF l) n ≤ (l.filter fun u => decide (0 ≤ u.1 ∧ u.1 < (n : Int))).length
  | 0 => Nat.zero_le _
  | n + 1 => by
    have ih := pkN_le l n
    show pkN (pkF l) n + (pkF l n).length ≤ _
    have e : (pkF l n).length = (l.filter fun u => decide (u.1 = (n : Int))).length := List.length_map ..
    have e2 : ((l.filter fun u => decide (0 ≤ u.1 ∧ u.1 < ((n + 1 : Nat) : Int))).filter fun u => decide (0 ≤ u.1 ∧ u.1 < (n : Int))) = l.filter fun u => decide (0 ≤ u.1 ∧ u.1 < (n : Int)) := by
      rw [List.filter_filter]
      apply List.filter_congr
      intro u _
      rw [Bool.eq_iff_iff]
      simp only [Bool.and_eq_true, decide_eq_true_eq]
      omega
    have e3 : ((l.filter fun u => decide (0 ≤ u.1 ∧ u.1 < ((n + 1 : Nat) : Int))).filter fun u => decide (u.1 = (n : Int))) = l.filter fun u => decide (u.1 = (n : Int)) := by
      rw [List.filter_filter]
      apply List.filter_congr
      intro u _
      rw [Bool.eq_iff_iff]
      simp only [Bool.and_eq_true, decide_eq_true_eq]
      omega
    have := filt_split (fun u : Int × Int => decide (0 ≤ u.1 ∧ u.1 < (n : Int))) (fun u => decide (u.1 = (n : Int))) (fun a h => decide_eq_false (by have := of_decide_eq_true h; omega)) (l.filter fun u => decide (0 ≤ u.1 ∧ u.1 < ((n + 1 : Nat) : Int)))
    rw [e2, e3] at this
    omega
theorem pkN_len (l : List (Int × Int)) (n : Nat) : pkN (pkF l) n ≤ l.length := Nat.le_trans (pkN_le l n) (List.length_filter_le _ _)
theorem pkF_nil : pkF [] = noPk := rfl
def PksAt (H : Hp) (v : V) (l : List (Int × Int)) : Prop := (v = .non ∧ l = []) ∨ ∃ a us, v = .ref a ∧ H a = some (.lst us) ∧ TupsAt H us l
section
variable (CB CM CP CK CW CF CH CC CI CO CQ : Addr)
def spPbt : Sp := fun vs H Q _ => ∃ (qv : V) (l : List (Int × Int)), vs = [qv] ∧ PksAt H qv l ∧ l.length ≤ 1000 ∧ (∀ u ∈ l, 0 ≤ u.2 ∧ u.2 ≤ 773) ∧ ∀ H' pk, Same H H' → PkAt H' (fun b => H b ≠ none) pk (pkF l) → Q (.ref pk) H'
def spOvI (C : Addr) : Sp := fun vs H Q _ => ∃ (q dx : Addr) (d : Int), vs = [.ref q, .int d] ∧ H q = some (.ins C dx []) ∧ ∀ H', (∀ b o, b ≠ q → H b = some o → H' b = some o) → H' q = some (.ins C dx (oeF d false)) → Q .non H'
def spOuI (C : Addr) : Sp := fun vs H Q _ => ∃ (q dx : Addr) (d : Int), vs = [.ref q, .int d] ∧ H q = some (.ins C dx []) ∧ ∀ H', (∀ b o, b ≠ q → H b = some o → H' b = some o) → H' q = some (.ins C dx (ouF d)) → Q .non H'
def spGo : Sp := fun vs H Q _ => ∃ (S : Hp) (F : Addr → Prop) (p : Addr) (x : Pm) (m : Int) (qv : V) (l : List (Int × Int)), vs = [.ref p, .int m, qv] ∧ PrA CB CM CP CK CW CF CH CC CI S H F p x ∧ PksAt H qv l ∧ l.length ≤ 1000 ∧ (∀ u ∈ l, 0 ≤ u.2 ∧ u.2 ≤ 773) ∧ 0 ≤ m ∧ m ≤ 1000 ∧ (x.n : Int) + m + l.length < 99000 ∧
  ∀ H' F' q v wl, H wl = none → Fr F H F' H' → PrA CB CM CP CK CW CF CH CC CI S H' F' p (goP (pkF l) m .no x).x → H' q = some (.tup [v, .ref wl]) → H' wl = some (.lst ((goP (pkF l) m .no x).ws.map V.int)) → RzAt H' v (goP (pkF l) m .no x).c → ¬ F' wl → Q (.ref q) H'
def spOver : Sp := fun vs H Q _ => ∃ (S : Hp) (F : Addr → Prop) (p : Addr) (x : Pm) (m : Int), vs = [.ref p, .int m] ∧ PrA CB CM CP CK CW CF CH CC CI S H F p x ∧ 0 ≤ m ∧ m ≤ 1000 ∧ (x.n : Int) + m < 99000 ∧
  ∀ H' F' v, Fr F H F' H' → PrA CB CM CP CK CW CF CH CC CI S H' F' p (goP noPk m (.over 0 0 x.rows.length false) x).x → RzAt H' v (goP noPk m (.over 0 0 x.rows.length false) x).c → Q v H'
def spOut_ : Sp := fun vs H Q _ => ∃ (S : Hp) (F : Addr → Prop) (p : Addr) (x : Pm) (m : Int), vs = [.ref p, .int m] ∧ PrA CB CM CP CK CW CF CH CC CI S H F p x ∧ 0 ≤ m ∧ m ≤ 1000 ∧ (x.n : Int) + m < 99000 ∧ x.rows ≠ [] ∧
  ∀ H' F' v, Fr F H F' H' → PrA CB CM CP CK CW CF CH CC CI S H' F' p (goP noPk m (.out 0 0 x.rows.length) x).x → RzAt H' v (goP noPk m (.out 0 0 x.rows.length) x).c → Q v H'
def spSin : Sp := fun vs H Q _ => ∃ (S : Hp) (F : Addr → Prop) (p : Addr) (x : Pm), vs = [.ref p] ∧ PrA CB CM CP CK CW CF CH CC CI S H F p x ∧ (x.n : Int) + 1 < 99000 ∧
  ∀ H' F' v, Fr F H F' H' → PrA CB CM CP CK CW CF CH CC CI S H' F' p (goP noPk 1 .no x).x → RzAt H' v (goP noPk 1 .no x).c → Q v H'
def spFrs : Sp := fun vs H Q _ => ∃ (S : Hp) (F : Addr → Prop) (p : Addr) (x : Pm), vs = [.ref p] ∧ PrA CB CM CP CK CW CF CH CC CI S H F p x ∧ ∀ H' l us, Same H H' → H l = none → H' l = some (.lst us) → T3At H' us x.rows → Q (.ref l) H'
def spStr : Sp := fun vs H Q _ => ∃ (S : Hp) (F : Addr → Prop) (p : Addr) (x : Pm), vs = [.ref p] ∧ PrA CB CM CP CK CW CF CH CC CI S H F p x ∧ Q (.int x.strays) H
end
section
variable {P : Program} {w : World} {K : PySem.W.Frag} {mg : Str → Option Value} {base : Heap} {CB CM CP CK CW CF CH CC CI CS CO CQ : Addr}
abbrev sFpbt : Stmt := topS 96
def scFpbtN : List Str := ["peeks", "found", "number", "address"]
theorem scFpbt : FnScope scFpbtN ["peeks"] (defScope sFpbt) := ⟨rfl, rfl, rfl, by decide +kernel, rfl, by decide +kernel, by decide +kernel⟩
theorem ok_Fpbt {f : Addr} {fd : FuncData} {fF_betw : Addr} {dF_betw : FuncData} {fF_whole : Addr} {dF_whole : FuncData} (F : Fun K "peeks_by_turn" "peeks_by_turn" sFpbt f fd) (T : Ty K mg CB CM CP CK CW CF CH CC CI CS)
    (F_betw : CalF P w K mg base 2 "is_between" ["thing", "least", "greatest"] (spBetw) fF_betw dF_betw)
    (F_whole : CalF P w K mg base 1 "is_whole" ["thing"] (spWhole) fF_whole dF_whole) : FnOk P w K mg base CX0 3 f fd ["peeks"] (spPbt) := by
  refine F.ok scFpbt (fun vs H Q E h => by obtain ⟨_, _, rfl, _⟩ := h; rfl) (fun cdv A outer s H vs Q E hr h => ?_)
  have hu := hu_of hr
  obtain ⟨t_PLACES_END, g_PLACES_END⟩ := T.g_PLACES_END
  obtain ⟨qv, l, rfl, hpv, hll, hok, k⟩ := h
  refine ⟨_, (pss_cons (ps_set (i := 1) scFpbt.nd rfl (.inl rfl) pe_dnewK)
    (pss_cons (ps_for PassesOwn.never rfl (pi_list (pe_orT (pv 0) (pe_one (pe_lst pa_nil)))) (pg_tup rfl (pgs_cons (pg_name (i := 2) scFpbt.nd rfl (.inl rfl)) (pgs_cons (pg_name (i := 3) scFpbt.nd rfl (.inl rfl)) pgs_nil)))
      (pss_cons (ps_if (pt_not (pt_val (pe_call F_betw.G (hr.mono (by decide)) (by rfl) F_betw.g F_betw.kp F_betw.b .nil pass0 (pa_cons (pv 3) (pa_cons pe_int (pa_cons (pe_op op_sub (pgI g_PLACES_END) pe_int) pa_nil)))))) pss_never pss_nil)
    (pss_one (ps_if (pt_val (pe_call F_whole.G (hr.mono (by decide)) (by rfl) F_whole.g F_whole.kp F_whole.b .nil pass0 (pa_cons (pv 2) pa_nil))) (pss_one (ps_expr (pe_bm PySem.F.plainAttrs_list PySem.F.slot_list_append PySem.F.type_list_append mt_append (pe_dsetd (pv 1) (pv 2) (pe_lst pa_nil) ⟨rfl, rfl, rfl, rfl⟩) (pa_cons (pv 3) pa_nil)))) pss_nil))))
    (pss_one (ps_ret (pv 1))))), ?_⟩
  intro pk npk
  have r1 := same_upd' (o := .dK []) npk
  have h1 : upd H pk (.dK []) pk = some (.dK []) := upd_same
  generalize upd H pk (.dK []) = H1 at *
  apply joinA (I := fun G lp => Same H G ∧ G pk = some (.dK []) ∧ lp ≠ pk ∧ ∃ us, G lp = some (.lst us) ∧ TupsAt G us l)
  case body =>
    intro kj
    have hpv2 := hpv
    rcases hpv2 with ⟨e, el⟩ | ⟨lp, us, e, hlp, htu⟩
    · refine ⟨.non, (by rw [e]; rfl), false, rfl, ifB (fun h => by cases h) (fun _ => ⟨Nat.zero_le _, fun lp nlp => ?_⟩)⟩
      have r2 := same_upd' (o := .lst []) nlp
      have h2 := r2 _ _ h1
      have hl2 : upd H1 lp (.lst []) lp = some (.lst []) := upd_same
      have r12 := r1.trans r2
      have npl : lp ≠ pk := fun z => by rw [z, h1] at nlp; cases nlp
      generalize upd H1 lp (.lst []) = G2 at h2 hl2 r12 ⊢
      exact kj G2 lp ⟨r12, h2, npl, [], hl2, el ▸ .nil⟩
    · have hlp := r1 _ _ hlp
      have htu := htu.mono fun t xs e => r1 _ _ e
      refine ⟨.ref lp, (by rw [e]; rfl), !us.isEmpty, .inl ⟨_, SqL.of hlp, rfl⟩, ifB (fun _ => ?_) (fun h => ⟨Nat.zero_le _, fun lp2 nlp => ?_⟩)⟩
      · have npl : lp ≠ pk := fun z => by rw [z, h1] at hlp; cases hlp
        exact kj H1 lp ⟨r1, h1, npl, us, hlp, htu⟩
      · have r2 := same_upd' (o := .lst []) nlp
        have el : l = [] := by
          cases us with
          | nil => cases htu; rfl
          | cons _ _ => cases h
        have h2 := r2 _ _ h1
        have hl2 : upd H1 lp2 (.lst []) lp2 = some (.lst []) := upd_same
        have r12 := r1.trans r2
        have npl : lp2 ≠ pk := fun z => by rw [z, h1] at nlp; cases nlp
        generalize upd H1 lp2 (.lst []) = G2 at h2 hl2 r12 ⊢
        exact kj G2 lp2 ⟨r12, h2, npl, [], hl2, el ▸ .nil⟩
  case key =>
  rintro G0 lp ⟨s0, hpk, lppk, us, hlp, htu⟩
  refine ⟨lp, rfl, ⟨_, SqL.of hlp⟩, ?_⟩
  refine for_list (K := K) (a := lp) (xs := us) (fun i σ H' => Same H H' ∧ ∃ (y2 y3 : Option V) (kv : List (Key × V)) (A : Int → Option Addr), σ = [some qv, some (.ref pk), y2, y3] ∧ kv.length ≤ i ∧ H' pk = some (.dK kv) ∧ H' lp = some (.lst us) ∧ TupsAt H' us l ∧ (∀ n, valV kv (Sum.inl n) = (A n).map V.ref) ∧ (∀ n m b, A n = some b → A m = some b → n = m) ∧ (∀ n, A n = none → pksF (l.take i) n = []) ∧ ∀ n b, A n = some b → H b = none ∧ b ≠ pk ∧ b ≠ lp ∧ H' b = some (.lst ((pksF (l.take i) n).map V.int))) ⟨s0, none, none, [], fun _ => none, rfl, Nat.le_refl _, hpk, hlp, htu, (fun _ => rfl), (fun n m b h => by cases h), (fun n _ => rfl), (fun n b h => by cases h)⟩ (fun i σ H' _ h => SqL.of (by obtain ⟨_, _, _, _, _, _, _, _, h, _⟩ := h; exact h)) ?_ ?_
  · rintro i v σ H1 hv ⟨s1, y2, y3, kv, A, rfl, hkl, hpk1, hlp1, htu1, hA, inj, hno, hls⟩
    have hlen := htu1.len
    have hil : i < l.length := by
      rw [← hlen]
      exact (List.getElem?_eq_some_iff.mp hv).1
    obtain ⟨t, e1, e2⟩ := TupsAt.get htu1 hil
    have hv2 : v = .ref t := Option.some.inj (hv.symm.trans e1)
    subst hv2
    obtain ⟨u, hu⟩ : ∃ u, l[i]? = some u := ⟨_, List.getElem?_eq_getElem hil⟩
    have hgd : l.getD i (0, 0) = u := by rw [List.getD_eq_getElem?_getD, hu]; rfl
    rw [hgd] at e2
    have huo := hok u (List.mem_of_getElem? hu)
    have htk : l.take (i + 1) = l.take i ++ [u] := by rw [List.take_succ, hu]; rfl
    refine ⟨t, _, rfl, SqT.of e2, rfl, _, _, rfl, _, _, rfl, rfl, ?_⟩
    refine ⟨_, rfl, _, _, rfl, rfl, _, _, _, rfl, ?_⟩
    refine ⟨_, rfl, ifN (fun h => absurd (of_decide_eq_false h) (fun z => z ⟨huo.1, huo.2⟩)) (fun _ => ?_)⟩
    refine ⟨_, rfl, _, rfl, _, rfl, ifB (fun _ => ?_) (fun h => by cases h)⟩
    refine ⟨_, rfl, pk, rfl, .inl ⟨_, .inl hpk1⟩, _, rfl, Nat.zero_le _, fun ln nln => ?_⟩
    have s2 := same_upd' (o := .lst []) nln
    have hln : upd H1 ln (.lst []) ln = some (.lst []) := upd_same
    have hpk2 := s2 _ _ hpk1
    have hlp2 := s2 _ _ hlp1
    have htu2 := htu1.mono fun t xs e => s2 _ _ e
    have hls2 : ∀ n b, A n = some b → H b = none ∧ b ≠ pk ∧ b ≠ lp ∧ upd H1 ln (.lst []) b = some (.lst ((pksF (l.take i) n).map V.int)) := fun n b h => by
      obtain ⟨q1, q2, q3, q4⟩ := hls n b h
      exact ⟨q1, q2, q3, s2 _ _ q4⟩
    have nlnH : H ln = none := s1.free nln
    have lnpk : ln ≠ pk := fun z => by rw [z, hpk1] at nln; cases nln
    have lnlp : ln ≠ lp := fun z => by rw [z, hlp1] at nln; cases nln
    have lnA : ∀ n, A n ≠ some ln := fun n z => by
      obtain ⟨_, _, _, q4⟩ := hls n ln z
      rw [nln] at q4; cases q4
    have s12 := s1.trans s2
    clear hls s2 hpk1 hlp1 htu1
    generalize upd H1 ln (.lst []) = H2 at *
    refine ⟨kv, Sum.inl u.1, hpk2, rfl, Nat.lt_of_le_of_lt (show kv.length ≤ 100000 by omega) (by decide), fun v1 hv1 => ?_, fun hv1 => ?_⟩
    · rw [hA] at hv1
      obtain ⟨la, hla, rfl⟩ : ∃ la, A u.1 = some la ∧ V.ref la = v1 := by
        cases e : A u.1 with
        | none => rw [e] at hv1; cases hv1
        | some la => rw [e] at hv1; exact ⟨la, rfl, Option.some.inj hv1⟩
      obtain ⟨q1, q2, q3, q4⟩ := hls2 _ _ hla
      refine ⟨.inl ⟨rfl, _, SqL.of q4⟩, _, rfl, la, _, _, rfl, rfl, q4, ?_, ?_⟩
      · rw [List.length_map]
        unfold pksF
        rw [List.length_map]
        exact Nat.lt_of_le_of_lt (Nat.le_trans (List.length_filter_le _ _) (by rw [List.length_take]; omega : _ ≤ 100000)) (by decide)
      have kp : ∀ b o, b ≠ la → H2 b = some o → upd H2 la (.lst ((pksF (l.take i) u.1).map V.int ++ [.int u.2])) b = some o := fun b o n e => by rw [upd_ne n]; exact e
      refine ⟨fun b o e => kp b o (ne_of_none e q1) (s12 b o e), _, _, kv, A, rfl, Nat.le_succ_of_le hkl, kp _ _ (Ne.symm q2) hpk2, kp _ _ (Ne.symm q3) hlp2, htu2.mono fun t xs e => kp _ _ (fun z => by rw [z, q4] at e; cases e) e, hA, inj, fun n hn_ => ?_, fun n b hb => ?_⟩
      · rw [htk, pksF_snoc, if_neg (fun z => by rw [← z, hla] at hn_; cases hn_)]
        exact hno n hn_
      · obtain ⟨r1, r2, r3, r4⟩ := hls2 n b hb
        refine ⟨r1, r2, r3, ?_⟩
        rw [htk, pksF_snoc]
        by_cases z : u.1 = n
        · rw [if_pos z]
          have : b = la := by
            rw [← z, hla] at hb
            exact (Option.some.inj hb).symm
          rw [this, upd_same, ← z, List.map_append]
          rfl
        · rw [if_neg z]
          exact kp _ _ (fun y => z (inj _ _ _ (y ▸ hla) hb)) r4
    · rw [hA] at hv1
      have hAn : A u.1 = none := by
        cases e : A u.1 with
        | none => rfl
        | some la => rw [e] at hv1; cases hv1
      have hln3 : upd H2 pk (.dK (putK kv (Sum.inl u.1) (.ref ln))) ln = some (.lst []) := by rw [upd_ne lnpk]; exact hln
      refine ⟨.inl ⟨rfl, _, SqL.of hln3⟩, _, rfl, ln, _, _, rfl, rfl, hln3, by decide, ?_⟩
      have kp : ∀ b o, b ≠ pk → b ≠ ln → H2 b = some o → upd (upd H2 pk (.dK (putK kv (Sum.inl u.1) (.ref ln)))) ln (.lst ([] ++ [.int u.2])) b = some o := fun b o n1 n2 e => by rw [upd_ne n2, upd_ne n1]; exact e
      refine ⟨fun b o e => kp b o (ne_of_none e npk) (ne_of_none e nlnH) (s12 b o e), _, _, putK kv (Sum.inl u.1) (.ref ln), fun n => if n = u.1 then some ln else A n, rfl, ?_, ?_, kp _ _ lppk (Ne.symm lnlp) hlp2, htu2.mono fun t xs e => kp _ _ (fun z => by rw [z, hpk2] at e; cases e) (fun z => by rw [z, hln] at e; cases e) e, fun n => ?_, fun n m b h1 h2 => ?_, fun n hn_ => ?_, fun n b hb => ?_⟩
      · have := length_putK kv (Sum.inl u.1) (V.ref ln)
        omega
      · rw [upd_ne (Ne.symm lnpk), upd_same]
      · rw [valV_put]
        dsimp only
        by_cases z : n = u.1
        · rw [if_pos (congrArg Sum.inl z), if_pos z]
          rfl
        · rw [if_neg (fun y => z (Sum.inl.inj y)), if_neg z]
          exact hA n
      · dsimp only at h1 h2
        by_cases z1 : n = u.1
        · by_cases z2 : m = u.1
          · rw [z1, z2]
          · rw [if_pos z1] at h1
            rw [if_neg z2] at h2
            exact absurd (h1 ▸ h2) (lnA m)
        · by_cases z2 : m = u.1
          · rw [if_neg z1] at h1
            rw [if_pos z2] at h2
            exact absurd (h2 ▸ h1) (lnA n)
          · rw [if_neg z1] at h1
            rw [if_neg z2] at h2
            exact inj _ _ _ h1 h2
      · dsimp only at hn_
        by_cases z : n = u.1
        · rw [if_pos z] at hn_; cases hn_
        · rw [if_neg z] at hn_
          rw [htk, pksF_snoc, if_neg (Ne.symm z)]
          exact hno n hn_
      · dsimp only at hb
        by_cases z : n = u.1
        · rw [if_pos z] at hb
          obtain rfl : ln = b := Option.some.inj hb
          refine ⟨nlnH, lnpk, lnlp, ?_⟩
          rw [upd_same, htk, pksF_snoc, if_pos z.symm, z, hno _ hAn]
          rfl
        · rw [if_neg z] at hb
          obtain ⟨r1, r2, r3, r4⟩ := hls2 n b hb
          refine ⟨r1, r2, r3, ?_⟩
          rw [htk, pksF_snoc, if_neg (Ne.symm z)]
          exact kp _ _ r2 (fun y => lnA n (y ▸ hb)) r4
  · rintro σ H1 ⟨s1, y2, y3, kv, A, rfl, hkl, hpk1, hlp1, htu1, hA, inj, hno, hls⟩
    rw [htu1.len, List.take_length] at hno hls
    refine ⟨_, rfl, k _ pk s1 ⟨kv, fun z => z npk, hpk1, fun i => ?_⟩⟩
    cases e : A (i : Int) with
    | none => exact .inl ⟨by rw [hA, e]; rfl, hno _ e⟩
    | some b =>
      obtain ⟨q1, q2, q3, q4⟩ := hls _ _ e
      exact .inr ⟨b, by rw [hA, e]; rfl, fun z => z q1, q4⟩
abbrev sMgo : Stmt := inClass (topS 97) 9
def scMgoN : List Str := ["self", "most", "peeks", "words", "cause"]
theorem scMgo : FnScope scMgoN ["self", "most", "peeks"] (defScope sMgo) := ⟨rfl, rfl, rfl, by decide +kernel, rfl, by decide +kernel, by decide +kernel⟩
theorem ok_Mgo {f : Addr} {fd : FuncData} {fF_pbt : Addr} {dF_pbt : FuncData} {fM_lgn : Addr} {dM_lgn : FuncData} (F : FunD K "go" "Probe.go" (defArgs sMgo) (defBody sMgo) (defScope sMgo) [.non] [] f fd) (T : Ty K mg CB CM CP CK CW CF CH CC CI CS)
    (F_pbt : CalF P w K mg base 3 "peeks_by_turn" ["peeks"] (spPbt) fF_pbt dF_pbt)
    (M_lgn : CalM P w K mg base CP 10 "let_go" ["self", "most", "peeks", "words", "end"] (spLG CB CM CP CK CW CF CH CC CI CO CQ 3) fM_lgn dM_lgn) : FnOk P w K mg base CX0 11 f fd ["self", "most", "peeks"] (spGo CB CM CP CK CW CF CH CC CI) := by
  refine FunD.ok0 F scMgo (fun vs H Q E h => by obtain ⟨_, _, _, _, _, _, _, rfl, _⟩ := h; rfl) (fun cdv A outer s H vs Q E hr h => ?_)
  have hu := hu_of hr
  obtain ⟨S, F_, p, x, m, qv, l, rfl, Y, hpv, hll, hok, m0, m1, hn, k⟩ := h
  obtain ⟨⟨a, T0, D0, ma_, sa_, rfl, C⟩, N⟩ := Y
  refine ⟨_, (pss_cons (ps_set (i := 3) scMgo.nd rfl (.inl rfl) (pe_lst pa_nil))
    (pss_cons (ps_set (i := 4) scMgo.nd rfl (.inl rfl) (pe_meth (pv 0) M_lgn.c M_lgn.m M_lgn.G (hr.mono (by decide)) M_lgn.b .nil pass0 (pa_cons (pv 1) (pa_cons (pe_call F_pbt.G (hr.mono (by decide)) (by rfl) F_pbt.g F_pbt.kp F_pbt.b .nil pass0 (pa_cons (pv 2) pa_nil)) (pa_cons (pv 3) (pa_cons pe_non pa_nil))))))
    (pss_one (ps_ret (pe_tup (pa_cons (pv 4) (pa_cons (pv 3) pa_nil))))))), ?_⟩
  refine ⟨Nat.zero_le _, fun wl nwl => ?_⟩
  have s1 := same_upd' (o := .lst []) nwl
  have h1 : upd H wl (.lst []) wl = some (.lst (([] : List Int).map V.int)) := upd_same
  have C1 := C.same s1
  have off : ∀ {b : Addr}, H b = none → ¬ FtP p a b := fun e z => by
    obtain ⟨o, e2, _⟩ := C.solid _ z
    rw [e] at e2; cases e2
  have hpv1 : PksAt (upd H wl (.lst [])) qv l := by
    rcases hpv with q | ⟨b, us, q1, q2, q3⟩
    · exact .inl q
    · exact .inr ⟨b, us, q1, s1 _ _ q2, q3.mono fun t xs e => s1 _ _ e⟩
  generalize upd H wl (.lst []) = H1 at *
  refine ⟨_, rfl, p, a.dx, _, rfl, C1.hp, pN_let_go, _, rfl, _, rfl, qv, l, rfl, hpv1, hll, hok, fun H2 pk s2 hpk => ?_⟩
  have C2 := C1.same s2
  have s12 := s1.trans s2
  have offP : ∀ b, H1 b = none → ¬ FtW p a .no wl b := fun b e z => by
    rcases z with (z | z) | z
    · exact off (s1.free e) z
    · exact z
    · rw [z, h1] at e; cases e
  have hpk2 : PkAt H2 (FtW p a .no wl) pk (pkF l) := by
    obtain ⟨kv, n, q1, q2⟩ := hpk
    have nn : ∀ {b : Addr}, ¬ H1 b ≠ none → H1 b = none := fun h => Classical.not_not.mp h
    refine ⟨kv, offP _ (nn n), q1, fun i => ?_⟩
    rcases q2 i with q | ⟨b, r1, r2, r3⟩
    · exact .inl q
    · exact .inr ⟨b, r1, offP _ (nn r2), r3⟩
  have hpn := pkN_len l m.toNat
  refine ⟨_, rfl, S, p, a, (x.mas ma_ sa_).tvd T0 D0, .no, .non, m, pk, wl, pkF l, [], rfl, C2, PrN.tvd (N.mas _ _) _ _, m0, m1, (by show (x.n : Int) + m + (pkN (pkF l) m.toNat : Int) < 99000; omega), rfl, .inr rfl, (fun b h => h.elim), hpk2, (fun i w hw => by
    obtain ⟨u, hu, e⟩ := pkF_mem hw
    have := hok u hu
    rw [← e]; omega), s2 _ _ h1, (fun z => by
    rcases z with z | z
    · exact off nwl z
    · exact z), C.sm.free nwl, Nat.zero_le _, fun H3 a3 T3 D3 v F3 C3 _ _ hw3 nw3 rz => ?_⟩
  obtain ⟨T4, D4, e4⟩ := goP_tvd (pkF l) m .no (x.mas ma_ sa_) T0 D0
  rw [e4, goP_mas] at C3 rz hw3
  refine ⟨_, rfl, _, rfl, (by show 2 ≤ sizeLine; decide), fun q nq => ?_⟩
  have s5 := same_upd' (o := .tup [v, V.ref wl]) nq
  have F4 := Fr.drop s12 (e := .no) (fun b h => h.elim) nwl F3
  refine k _ (FtP p a3) q v wl nwl (F4.trans (Fr.of_same s5)) ⟨⟨a3, _, _, ma_, sa_, rfl, C3.same s5⟩, (goP_N N (pkF l) m .no).1⟩ upd_same (s5 _ _ hw3) ?_ (fun z => nw3 (.inl z))
  exact rz.mono fun t xs e => s5 _ _ e
end
end Bh

/-! A probe is made. -/
namespace Bh
open PySem PySem.Spec PyProof.Rows L2
def newP (ns : List Int) (ls : List (Int × Int)) : Pm := { b := newBd ns ls, rows := [], strays := 0, hist := [], faded := 0, deeds := [], spent := [], idle := 0, peeked := 0, gone := 0, n := 0, hard := [], wear := List.replicate 16 0, wat := [none, none] }
theorem rise_ge : ∀ {n : Int} {ls : List (Int × Int)}, riseM n ls → ∀ u ∈ ls, 0 ≤ u.2
  | _, [], _, _, h => by cases h
  | _, r :: rs, ⟨_, h1, _, h3⟩, u, h => by
    rcases List.mem_cons.mp h with rfl | h
    · exact h1
    · exact rise_ge h3 u h
theorem newP_N {ns : List Int} {ls : List (Int × Int)} (hw : WordsOk ns) (hr : riseM 0 ls) : PrN (newP ns ls) := ⟨Nat.zero_le _, Nat.zero_le _, Nat.zero_le _, Nat.zero_le _, Nat.zero_le _, ⟨Int.le_refl 0, Int.le_refl 0, Int.le_refl 0, mge_of (fun v h => by
  have h : v ∈ memOf ns := h
  unfold memOf at h
  simp only [List.mem_append, List.mem_replicate] at h
  rcases h with (h | h) | h
  · exact (hw v h).1
  · rw [h.2]; decide
  · rw [h.2]; decide), rise_ge hr, Int.le_refl 0⟩, Nat.zero_le _, Nat.zero_le _, rfl, rfl, fun u h => by
    simp only [newP, List.mem_cons, List.not_mem_nil, or_false] at h
    rcases h with h | h <;> cases h⟩
theorem fresh1 {Hb : Hp} {p v : Addr} {X : HO} (n : upd Hb p X v = none) : v ≠ p ∧ Hb v = none := by
  have h : v ≠ p := fun z => by rw [z, upd_same] at n; cases n
  rw [upd_ne h] at n
  exact ⟨h, n⟩
theorem fresh3 {Hb : Hp} {p d v l : Addr} {X o1 o2 : HO} (n : upd (upd (upd Hb p X) d o1) v o2 l = none) : l ≠ v ∧ l ≠ p ∧ Hb l = none := by
  obtain ⟨h1, n⟩ := fresh1 n
  obtain ⟨_, n⟩ := fresh1 n
  obtain ⟨h3, n⟩ := fresh1 n
  exact ⟨h1, h3, n⟩
theorem made_same {H H' : Hp} {q d C : Addr} (nq : H q = none) (nd : H d = none) (k : ∀ b o, b ≠ q → upd (upd H d (.own q)) q (.ins C d []) b = some o → H' b = some o) : Same H H' := fun b o e => by
  have n1 := ne_of_none e nq
  refine k b o n1 ?_
  rw [upd_ne n1, upd_ne (ne_of_none e nd)]
  exact e
theorem tup_off {Hb : Hp} {p CP d : Addr} {fs : List (Str × V)} : ∀ t xs, upd Hb p (.ins CP d fs) t = some (.tup xs) → Hb t = some (.tup xs) := fun t xs e => by
  have h : t ≠ p := fun z => by rw [z, upd_same] at e; cases e
  rwa [upd_ne h] at e
def spPrI (CB CM CP CK CW CF CH CC CI : Addr) : Sp := fun vs H Q _ => ∃ (p dx im ln : Addr) (us : List V) (ns : List Int) (ls : List (Int × Int)), vs = [.ref p, .ref im, .ref ln] ∧ H p = some (.ins CP dx []) ∧ H im = some (.lst (ns.map V.int)) ∧ ns.length ≤ 512 ∧ WordsOk ns ∧
  H ln = some (.lst us) ∧ TupsAt H us ls ∧ riseM 0 ls ∧ ∀ (H' : Hp) (F : Addr → Prop) (St : List Addr), (∀ b o, b ≠ p → H b = some o → H' b = some o) → (∀ b, F b → b = p ∨ H b = none) → (∀ b, b ∈ St → H b = none ∧ ¬ F b) →
    (∀ S, Same S H' → (∀ b, F b → S b = none) → (∀ b, b ∈ St → S b = H' b) → PrA CB CM CP CK CW CF CH CC CI S H' F p (newP ns ls)) → Q .non H'
section
variable {P : Program} {w : World} {K : PySem.W.Frag} {mg : Str → Option Value} {base : Heap} {CB CM CP CK CW CF CH CC CI CS CO CQ : Addr}
abbrev sCprb : Stmt := inClass (topS 97) 0
def scCprbN : List Str := ["self", "image", "line"]
theorem scCprb : FnScope scCprbN ["self", "image", "line"] (defScope sCprb) := ⟨rfl, rfl, rfl, by decide +kernel, rfl, by decide +kernel, by decide +kernel⟩
theorem ok_Cprb {f : Addr} {fd : FuncData} {fC_board : Addr} {dC_board : FuncData} {fC_cou : Addr} {dC_cou : FuncData} {fC_fra : Addr} {dC_fra : FuncData} {fC_his : Addr} {dC_his : FuncData} {fC_mar : Addr} {dC_mar : FuncData} {fC_mis : Addr} {dC_mis : FuncData} {fC_sta : Addr} {dC_sta : FuncData} {fC_wat : Addr} {dC_wat : FuncData} (F : Fun K "__init__" "Probe.__init__" sCprb f fd) (T : Ty K mg CB CM CP CK CW CF CH CC CI CS)
    (C_board : CalC P w K mg base CB 6 "Board" ["self", "image", "line"] (spBI CB CM) fC_board dC_board)
    (C_cou : CalC P w K mg base CC 1 "Counts" ["self"] (spMkC CC) fC_cou dC_cou)
    (C_fra : CalC P w K mg base CF 1 "Frames" ["self"] (spMkF CF) fC_fra dC_fra)
    (C_his : CalC P w K mg base CH 1 "History" ["self"] (spMkH CH) fC_his dC_his)
    (C_mar : CalC P w K mg base CK 1 "Marks" ["self", "memory"] (spMkK CK) fC_mar dC_mar)
    (C_mis : CalC P w K mg base CI 1 "Mishaps" ["self"] (spMkI CI) fC_mis dC_mis)
    (C_sta : CalC P w K mg base CS 1 "Stands" ["self"] (spMade CS) fC_sta dC_sta)
    (C_wat : CalC P w K mg base CW 1 "Watches" ["self"] (spMkW CW) fC_wat dC_wat) : FnOk P w K mg base CX0 8 f fd ["self", "image", "line"] (spPrI CB CM CP CK CW CF CH CC CI) := by
  refine F.ok scCprb (fun vs H Q E h => by obtain ⟨_, _, _, _, _, _, _, rfl, _⟩ := h; rfl) (fun cdv A outer s H vs Q E hr h => ?_)
  have hu := hu_of hr
  obtain ⟨p, dx, im, ln, us, ns, ls, rfl, hp, him, hl, hw, hln, htu, hri, k⟩ := h
  refine ⟨_, (pss_cons (ps_fld (pv 0) (pe_make C_board.M C_board.I (hr.mono (by decide)) rfl C_board.g C_board.b .nil pass0 (pa_cons (pv 1) (pa_cons (pv 2) pa_nil))) rfl)
    (pss_cons (ps_fld (pv 0) (pe_make C_mar.M C_mar.I (hr.mono (by decide)) rfl C_mar.g C_mar.b .nil pass0 (pa_cons (pe_fld (pe_fld (pv 0) rfl) rfl) pa_nil)) rfl)
    (pss_cons (ps_fld (pv 0) (pe_make0 C_wat.M C_wat.I (hr.mono (by decide)) rfl C_wat.g C_wat.b .nil pass0) rfl)
    (pss_cons (ps_fld (pv 0) (pe_make0 C_fra.M C_fra.I (hr.mono (by decide)) rfl C_fra.g C_fra.b .nil pass0) rfl)
    (pss_cons (ps_fld (pv 0) (pe_make0 C_his.M C_his.I (hr.mono (by decide)) rfl C_his.g C_his.b .nil pass0) rfl)
    (pss_cons (ps_fld (pv 0) (pe_make0 C_cou.M C_cou.I (hr.mono (by decide)) rfl C_cou.g C_cou.b .nil pass0) rfl)
    (pss_cons (ps_fld (pv 0) (pe_make0 C_mis.M C_mis.I (hr.mono (by decide)) rfl C_mis.g C_mis.b .nil pass0) rfl)
    (pss_cons (ps_fld (pv 0) (pe_make0 C_sta.M C_sta.I (hr.mono (by decide)) rfl C_sta.g C_sta.b .nil pass0) rfl)
    (pss_cons (ps_fld (pv 0) pe_int rfl)
    (pss_one (ps_fld (pv 0) pe_non rfl))))))))))), ?_⟩
  obtain ⟨Hb0, eH, fb0⟩ : ∃ Hb0, H = upd Hb0 p (.ins CP dx []) ∧ Hb0 p = none := by
    refine ⟨fun b => if b = p then none else H b, ?_, if_pos rfl⟩
    funext b
    by_cases h : b = p
    · subst h
      rw [upd_same]
      exact hp
    · rw [upd_ne h]
      exact (if_neg h).symm
  subst eH
  refine ⟨_, rfl, _, rfl, ?_⟩
  intro b dxb nb ndx hdx
  have sq : Same (upd Hb0 p (.ins CP dx [])) (upd (upd (upd Hb0 p (.ins CP dx [])) dxb (.own b)) b (.ins CB dxb [])) := fun z o ez => by
    rw [upd_ne (ne_of_none ez nb), upd_ne (ne_of_none ez ndx)]
    exact ez
  refine ⟨upd Hb0 p (.ins CP dx []), b, dxb, im, ln, us, ns, ls, rfl, sq, nb, upd_same, sq _ _ him, hl, hw, sq _ _ hln, htu.mono (fun t xs e => sq _ _ e), hri, fun H1 T_ ma_ sa_ R => ⟨rfl, ?_⟩⟩
  obtain ⟨A, ts, lsv, B⟩ := R
  have ft := B.foot
  have B0 := B.weak
  obtain ⟨Hb1, rfl, sb1, fb1⟩ := pull B.sm fb0
  have off : ∀ q, FtB b A q → q ≠ p := fun q h => (fresh1 (ft q h)).1
  have ftn : ∀ q, FtB b A q → Hb0 q = none := fun q h => (fresh1 (ft q h)).2
  have hfb1 : ∀ q, FtB b A q → ∃ o, Hb1 q = some o := fun q h => by
    obtain ⟨o, e, _⟩ := B0.solid q h
    exact ⟨o, by rwa [upd_ne (off q h)] at e⟩
  have C1 : BdOn CB CM Hb1 b A ts lsv { newBd ns ls with tv := T_, ma := ma_, sa := sa_ } := B0.keep (fun q o h e => by rwa [upd_ne (off q h)] at e) tup_off
  clear B B0 sq
  refine ⟨_, rfl, p, CP, dx, _, rfl, upd_same, T.cP, T.nP_board, (by show 0 < 1000; decide), ?_⟩
  rw [upd_upd]
  obtain ⟨svb, tvb, dvb, hpb, hzb⟩ := C1.hp
  have nbp : b ≠ p := off b (.inl rfl)
  refine ⟨_, rfl, p, CP, dx, _, _, rfl, upd_same, T.cP, T.nP_board, (by kernel_rfl), b, CB, A.dx, _, _, rfl, (by rw [upd_ne nbp]; exact hpb), T.cB, T.n_memory, bF_mem, ?_⟩
  clear hpb hzb
  have hfb_1 := hfb1
  intro st dst n1 n2 n3
  refine ⟨st, dst, A.m, rfl, upd_same, fun H2 hd er kp nhd ner hhd her hst => ⟨rfl, ?_⟩⟩
  have s2 : Same (upd Hb1 p (.ins CP dx (putF "board" (.ref b) ([])))) H2 := made_same n1 n2 kp
  obtain ⟨pst, fst⟩ := fresh1 n1
  obtain ⟨vhd, phd, fhd⟩ := fresh3 nhd
  obtain ⟨ver, per, fer⟩ := fresh3 ner
  obtain ⟨Hb2, rfl, sb2, fb2⟩ := pull s2 fb1
  rw [upd_ne pst] at hst
  rw [upd_ne phd] at hhd
  rw [upd_ne per] at her
  have C1 := C1.keep (fun q o h e => sb2 q o e) (fun q xs e => sb2 q _ e)
  have nhder : hd ≠ er := ne_of hhd her (by intro z; cases z)
  have hfb1 : ∀ q, FtB b A q → ∃ o, Hb2 q = some o := fun q h => by
    obtain ⟨o, e⟩ := hfb1 q h
    exact ⟨o, sb2 _ _ e⟩
  have ost : ¬ FtB b A st := fun h => by
    obtain ⟨o, e⟩ := hfb_1 _ h
    exact ne_of_none e fst rfl
  have ohd : ¬ FtB b A hd := fun h => by
    obtain ⟨o, e⟩ := hfb_1 _ h
    exact ne_of_none e fhd rfl
  have oer : ¬ FtB b A er := fun h => by
    obtain ⟨o, e⟩ := hfb_1 _ h
    exact ne_of_none e fer rfl
  have zst : Hb0 st = none := sb1.free fst
  have zhd : Hb0 hd = none := sb1.free fhd
  have zer : Hb0 er = none := sb1.free fer
  clear kp s2 n1 n2 n3
  refine ⟨_, rfl, p, CP, dx, _, rfl, upd_same, T.cP, T.nP_standing, (by show 1 < 1000; decide), ?_⟩
  rw [upd_upd]
  have hfb_2 := hfb1
  intro wa dwa n1 n2 n3
  refine ⟨wa, dwa, rfl, upd_same, fun H3 wr kp nwr hwr hwa => ⟨rfl, ?_⟩⟩
  have s3 : Same (upd Hb2 p (.ins CP dx (putF "standing" (.ref st) (putF "board" (.ref b) ([]))))) H3 := made_same n1 n2 kp
  obtain ⟨pwa, fwa⟩ := fresh1 n1
  obtain ⟨vwr, pwr, fwr⟩ := fresh3 nwr
  have e_er_wa : er ≠ wa := ne_of_none her fwa
  have e_er_wr : er ≠ wr := ne_of_none her fwr
  have e_hd_wa : hd ≠ wa := ne_of_none hhd fwa
  have e_hd_wr : hd ≠ wr := ne_of_none hhd fwr
  have e_st_wa : st ≠ wa := ne_of_none hst fwa
  have e_st_wr : st ≠ wr := ne_of_none hst fwr
  obtain ⟨Hb3, rfl, sb3, fb3⟩ := pull s3 fb2
  rw [upd_ne pwa] at hwa
  rw [upd_ne pwr] at hwr
  have C1 := C1.keep (fun q o h e => sb3 q o e) (fun q xs e => sb3 q _ e)
  have hst := sb3 _ _ hst
  have hhd := sb3 _ _ hhd
  have her := sb3 _ _ her
  have hfb1 : ∀ q, FtB b A q → ∃ o, Hb3 q = some o := fun q h => by
    obtain ⟨o, e⟩ := hfb1 q h
    exact ⟨o, sb3 _ _ e⟩
  have owa : ¬ FtB b A wa := fun h => by
    obtain ⟨o, e⟩ := hfb_2 _ h
    exact ne_of_none e fwa rfl
  have owr : ¬ FtB b A wr := fun h => by
    obtain ⟨o, e⟩ := hfb_2 _ h
    exact ne_of_none e fwr rfl
  have zwa : Hb0 wa = none := (sb1.trans sb2).free fwa
  have zwr : Hb0 wr = none := (sb1.trans sb2).free fwr
  clear kp s3 n1 n2 n3
  refine ⟨_, rfl, p, CP, dx, _, rfl, upd_same, T.cP, T.nP_watching, (by show 2 < 1000; decide), ?_⟩
  rw [upd_upd]
  have hfb_3 := hfb1
  intro fr dfr n1 n2 n3
  refine ⟨fr, dfr, rfl, upd_same, fun H4 fl kp nfl hfl hfr => ⟨rfl, ?_⟩⟩
  have s4 : Same (upd Hb3 p (.ins CP dx (putF "watching" (.ref wa) (putF "standing" (.ref st) (putF "board" (.ref b) ([])))))) H4 := made_same n1 n2 kp
  obtain ⟨pfr, ffr⟩ := fresh1 n1
  obtain ⟨vfl, pfl, ffl⟩ := fresh3 nfl
  have e_er_fl : er ≠ fl := ne_of_none her ffl
  have e_er_fr : er ≠ fr := ne_of_none her ffr
  have e_hd_fl : hd ≠ fl := ne_of_none hhd ffl
  have e_hd_fr : hd ≠ fr := ne_of_none hhd ffr
  have e_st_fl : st ≠ fl := ne_of_none hst ffl
  have e_st_fr : st ≠ fr := ne_of_none hst ffr
  have e_wa_fl : wa ≠ fl := ne_of_none hwa ffl
  have e_wa_fr : wa ≠ fr := ne_of_none hwa ffr
  have e_wr_fl : wr ≠ fl := ne_of_none hwr ffl
  have e_wr_fr : wr ≠ fr := ne_of_none hwr ffr
  obtain ⟨Hb4, rfl, sb4, fb4⟩ := pull s4 fb3
  rw [upd_ne pfr] at hfr
  rw [upd_ne pfl] at hfl
  have C1 := C1.keep (fun q o h e => sb4 q o e) (fun q xs e => sb4 q _ e)
  have hst := sb4 _ _ hst
  have hhd := sb4 _ _ hhd
  have her := sb4 _ _ her
  have hwa := sb4 _ _ hwa
  have hwr := sb4 _ _ hwr
  have hfb1 : ∀ q, FtB b A q → ∃ o, Hb4 q = some o := fun q h => by
    obtain ⟨o, e⟩ := hfb1 q h
    exact ⟨o, sb4 _ _ e⟩
  have ofr : ¬ FtB b A fr := fun h => by
    obtain ⟨o, e⟩ := hfb_3 _ h
    exact ne_of_none e ffr rfl
  have ofl : ¬ FtB b A fl := fun h => by
    obtain ⟨o, e⟩ := hfb_3 _ h
    exact ne_of_none e ffl rfl
  have zfr : Hb0 fr = none := ((sb1.trans sb2).trans sb3).free ffr
  have zfl : Hb0 fl = none := ((sb1.trans sb2).trans sb3).free ffl
  clear kp s4 n1 n2 n3
  refine ⟨_, rfl, p, CP, dx, _, rfl, upd_same, T.cP, T.nP_frames, (by show 3 < 1000; decide), ?_⟩
  rw [upd_upd]
  have hfb_4 := hfb1
  intro hi dhi n1 n2 n3
  refine ⟨hi, dhi, rfl, upd_same, fun H5 hl_ kp nhl_ hhl_ hhi => ⟨rfl, ?_⟩⟩
  have s5 : Same (upd Hb4 p (.ins CP dx (putF "frames" (.ref fr) (putF "watching" (.ref wa) (putF "standing" (.ref st) (putF "board" (.ref b) ([]))))))) H5 := made_same n1 n2 kp
  obtain ⟨phi, fhi⟩ := fresh1 n1
  obtain ⟨vhl_, phl_, fhl_⟩ := fresh3 nhl_
  have e_er_hi : er ≠ hi := ne_of_none her fhi
  have e_er_hl_ : er ≠ hl_ := ne_of_none her fhl_
  have e_fl_hi : fl ≠ hi := ne_of_none hfl fhi
  have e_fl_hl_ : fl ≠ hl_ := ne_of_none hfl fhl_
  have e_fr_hi : fr ≠ hi := ne_of_none hfr fhi
  have e_fr_hl_ : fr ≠ hl_ := ne_of_none hfr fhl_
  have e_hd_hi : hd ≠ hi := ne_of_none hhd fhi
  have e_hd_hl_ : hd ≠ hl_ := ne_of_none hhd fhl_
  have e_st_hi : st ≠ hi := ne_of_none hst fhi
  have e_st_hl_ : st ≠ hl_ := ne_of_none hst fhl_
  have e_wa_hi : wa ≠ hi := ne_of_none hwa fhi
  have e_wa_hl_ : wa ≠ hl_ := ne_of_none hwa fhl_
  have e_wr_hi : wr ≠ hi := ne_of_none hwr fhi
  have e_wr_hl_ : wr ≠ hl_ := ne_of_none hwr fhl_
  obtain ⟨Hb5, rfl, sb5, fb5⟩ := pull s5 fb4
  rw [upd_ne phi] at hhi
  rw [upd_ne phl_] at hhl_
  have C1 := C1.keep (fun q o h e => sb5 q o e) (fun q xs e => sb5 q _ e)
  have hst := sb5 _ _ hst
  have hhd := sb5 _ _ hhd
  have her := sb5 _ _ her
  have hwa := sb5 _ _ hwa
  have hwr := sb5 _ _ hwr
  have hfr := sb5 _ _ hfr
  have hfl := sb5 _ _ hfl
  have hfb1 : ∀ q, FtB b A q → ∃ o, Hb5 q = some o := fun q h => by
    obtain ⟨o, e⟩ := hfb1 q h
    exact ⟨o, sb5 _ _ e⟩
  have ohi : ¬ FtB b A hi := fun h => by
    obtain ⟨o, e⟩ := hfb_4 _ h
    exact ne_of_none e fhi rfl
  have ohl_ : ¬ FtB b A hl_ := fun h => by
    obtain ⟨o, e⟩ := hfb_4 _ h
    exact ne_of_none e fhl_ rfl
  have zhi : Hb0 hi = none := (((sb1.trans sb2).trans sb3).trans sb4).free fhi
  have zhl_ : Hb0 hl_ = none := (((sb1.trans sb2).trans sb3).trans sb4).free fhl_
  clear kp s5 n1 n2 n3
  refine ⟨_, rfl, p, CP, dx, _, rfl, upd_same, T.cP, T.nP_history, (by show 4 < 1000; decide), ?_⟩
  rw [upd_upd]
  have hfb_5 := hfb1
  intro co dco n1 n2 n3
  refine ⟨co, dco, rfl, upd_same, fun H6 cd cf kp ncd ncf ncdf hcd hcf hco => ⟨rfl, ?_⟩⟩
  have s6 : Same (upd Hb5 p (.ins CP dx (putF "history" (.ref hi) (putF "frames" (.ref fr) (putF "watching" (.ref wa) (putF "standing" (.ref st) (putF "board" (.ref b) ([])))))))) H6 := made_same n1 n2 kp
  obtain ⟨pco, fco⟩ := fresh1 n1
  obtain ⟨vcd, pcd, fcd⟩ := fresh3 ncd
  obtain ⟨vcf, pcf, fcf⟩ := fresh3 ncf
  have e_er_cd : er ≠ cd := ne_of_none her fcd
  have e_er_cf : er ≠ cf := ne_of_none her fcf
  have e_er_co : er ≠ co := ne_of_none her fco
  have e_fl_cd : fl ≠ cd := ne_of_none hfl fcd
  have e_fl_cf : fl ≠ cf := ne_of_none hfl fcf
  have e_fl_co : fl ≠ co := ne_of_none hfl fco
  have e_fr_cd : fr ≠ cd := ne_of_none hfr fcd
  have e_fr_cf : fr ≠ cf := ne_of_none hfr fcf
  have e_fr_co : fr ≠ co := ne_of_none hfr fco
  have e_hd_cd : hd ≠ cd := ne_of_none hhd fcd
  have e_hd_cf : hd ≠ cf := ne_of_none hhd fcf
  have e_hd_co : hd ≠ co := ne_of_none hhd fco
  have e_hi_cd : hi ≠ cd := ne_of_none hhi fcd
  have e_hi_cf : hi ≠ cf := ne_of_none hhi fcf
  have e_hi_co : hi ≠ co := ne_of_none hhi fco
  have e_hl__cd : hl_ ≠ cd := ne_of_none hhl_ fcd
  have e_hl__cf : hl_ ≠ cf := ne_of_none hhl_ fcf
  have e_hl__co : hl_ ≠ co := ne_of_none hhl_ fco
  have e_st_cd : st ≠ cd := ne_of_none hst fcd
  have e_st_cf : st ≠ cf := ne_of_none hst fcf
  have e_st_co : st ≠ co := ne_of_none hst fco
  have e_wa_cd : wa ≠ cd := ne_of_none hwa fcd
  have e_wa_cf : wa ≠ cf := ne_of_none hwa fcf
  have e_wa_co : wa ≠ co := ne_of_none hwa fco
  have e_wr_cd : wr ≠ cd := ne_of_none hwr fcd
  have e_wr_cf : wr ≠ cf := ne_of_none hwr fcf
  have e_wr_co : wr ≠ co := ne_of_none hwr fco
  obtain ⟨Hb6, rfl, sb6, fb6⟩ := pull s6 fb5
  rw [upd_ne pco] at hco
  rw [upd_ne pcd] at hcd
  rw [upd_ne pcf] at hcf
  have C1 := C1.keep (fun q o h e => sb6 q o e) (fun q xs e => sb6 q _ e)
  have hst := sb6 _ _ hst
  have hhd := sb6 _ _ hhd
  have her := sb6 _ _ her
  have hwa := sb6 _ _ hwa
  have hwr := sb6 _ _ hwr
  have hfr := sb6 _ _ hfr
  have hfl := sb6 _ _ hfl
  have hhi := sb6 _ _ hhi
  have hhl_ := sb6 _ _ hhl_
  have hfb1 : ∀ q, FtB b A q → ∃ o, Hb6 q = some o := fun q h => by
    obtain ⟨o, e⟩ := hfb1 q h
    exact ⟨o, sb6 _ _ e⟩
  have oco : ¬ FtB b A co := fun h => by
    obtain ⟨o, e⟩ := hfb_5 _ h
    exact ne_of_none e fco rfl
  have ocd : ¬ FtB b A cd := fun h => by
    obtain ⟨o, e⟩ := hfb_5 _ h
    exact ne_of_none e fcd rfl
  have ocf : ¬ FtB b A cf := fun h => by
    obtain ⟨o, e⟩ := hfb_5 _ h
    exact ne_of_none e fcf rfl
  have zco : Hb0 co = none := ((((sb1.trans sb2).trans sb3).trans sb4).trans sb5).free fco
  have zcd : Hb0 cd = none := ((((sb1.trans sb2).trans sb3).trans sb4).trans sb5).free fcd
  have zcf : Hb0 cf = none := ((((sb1.trans sb2).trans sb3).trans sb4).trans sb5).free fcf
  clear kp s6 n1 n2 n3
  refine ⟨_, rfl, p, CP, dx, _, rfl, upd_same, T.cP, T.nP_counts, (by show 5 < 1000; decide), ?_⟩
  rw [upd_upd]
  have hfb_6 := hfb1
  intro mi dmi n1 n2 n3
  refine ⟨mi, dmi, rfl, upd_same, fun H7 ml mr kp nml nmr hml hmr hmi => ⟨rfl, ?_⟩⟩
  have s7 : Same (upd Hb6 p (.ins CP dx (putF "counts" (.ref co) (putF "history" (.ref hi) (putF "frames" (.ref fr) (putF "watching" (.ref wa) (putF "standing" (.ref st) (putF "board" (.ref b) ([]))))))))) H7 := made_same n1 n2 kp
  obtain ⟨pmi, fmi⟩ := fresh1 n1
  obtain ⟨vml, pml, fml⟩ := fresh3 nml
  obtain ⟨vmr, pmr, fmr⟩ := fresh3 nmr
  have e_cd_mi : cd ≠ mi := ne_of_none hcd fmi
  have e_cd_ml : cd ≠ ml := ne_of_none hcd fml
  have e_cf_mi : cf ≠ mi := ne_of_none hcf fmi
  have e_cf_ml : cf ≠ ml := ne_of_none hcf fml
  have e_co_mi : co ≠ mi := ne_of_none hco fmi
  have e_co_ml : co ≠ ml := ne_of_none hco fml
  have e_er_mi : er ≠ mi := ne_of_none her fmi
  have e_er_ml : er ≠ ml := ne_of_none her fml
  have e_fl_mi : fl ≠ mi := ne_of_none hfl fmi
  have e_fl_ml : fl ≠ ml := ne_of_none hfl fml
  have e_fr_mi : fr ≠ mi := ne_of_none hfr fmi
  have e_fr_ml : fr ≠ ml := ne_of_none hfr fml
  have e_hd_mi : hd ≠ mi := ne_of_none hhd fmi
  have e_hd_ml : hd ≠ ml := ne_of_none hhd fml
  have e_hi_mi : hi ≠ mi := ne_of_none hhi fmi
  have e_hi_ml : hi ≠ ml := ne_of_none hhi fml
  have e_hl__mi : hl_ ≠ mi := ne_of_none hhl_ fmi
  have e_hl__ml : hl_ ≠ ml := ne_of_none hhl_ fml
  have e_st_mi : st ≠ mi := ne_of_none hst fmi
  have e_st_ml : st ≠ ml := ne_of_none hst fml
  have e_wa_mi : wa ≠ mi := ne_of_none hwa fmi
  have e_wa_ml : wa ≠ ml := ne_of_none hwa fml
  have e_wr_mi : wr ≠ mi := ne_of_none hwr fmi
  have e_wr_ml : wr ≠ ml := ne_of_none hwr fml
  obtain ⟨Hb7, rfl, sb7, fb7⟩ := pull s7 fb6
  rw [upd_ne pmi] at hmi
  rw [upd_ne pml] at hml
  rw [upd_ne pmr] at hmr
  have C1 := C1.keep (fun q o h e => sb7 q o e) (fun q xs e => sb7 q _ e)
  have hst := sb7 _ _ hst
  have hhd := sb7 _ _ hhd
  have her := sb7 _ _ her
  have hwa := sb7 _ _ hwa
  have hwr := sb7 _ _ hwr
  have hfr := sb7 _ _ hfr
  have hfl := sb7 _ _ hfl
  have hhi := sb7 _ _ hhi
  have hhl_ := sb7 _ _ hhl_
  have hco := sb7 _ _ hco
  have hcd := sb7 _ _ hcd
  have hcf := sb7 _ _ hcf
  have hfb1 : ∀ q, FtB b A q → ∃ o, Hb7 q = some o := fun q h => by
    obtain ⟨o, e⟩ := hfb1 q h
    exact ⟨o, sb7 _ _ e⟩
  have omi : ¬ FtB b A mi := fun h => by
    obtain ⟨o, e⟩ := hfb_6 _ h
    exact ne_of_none e fmi rfl
  have oml : ¬ FtB b A ml := fun h => by
    obtain ⟨o, e⟩ := hfb_6 _ h
    exact ne_of_none e fml rfl
  have omr : ¬ FtB b A mr := fun h => by
    obtain ⟨o, e⟩ := hfb_6 _ h
    exact ne_of_none e fmr rfl
  have zmi : Hb0 mi = none := (((((sb1.trans sb2).trans sb3).trans sb4).trans sb5).trans sb6).free fmi
  have zml : Hb0 ml = none := (((((sb1.trans sb2).trans sb3).trans sb4).trans sb5).trans sb6).free fml
  have zmr : Hb0 mr = none := (((((sb1.trans sb2).trans sb3).trans sb4).trans sb5).trans sb6).free fmr
  clear kp s7 n1 n2 n3
  refine ⟨_, rfl, p, CP, dx, _, rfl, upd_same, T.cP, T.nP_mishaps, (by show 6 < 1000; decide), ?_⟩
  rw [upd_upd]
  have hfb_7 := hfb1
  intro sd dsd n1 n2 n3
  refine ⟨sd, dsd, rfl, upd_same, fun H8 kp => ⟨rfl, ?_⟩⟩
  have s8 : Same (upd Hb7 p (.ins CP dx (putF "mishaps" (.ref mi) (putF "counts" (.ref co) (putF "history" (.ref hi) (putF "frames" (.ref fr) (putF "watching" (.ref wa) (putF "standing" (.ref st) (putF "board" (.ref b) ([])))))))))) H8 := made_same n1 n2 kp
  obtain ⟨psd, fsd⟩ := fresh1 n1
  obtain ⟨Hb8, rfl, sb8, fb8⟩ := pull s8 fb7
  have C1 := C1.keep (fun q o h e => sb8 q o e) (fun q xs e => sb8 q _ e)
  have hst := sb8 _ _ hst
  have hhd := sb8 _ _ hhd
  have her := sb8 _ _ her
  have hwa := sb8 _ _ hwa
  have hwr := sb8 _ _ hwr
  have hfr := sb8 _ _ hfr
  have hfl := sb8 _ _ hfl
  have hhi := sb8 _ _ hhi
  have hhl_ := sb8 _ _ hhl_
  have hco := sb8 _ _ hco
  have hcd := sb8 _ _ hcd
  have hcf := sb8 _ _ hcf
  have hmi := sb8 _ _ hmi
  have hml := sb8 _ _ hml
  have hmr := sb8 _ _ hmr
  have hfb1 : ∀ q, FtB b A q → ∃ o, Hb8 q = some o := fun q h => by
    obtain ⟨o, e⟩ := hfb1 q h
    exact ⟨o, sb8 _ _ e⟩
  clear kp s8 n1 n2 n3
  refine ⟨_, rfl, p, CP, dx, _, rfl, upd_same, T.cP, T.nP_stands, (by show 7 < 1000; decide), ?_⟩
  rw [upd_upd]
  refine ⟨_, rfl, p, CP, dx, _, rfl, upd_same, T.cP, T.nP_turns_gone, (by show 8 < 1000; decide), ?_⟩
  rw [upd_upd]
  refine ⟨_, rfl, p, CP, dx, _, rfl, upd_same, T.cP, T.nP_course, (by show 9 < 1000; decide), ?_⟩
  rw [upd_upd]
  have ef : putF "course" V.non (putF "turns_gone" (.int 0) (putF "stands" (.ref sd) (putF "mishaps" (.ref mi) (putF "counts" (.ref co) (putF "history" (.ref hi) (putF "frames" (.ref fr) (putF "watching" (.ref wa) (putF "standing" (.ref st) (putF "board" (.ref b) ([])))))))))) = prF b st wa fr hi co mi sd 0 .non := by kernel_rfl
  rw [ef]
  have s08 : Same Hb0 Hb8 := ((((((sb1.trans sb2).trans sb3).trans sb4).trans sb5).trans sb6).trans sb7).trans sb8
  refine k _ (FtP p ⟨dx, b, A, ts, lsv, st, dst, hd, er, wa, dwa, wr, fr, dfr, fl, hi, dhi, hl_, co, dco, cd, cf, mi, dmi, ml, mr, sd, [], [], [], [.non, .non]⟩) [mi, ml] (fun q o n e => ?_) (fun q h => ?_) (fun q h => ?_) (fun S sS dS eS => ?_)
  · rw [upd_ne n] at e ⊢
    exact s08 _ _ e
  · rcases h with h | h
    · exact .inr (by rw [upd_ne (off q h)]; exact ftn q h)
    · have h : q ∈ [p, fr, fl, hi, hl_, co, cd, cf, st, hd, er, wa, wr] := h
      simp only [List.mem_cons, List.not_mem_nil, or_false] at h
      rcases h with h | h | h | h | h | h | h | h | h | h | h | h | h
      · exact .inl h
      · exact .inr (by rw [h, upd_ne pfr]; exact zfr)
      · exact .inr (by rw [h, upd_ne pfl]; exact zfl)
      · exact .inr (by rw [h, upd_ne phi]; exact zhi)
      · exact .inr (by rw [h, upd_ne phl_]; exact zhl_)
      · exact .inr (by rw [h, upd_ne pco]; exact zco)
      · exact .inr (by rw [h, upd_ne pcd]; exact zcd)
      · exact .inr (by rw [h, upd_ne pcf]; exact zcf)
      · exact .inr (by rw [h, upd_ne pst]; exact zst)
      · exact .inr (by rw [h, upd_ne phd]; exact zhd)
      · exact .inr (by rw [h, upd_ne per]; exact zer)
      · exact .inr (by rw [h, upd_ne pwa]; exact zwa)
      · exact .inr (by rw [h, upd_ne pwr]; exact zwr)
  · simp only [List.mem_cons, List.not_mem_nil, or_false] at h
    rcases h with h | h
    · rw [h]
      refine ⟨by rw [upd_ne pmi]; exact zmi, fun z => ?_⟩
      rcases z with z | z
      · exact omi z
      · have z : mi ∈ [p, fr, fl, hi, hl_, co, cd, cf, st, hd, er, wa, wr] := z
        simp only [List.mem_cons, List.not_mem_nil, or_false] at z
        rcases z with z | z | z | z | z | z | z | z | z | z | z | z | z
        · exact pmi z
        · exact e_fr_mi.symm z
        · exact e_fl_mi.symm z
        · exact e_hi_mi.symm z
        · exact e_hl__mi.symm z
        · exact e_co_mi.symm z
        · exact e_cd_mi.symm z
        · exact e_cf_mi.symm z
        · exact e_st_mi.symm z
        · exact e_hd_mi.symm z
        · exact e_er_mi.symm z
        · exact e_wa_mi.symm z
        · exact e_wr_mi.symm z
    · rw [h]
      refine ⟨by rw [upd_ne pml]; exact zml, fun z => ?_⟩
      rcases z with z | z
      · exact oml z
      · have z : ml ∈ [p, fr, fl, hi, hl_, co, cd, cf, st, hd, er, wa, wr] := z
        simp only [List.mem_cons, List.not_mem_nil, or_false] at z
        rcases z with z | z | z | z | z | z | z | z | z | z | z | z | z
        · exact pml z
        · exact e_fr_ml.symm z
        · exact e_fl_ml.symm z
        · exact e_hi_ml.symm z
        · exact e_hl__ml.symm z
        · exact e_co_ml.symm z
        · exact e_cd_ml.symm z
        · exact e_cf_ml.symm z
        · exact e_st_ml.symm z
        · exact e_hd_ml.symm z
        · exact e_er_ml.symm z
        · exact e_wa_ml.symm z
        · exact e_wr_ml.symm z
  · have hm : ∀ {q : Addr} {o : HO}, q ≠ p → Hb8 q = some o → upd Hb8 p (.ins CP dx (prF b st wa fr hi co mi sd 0 .non)) q = some o := fun n e => by rw [upd_ne n]; exact e
    refine ⟨⟨⟨dx, b, A, ts, lsv, st, dst, hd, er, wa, dwa, wr, fr, dfr, fl, hi, dhi, hl_, co, dco, cd, cf, mi, dmi, ml, mr, sd, [], [], [], [.non, .non]⟩, T_, .non, ma_, sa_, rfl, {
      sm := sS
      fs := dS
      nd := List.nodup_cons.mpr ⟨by simp only [List.mem_cons, List.not_mem_nil, or_false, not_or]; exact ⟨pfr.symm, pfl.symm, phi.symm, phl_.symm, pco.symm, pcd.symm, pcf.symm, pst.symm, phd.symm, per.symm, pwa.symm, pwr.symm⟩, List.nodup_cons.mpr ⟨by simp only [List.mem_cons, List.not_mem_nil, or_false, not_or]; exact ⟨vfl.symm, e_fr_hi, e_fr_hl_, e_fr_co, e_fr_cd, e_fr_cf, e_st_fr.symm, e_hd_fr.symm, e_er_fr.symm, e_wa_fr.symm, e_wr_fr.symm⟩, List.nodup_cons.mpr ⟨by simp only [List.mem_cons, List.not_mem_nil, or_false, not_or]; exact ⟨e_fl_hi, e_fl_hl_, e_fl_co, e_fl_cd, e_fl_cf, e_st_fl.symm, e_hd_fl.symm, e_er_fl.symm, e_wa_fl.symm, e_wr_fl.symm⟩, List.nodup_cons.mpr ⟨by simp only [List.mem_cons, List.not_mem_nil, or_false, not_or]; exact ⟨vhl_.symm, e_hi_co, e_hi_cd, e_hi_cf, e_st_hi.symm, e_hd_hi.symm, e_er_hi.symm, e_wa_hi.symm, e_wr_hi.symm⟩, List.nodup_cons.mpr ⟨by simp only [List.mem_cons, List.not_mem_nil, or_false, not_or]; exact ⟨e_hl__co, e_hl__cd, e_hl__cf, e_st_hl_.symm, e_hd_hl_.symm, e_er_hl_.symm, e_wa_hl_.symm, e_wr_hl_.symm⟩, List.nodup_cons.mpr ⟨by simp only [List.mem_cons, List.not_mem_nil, or_false, not_or]; exact ⟨vcd.symm, vcf.symm, e_st_co.symm, e_hd_co.symm, e_er_co.symm, e_wa_co.symm, e_wr_co.symm⟩, List.nodup_cons.mpr ⟨by simp only [List.mem_cons, List.not_mem_nil, or_false, not_or]; exact ⟨ncdf, e_st_cd.symm, e_hd_cd.symm, e_er_cd.symm, e_wa_cd.symm, e_wr_cd.symm⟩, List.nodup_cons.mpr ⟨by simp only [List.mem_cons, List.not_mem_nil, or_false, not_or]; exact ⟨e_st_cf.symm, e_hd_cf.symm, e_er_cf.symm, e_wa_cf.symm, e_wr_cf.symm⟩, List.nodup_cons.mpr ⟨by simp only [List.mem_cons, List.not_mem_nil, or_false, not_or]; exact ⟨vhd.symm, ver.symm, e_st_wa, e_st_wr⟩, List.nodup_cons.mpr ⟨by simp only [List.mem_cons, List.not_mem_nil, or_false, not_or]; exact ⟨nhder, e_hd_wa, e_hd_wr⟩, List.nodup_cons.mpr ⟨by simp only [List.mem_cons, List.not_mem_nil, or_false, not_or]; exact ⟨e_er_wa, e_er_wr⟩, List.nodup_cons.mpr ⟨by simp only [List.mem_cons, List.not_mem_nil, or_false, not_or]; exact vwr.symm, List.nodup_cons.mpr ⟨List.not_mem_nil, List.nodup_nil⟩⟩⟩⟩⟩⟩⟩⟩⟩⟩⟩⟩⟩
      ob := fun q h z => by
        have h : q ∈ [p, fr, fl, hi, hl_, co, cd, cf, st, hd, er, wa, wr] := h
        simp only [List.mem_cons, List.not_mem_nil, or_false] at h
        rcases h with h | h | h | h | h | h | h | h | h | h | h | h | h
        · exact off q z h
        · exact ofr (h ▸ z)
        · exact ofl (h ▸ z)
        · exact ohi (h ▸ z)
        · exact ohl_ (h ▸ z)
        · exact oco (h ▸ z)
        · exact ocd (h ▸ z)
        · exact ocf (h ▸ z)
        · exact ost (h ▸ z)
        · exact ohd (h ▸ z)
        · exact oer (h ▸ z)
        · exact owa (h ▸ z)
        · exact owr (h ▸ z)
      hp := upd_same
      B := C1.keep (fun q o h e => hm (off q h) e) (fun q xs e => hm (fun z => by rw [z, fb8] at e; cases e) e)
      hfr := hm pfr hfr
      hfl := hm pfl hfl
      rows := .nil
      hhi := hm phi hhi
      hhl := hm phl_ hhl_
      hist := .nil
      hco := hm pco hco
      hcd := hm pcd hcd
      deeds := .nil
      hcf := hm pcf hcf
      hst := by
        have e : A.m = ma_ := C1.am
        rw [hm pst hst, e]
        rfl
      hhd := hm phd hhd
      her := hm per her
      hwa := hm pwa hwa
      hwr := hm pwr hwr
      wts := .cons (b := none) rfl (.cons (b := none) rfl .nil)
      hmi := by rw [eS mi (by simp)]; exact hm pmi hmi
      hml := by rw [eS ml (by simp)]; exact hm pml hml }⟩, newP_N hw hri⟩
end
end Bh

/-! A probe is asked. -/
namespace Bh
open PySem PySem.Spec PyProof.Rows L2
def rgN : List Str := ["a", "b", "pc", "sp"]
structure Tr (K : PySem.W.Frag) (mg : Str → Option Value) : Prop where
  g_REGISTERS : ∃ a, mg "REGISTERS" = some (.ref a) ∧ ∀ H, SqT K H a (rgN.map V.str)
  z_str : mg "str" = none
def regsL (x : Bd) : List (Str × V) := [("a", .int x.a), ("b", .int x.b), ("pc", .int x.pc), ("sp", .int x.sp), ("zero", .bl x.zero), ("lets", .bl x.lets), ("asleep", .bl x.asleep), ("beat", .int x.beat)]
theorem map_rdA (m : List Int) (hl : m.length = 774) : (List.range 774).map (fun k : Nat => rd m (0 + (k : Int))) = m := by
  apply List.ext_getElem
  · rw [List.length_map, List.length_range, hl]
  · intro i h1 h2
    rw [List.getElem_map, List.getElem_range]
    unfold rd
    have e : (0 + (i : Int)).toNat = i := by omega
    rw [e, List.getD_eq_getElem?_getD, List.getElem?_eq_getElem h2, Option.getD_some]
section
variable (CB CM CP CK CW CF CH CC CI : Addr)
def spLook : Sp := fun vs H Q _ => ∃ (S : Hp) (F : Addr → Prop) (p : Addr) (x : Pm), vs = [.ref p, .int 0, .int 774] ∧ PrA CB CM CP CK CW CF CH CC CI S H F p x ∧ ∀ H' l, Same H H' → H l = none → H' l = some (.lst (x.b.mem.map V.int)) → Q (.ref l) H'
def spLookG : Sp := fun vs H Q _ => ∃ (S : Hp) (F : Addr → Prop) (p : Addr) (x : Pm) (a0 n0 : Int), vs = [.ref p, .int a0, .int n0] ∧ PrA CB CM CP CK CW CF CH CC CI S H F p x ∧ 0 ≤ a0 ∧ a0 ≤ 773 ∧ 0 ≤ n0 ∧ n0 ≤ 774 - a0 ∧ ∀ H' l, Same H H' → H l = none → H' l = some (.lst (((List.range n0.toNat).map fun k : Nat => rd x.b.mem (a0 + (k : Int))).map V.int)) → Q (.ref l) H'
def spReg : Sp := fun vs H Q _ => ∃ (S : Hp) (F : Addr → Prop) (p : Addr) (x : Pm) (nm : Str) (v : V), vs = [.ref p, .str nm] ∧ PrA CB CM CP CK CW CF CH CC CI S H F p x ∧ (nm, v) ∈ regsL x.b ∧ Q v H
def spStp : Sp := fun vs H Q _ => ∃ (S : Hp) (F : Addr → Prop) (p : Addr) (x : Pm), vs = [.ref p] ∧ PrA CB CM CP CK CW CF CH CC CI S H F p x ∧ ∀ sv, StopAt H sv x.b.stop → Q sv H
def spOut : Sp := fun vs H Q _ => ∃ (S : Hp) (F : Addr → Prop) (p : Addr) (x : Pm), vs = [.ref p] ∧ PrA CB CM CP CK CW CF CH CC CI S H F p x ∧ ∀ H' l us, Same H H' → H l = none → H' l = some (.lst us) → TupsAt H' us x.b.sent → Q (.ref l) H'
def spTurns : Sp := fun vs H Q _ => ∃ (S : Hp) (F : Addr → Prop) (p : Addr) (x : Pm), vs = [.ref p] ∧ PrA CB CM CP CK CW CF CH CC CI S H F p x ∧ Q (.int x.gone) H
def spTrc : Sp := fun vs H Q _ => ∃ (S : Hp) (F : Addr → Prop) (p : Addr) (x : Pm), vs = [.ref p] ∧ PrA CB CM CP CK CW CF CH CC CI S H F p x ∧ ∀ H' l us, Same H H' → H l = none → H' l = some (.lst us) → HtAt H' us x.hist → Q (.ref l) H'
end
section
variable {P : Program} {w : World} {K : PySem.W.Frag} {mg : Str → Option Value} {base : Heap} {CB CM CP CK CW CF CH CC CI CS CO CQ : Addr}
abbrev sMstp : Stmt := inClass (topS 97) 4
def scMstpN : List Str := ["self"]
theorem scMstp : FnScope scMstpN ["self"] (defScope sMstp) := ⟨rfl, rfl, rfl, by decide +kernel, rfl, by decide +kernel, by decide +kernel⟩
theorem ok_Mstp {f : Addr} {fd : FuncData} (F : Fun K "stop_told" "Probe.stop_told" sMstp f fd) (T : Ty K mg CB CM CP CK CW CF CH CC CI CS) : FnOk P w K mg base CX0 1 f fd ["self"] (spStp CB CM CP CK CW CF CH CC CI) := by
  refine F.ok scMstp (fun vs H Q E h => by obtain ⟨_, _, _, _, rfl, _⟩ := h; rfl) (fun cdv A outer s H vs Q E hr h => ?_)
  have hu := hu_of hr
  obtain ⟨S, F_, p, x, rfl, Y, k⟩ := h
  obtain ⟨⟨a, T0, D0, ma_, sa_, rfl, C⟩, N⟩ := Y
  obtain ⟨sv, tv, dv, hpb, hz⟩ := C.B.hp
  refine ⟨_, (pss_one (ps_ret (pe_fld (pe_fld (pv 0) rfl) rfl))), ?_⟩
  exact ⟨_, rfl, p, CP, a.dx, _, _, rfl, C.hp, T.cP, T.nP_board, pF_board, a.bd, CB, a.A.dx, _, _, rfl, hpb, T.cB, T.n_stopped, bF_stop, k sv hz.1⟩
abbrev sMout : Stmt := inClass (topS 97) 5
def scMoutN : List Str := ["self"]
theorem scMout : FnScope scMoutN ["self"] (defScope sMout) := ⟨rfl, rfl, rfl, by decide +kernel, rfl, by decide +kernel, by decide +kernel⟩
theorem ok_Mout {f : Addr} {fd : FuncData} (F : Fun K "out" "Probe.out" sMout f fd) (T : Ty K mg CB CM CP CK CW CF CH CC CI CS) : FnOk P w K mg base CX0 1 f fd ["self"] (spOut CB CM CP CK CW CF CH CC CI) := by
  refine F.ok scMout (fun vs H Q E h => by obtain ⟨_, _, _, _, rfl, _⟩ := h; rfl) (fun cdv A outer s H vs Q E hr h => ?_)
  have hu := hu_of hr
  have z_list := T.z_list
  obtain ⟨S, F_, p, x, rfl, Y, k⟩ := h
  obtain ⟨⟨a, T0, D0, ma_, sa_, rfl, C⟩, N⟩ := Y
  obtain ⟨sv, tv, dv, hpb, hz⟩ := C.B.hp
  refine ⟨_, (pss_one (ps_ret (pe_callTy call_list_of (by rfl) z_list (by decide +kernel) (pa_cons (pe_fld (pe_fld (pv 0) rfl) rfl) pa_nil)))), ?_⟩
  exact ⟨_, rfl, p, CP, a.dx, _, _, rfl, C.hp, T.cP, T.nP_board, pF_board, a.bd, CB, a.A.dx, _, _, rfl, hpb, T.cB, T.n_sent, bF_sent, a.A.t, _, rfl, .inl (SqL.of C.B.ht), fun l nl => k _ l a.ts (same_upd' nl) nl upd_same (C.B.us.mono fun t xs e => same_upd' nl _ _ e)⟩
abbrev sMtns : Stmt := inClass (topS 97) 6
def scMtnsN : List Str := ["self"]
theorem scMtns : FnScope scMtnsN ["self"] (defScope sMtns) := ⟨rfl, rfl, rfl, by decide +kernel, rfl, by decide +kernel, by decide +kernel⟩
theorem ok_Mtns {f : Addr} {fd : FuncData} (F : Fun K "turns" "Probe.turns" sMtns f fd) (T : Ty K mg CB CM CP CK CW CF CH CC CI CS) : FnOk P w K mg base CX0 1 f fd ["self"] (spTurns CB CM CP CK CW CF CH CC CI) := by
  refine F.ok scMtns (fun vs H Q E h => by obtain ⟨_, _, _, _, rfl, _⟩ := h; rfl) (fun cdv A outer s H vs Q E hr h => ?_)
  have hu := hu_of hr
  obtain ⟨S, F_, p, x, rfl, Y, k⟩ := h
  obtain ⟨⟨a, T0, D0, ma_, sa_, rfl, C⟩, N⟩ := Y
  obtain ⟨sv, tv, dv, hpb, hz⟩ := C.B.hp
  refine ⟨_, (pss_one (ps_ret (pe_fld (pv 0) rfl))), ?_⟩
  exact ⟨_, rfl, p, CP, a.dx, _, _, rfl, C.hp, T.cP, T.nP_turns_gone, pF_turns_gone, k⟩
abbrev sMlook : Stmt := inClass (topS 97) 2
def scMlookN : List Str := ["self", "address", "many", "at"]
theorem scMlook : FnScope scMlookN ["self", "address", "many"] (defScope sMlook) := ⟨rfl, rfl, rfl, by decide +kernel, rfl, by decide +kernel, by decide +kernel⟩
theorem ok_Mlook {f : Addr} {fd : FuncData} {fF_betw : Addr} {dF_betw : FuncData} {fM_at : Addr} {dM_at : FuncData} (F : Fun K "look" "Probe.look" sMlook f fd) (T : Ty K mg CB CM CP CK CW CF CH CC CI CS)
    (F_betw : CalF P w K mg base 2 "is_between" ["thing", "least", "greatest"] (spBetw) fF_betw dF_betw)
    (M_at : CalM P w K mg base CM 1 "word_at" ["self", "address"] (spMAt CM) fM_at dM_at) : FnOk P w K mg base CX0 3 f fd ["self", "address", "many"] (spLook CB CM CP CK CW CF CH CC CI) := by
  refine F.ok scMlook (fun vs H Q E h => by obtain ⟨_, _, _, _, rfl, _⟩ := h; rfl) (fun cdv A outer s H vs Q E hr h => ?_)
  have hu := hu_of hr
  obtain ⟨t_PLACES_END, g_PLACES_END⟩ := T.g_PLACES_END
  have z_range := T.z_range
  obtain ⟨S, F_, p, x, rfl, Y, k⟩ := h
  obtain ⟨⟨a, T0, D0, ma_, sa_, rfl, C⟩, N⟩ := Y
  obtain ⟨sv, tv, dv, hpb, hz⟩ := C.B.hp
  refine ⟨_, (pss_cons (ps_if (PW.pt (pw_or (pt_not (pt_val (pe_call F_betw.G (hr.mono (by decide)) (by rfl) F_betw.g F_betw.kp F_betw.b .nil pass0 (pa_cons (pv 1) (pa_cons pe_int (pa_cons (pe_op op_sub (pgI g_PLACES_END) pe_int) pa_nil)))))) (pw_or1 (pt_not (pt_val (pe_call F_betw.G (hr.mono (by decide)) (by rfl) F_betw.g F_betw.kp F_betw.b .nil pass0 (pa_cons (pv 2) (pa_cons pe_int (pa_cons (pe_op op_sub (pgI g_PLACES_END) (pv 1)) pa_nil))))))))) (pss_one ps_never) pss_nil)
    (pss_one (ps_ret (pe_lc (own := [("at", 3)]) (g := gName 3) (tt := tYes) (by rfl) scMlook.nd (pi_range2 (by rfl) z_range (pa_cons (pv 1) (pa_cons (pe_op op_add (pv 1) (pv 2)) pa_nil))) (blkOk_by (own := [("at", 3)]) (N := scMlookN) (sc := defScope sMlook) (by decide +kernel)) (fun _ _ _ _ _ => (pg_name (i := 3) scMlook.nd rfl (.inl rfl))) (fun _ _ _ _ _ => pts_nil) (fun _ _ _ _ _ => (pe_meth (pe_fldK (K := K) (by rfl) (pe_fldK (K := K) (by rfl) (pv 0) (by rfl)) (by rfl)) M_at.c M_at.m M_at.G (hr.mono (by decide)) M_at.b .nil pass0 (pa_cons (pv 3) pa_nil))))))), ?_⟩
  refine ⟨_, rfl, _, _, rfl, rfl, _, _, _, rfl, ?_⟩
  refine ⟨_, rfl, ifN (fun h => absurd (of_decide_eq_false h) (fun z => z (by decide))) (fun _ => ?_)⟩
  refine ⟨_, rfl, _, rfl, _, _, rfl, rfl, _, _, _, rfl, ?_⟩
  refine ⟨_, rfl, ifN (fun h => absurd (of_decide_eq_false h) (fun z => z (by decide))) (fun _ => ?_)⟩
  refine ⟨_, rfl, _, rfl, _, rfl, _, _, rfl, rfl, 0, 774, rfl, ⟨by decide, by decide, by decide, by decide⟩, fun D nD => ?_⟩
  refine lc_range (lo := 0) (n := ((774 : Int) - 0).toNat) (fun i H' => Same H H' ∧ H' D = some (.lst (((List.range i).map fun k : Nat => rd x.b.mem (0 + (k : Int))).map V.int))) ⟨same_upd' nD, upd_same⟩ ?_ ?_
  · rintro i H' hi ⟨sm, hD⟩
    have hi : i < 774 := hi
    have C := C.same sm
    obtain ⟨sv, tv, dv, hpb, hz⟩ := C.B.hp
    refine ⟨rfl, ?_⟩
    refine ⟨_, rfl, p, CP, a.dx, _, _, rfl, C.hp, T.cP, T.nP_board, pF_board, a.bd, CB, a.A.dx, _, _, rfl, hpb, T.cB, T.n_memory, bF_mem, a.A.m, a.A.dm, _, rfl, C.B.hm, mN_at, _, rfl, a.A.m, a.A.dm, a.A.w, a.A.s, x.b.mem, 0 + (i : Int), rfl, C.B.mem, by omega, by omega, ?_⟩
    refine ⟨_, hD, ?_, same_of sm nD, ?_⟩
    · rw [List.length_map, List.length_map, List.length_range]
      exact small1000 (by omega)
    · rw [upd_same, List.range_succ, List.map_append, List.map_append]
      rfl
  rintro G1 ⟨s1, hD⟩
  have e1 : (List.range ((774 : Int) - 0).toNat).map (fun k : Nat => rd x.b.mem (0 + (k : Int))) = x.b.mem := map_rdA x.b.mem C.B.lm
  rw [e1] at hD
  exact k _ D s1 nD hD
abbrev sMlookg : Stmt := inClass (topS 97) 2
def scMlookgN : List Str := ["self", "address", "many", "at"]
theorem scMlookg : FnScope scMlookgN ["self", "address", "many"] (defScope sMlookg) := ⟨rfl, rfl, rfl, by decide +kernel, rfl, by decide +kernel, by decide +kernel⟩
theorem ok_Mlookg {f : Addr} {fd : FuncData} {fF_betw : Addr} {dF_betw : FuncData} {fM_at : Addr} {dM_at : FuncData} (F : Fun K "look" "Probe.look" sMlookg f fd) (T : Ty K mg CB CM CP CK CW CF CH CC CI CS)
    (F_betw : CalF P w K mg base 2 "is_between" ["thing", "least", "greatest"] (spBetw) fF_betw dF_betw)
    (M_at : CalM P w K mg base CM 1 "word_at" ["self", "address"] (spMAt CM) fM_at dM_at) : FnOk P w K mg base CX0 3 f fd ["self", "address", "many"] (spLookG CB CM CP CK CW CF CH CC CI) := by
  refine F.ok scMlookg (fun vs H Q E h => by obtain ⟨_, _, _, _, _, _, rfl, _⟩ := h; rfl) (fun cdv A outer s H vs Q E hr h => ?_)
  have hu := hu_of hr
  obtain ⟨t_PLACES_END, g_PLACES_END⟩ := T.g_PLACES_END
  have z_range := T.z_range
  obtain ⟨S, F_, p, x, a0, n0, rfl, Y, h0, h1, h2, h3, k⟩ := h
  obtain ⟨⟨a, T0, D0, ma_, sa_, rfl, C⟩, N⟩ := Y
  obtain ⟨sv, tv, dv, hpb, hz⟩ := C.B.hp
  refine ⟨_, (pss_cons (ps_if (PW.pt (pw_or (pt_not (pt_val (pe_call F_betw.G (hr.mono (by decide)) (by rfl) F_betw.g F_betw.kp F_betw.b .nil pass0 (pa_cons (pv 1) (pa_cons pe_int (pa_cons (pe_op op_sub (pgI g_PLACES_END) pe_int) pa_nil)))))) (pw_or1 (pt_not (pt_val (pe_call F_betw.G (hr.mono (by decide)) (by rfl) F_betw.g F_betw.kp F_betw.b .nil pass0 (pa_cons (pv 2) (pa_cons pe_int (pa_cons (pe_op op_sub (pgI g_PLACES_END) (pv 1)) pa_nil))))))))) (pss_one ps_never) pss_nil)
    (pss_one (ps_ret (pe_lc (own := [("at", 3)]) (g := gName 3) (tt := tYes) (by rfl) scMlookg.nd (pi_range2 (by rfl) z_range (pa_cons (pv 1) (pa_cons (pe_op op_add (pv 1) (pv 2)) pa_nil))) (blkOk_by (own := [("at", 3)]) (N := scMlookgN) (sc := defScope sMlookg) (by decide +kernel)) (fun _ _ _ _ _ => (pg_name (i := 3) scMlookg.nd rfl (.inl rfl))) (fun _ _ _ _ _ => pts_nil) (fun _ _ _ _ _ => (pe_meth (pe_fldK (K := K) (by rfl) (pe_fldK (K := K) (by rfl) (pv 0) (by rfl)) (by rfl)) M_at.c M_at.m M_at.G (hr.mono (by decide)) M_at.b .nil pass0 (pa_cons (pv 3) pa_nil))))))), ?_⟩
  refine ⟨_, rfl, _, _, rfl, rfl, _, _, _, rfl, ?_⟩
  refine ⟨_, rfl, ifN (fun h => absurd (of_decide_eq_false h) (fun z => z ⟨h0, h1⟩)) (fun _ => ?_)⟩
  refine ⟨_, rfl, _, rfl, _, _, rfl, rfl, _, _, _, rfl, ?_⟩
  refine ⟨_, rfl, ifN (fun h => absurd (of_decide_eq_false h) (fun z => z ⟨h2, h3⟩)) (fun _ => ?_)⟩
  refine ⟨_, rfl, _, rfl, _, rfl, _, _, rfl, rfl, a0, a0 + n0, rfl, ⟨by omega, by omega, by omega, by omega⟩, fun D nD => ?_⟩
  have en : (a0 + n0 - a0).toNat = n0.toNat := by rw [show a0 + n0 - a0 = n0 by omega]
  refine lc_range (lo := a0) (n := (a0 + n0 - a0).toNat) (fun i H' => Same H H' ∧ H' D = some (.lst (((List.range i).map fun k : Nat => rd x.b.mem (a0 + (k : Int))).map V.int))) ⟨same_upd' nD, upd_same⟩ ?_ ?_
  · rintro i H' hi ⟨sm, hD⟩
    rw [en] at hi
    have C := C.same sm
    obtain ⟨sv, tv, dv, hpb, hz⟩ := C.B.hp
    refine ⟨rfl, ?_⟩
    refine ⟨_, rfl, p, CP, a.dx, _, _, rfl, C.hp, T.cP, T.nP_board, pF_board, a.bd, CB, a.A.dx, _, _, rfl, hpb, T.cB, T.n_memory, bF_mem, a.A.m, a.A.dm, _, rfl, C.B.hm, mN_at, _, rfl, a.A.m, a.A.dm, a.A.w, a.A.s, x.b.mem, a0 + (i : Int), rfl, C.B.mem, by omega, by omega, ?_⟩
    refine ⟨_, hD, ?_, same_of sm nD, ?_⟩
    · rw [List.length_map, List.length_map, List.length_range]
      exact small1000 (by omega)
    · rw [upd_same, List.range_succ, List.map_append, List.map_append]
      rfl
  rintro G1 ⟨s1, hD⟩
  rw [en] at hD
  exact k _ D s1 nD hD
abbrev sMreg : Stmt := inClass (topS 97) 3
def scMregN : List Str := ["self", "name"]
theorem scMreg : FnScope scMregN ["self", "name"] (defScope sMreg) := ⟨rfl, rfl, rfl, by decide +kernel, rfl, by decide +kernel, by decide +kernel⟩
theorem ok_Mreg {f : Addr} {fd : FuncData} (F : Fun K "register_of" "Probe.register_of" sMreg f fd) (T : Ty K mg CB CM CP CK CW CF CH CC CI CS)
    (TR : Tr K mg) : FnOk P w K mg base CX0 1 f fd ["self", "name"] (spReg CB CM CP CK CW CF CH CC CI) := by
  refine F.ok scMreg (fun vs H Q E h => by obtain ⟨_, _, _, _, _, _, rfl, _⟩ := h; rfl) (fun cdv A outer s H vs Q E hr h => ?_)
  have hu := hu_of hr
  have z_isinstance := T.z_isinstance
  have z_str := TR.z_str
  obtain ⟨t_REGISTERS, g_REGISTERS, hK_REGISTERS⟩ := TR.g_REGISTERS
  obtain ⟨S, F_, p, x, nm, v, rfl, Y, hm, k⟩ := h
  obtain ⟨⟨a, T0, D0, ma_, sa_, rfl, C⟩, N⟩ := Y
  obtain ⟨sv, tv, dv, hpb, hz⟩ := C.B.hp
  refine ⟨_, (pss_cons (ps_if (pt_val (pe_callB call_isi (by rfl) z_isinstance (by decide +kernel) (pa_cons (pv 1) (pa_cons (pe_bltn (v := .ty "str") (u := .type "str") (by rfl) z_str (by decide +kernel) rfl) pa_nil)))) (pss_cons (ps_if (pt_cmpR op_in_seq (pv 1) (pgR g_REGISTERS) (by rfl)) (pss_one (ps_ret (pe_dget hu (pe_fld (pe_fld (pv 0) rfl) rfl) (pv 1) (fun _ _ => rfl)))) pss_nil)
    (pss_cons (ps_if (pt_cmpR op_eq (pv 1) pe_str (nomark _)) (pss_one (ps_ret (pe_fld (pe_fld (pv 0) rfl) rfl))) pss_nil)
    (pss_cons (ps_if (pt_cmpR op_eq (pv 1) pe_str (nomark _)) (pss_one (ps_ret (pe_fld (pe_fld (pv 0) rfl) rfl))) pss_nil)
    (pss_cons (ps_if (pt_cmpR op_eq (pv 1) pe_str (nomark _)) (pss_one (ps_ret (pe_fld (pe_fld (pv 0) rfl) rfl))) pss_nil)
    (pss_one (ps_if (pt_cmpR op_eq (pv 1) pe_str (nomark _)) (pss_one (ps_ret (pe_fld (pe_fld (pv 0) rfl) rfl))) pss_nil)))))) pss_nil)
    (pss_one ps_never)), ?_⟩
  simp only [regsL, List.mem_cons, List.not_mem_nil, or_false, Prod.mk.injEq] at hm
  rcases hm with ⟨rfl, rfl⟩ | ⟨rfl, rfl⟩ | ⟨rfl, rfl⟩ | ⟨rfl, rfl⟩ | ⟨rfl, rfl⟩ | ⟨rfl, rfl⟩ | ⟨rfl, rfl⟩ | ⟨rfl, rfl⟩
  · refine ⟨_, rfl, .str "a", .ty "str", _, _, true, rfl, .ty "str", .base (.str "a"), kit_ty (by decide +kernel), _, rfl, ifB (fun _ => ?_) (fun h => by cases h)⟩
    refine ⟨_, rfl, t_REGISTERS, _, rfl, .inr (hK_REGISTERS _), rfl, rfl, _, rfl, ?_⟩
    rw [show (if false = true then !inV (V.str "a") (rgN.map V.str) else inV (V.str "a") (rgN.map V.str)) = inV (V.str "a") (rgN.map V.str) from rfl, in_strs]
    refine ifB (fun _ => ?_) (fun h => absurd (of_decide_eq_false h) (fun z => z (by decide +kernel)))
    exact ⟨_, rfl, p, CP, a.dx, _, _, rfl, C.hp, T.cP, T.nP_board, pF_board, a.bd, CB, a.A.dx, _, _, rfl, hpb, T.cB, T.n_registers, bF_reg, _, rfl, a.A.r, _, rfl, dg (k := Sum.inr "a") C.B.hr rG_a, k⟩
  · refine ⟨_, rfl, .str "b", .ty "str", _, _, true, rfl, .ty "str", .base (.str "b"), kit_ty (by decide +kernel), _, rfl, ifB (fun _ => ?_) (fun h => by cases h)⟩
    refine ⟨_, rfl, t_REGISTERS, _, rfl, .inr (hK_REGISTERS _), rfl, rfl, _, rfl, ?_⟩
    rw [show (if false = true then !inV (V.str "b") (rgN.map V.str) else inV (V.str "b") (rgN.map V.str)) = inV (V.str "b") (rgN.map V.str) from rfl, in_strs]
    refine ifB (fun _ => ?_) (fun h => absurd (of_decide_eq_false h) (fun z => z (by decide +kernel)))
    exact ⟨_, rfl, p, CP, a.dx, _, _, rfl, C.hp, T.cP, T.nP_board, pF_board, a.bd, CB, a.A.dx, _, _, rfl, hpb, T.cB, T.n_registers, bF_reg, _, rfl, a.A.r, _, rfl, dg (k := Sum.inr "b") C.B.hr rG_b, k⟩
  · refine ⟨_, rfl, .str "pc", .ty "str", _, _, true, rfl, .ty "str", .base (.str "pc"), kit_ty (by decide +kernel), _, rfl, ifB (fun _ => ?_) (fun h => by cases h)⟩
    refine ⟨_, rfl, t_REGISTERS, _, rfl, .inr (hK_REGISTERS _), rfl, rfl, _, rfl, ?_⟩
    rw [show (if false = true then !inV (V.str "pc") (rgN.map V.str) else inV (V.str "pc") (rgN.map V.str)) = inV (V.str "pc") (rgN.map V.str) from rfl, in_strs]
    refine ifB (fun _ => ?_) (fun h => absurd (of_decide_eq_false h) (fun z => z (by decide +kernel)))
    exact ⟨_, rfl, p, CP, a.dx, _, _, rfl, C.hp, T.cP, T.nP_board, pF_board, a.bd, CB, a.A.dx, _, _, rfl, hpb, T.cB, T.n_registers, bF_reg, _, rfl, a.A.r, _, rfl, dg (k := Sum.inr "pc") C.B.hr rG_pc, k⟩
  · refine ⟨_, rfl, .str "sp", .ty "str", _, _, true, rfl, .ty "str", .base (.str "sp"), kit_ty (by decide +kernel), _, rfl, ifB (fun _ => ?_) (fun h => by cases h)⟩
    refine ⟨_, rfl, t_REGISTERS, _, rfl, .inr (hK_REGISTERS _), rfl, rfl, _, rfl, ?_⟩
    rw [show (if false = true then !inV (V.str "sp") (rgN.map V.str) else inV (V.str "sp") (rgN.map V.str)) = inV (V.str "sp") (rgN.map V.str) from rfl, in_strs]
    refine ifB (fun _ => ?_) (fun h => absurd (of_decide_eq_false h) (fun z => z (by decide +kernel)))
    exact ⟨_, rfl, p, CP, a.dx, _, _, rfl, C.hp, T.cP, T.nP_board, pF_board, a.bd, CB, a.A.dx, _, _, rfl, hpb, T.cB, T.n_registers, bF_reg, _, rfl, a.A.r, _, rfl, dg (k := Sum.inr "sp") C.B.hr rG_sp, k⟩
  · refine ⟨_, rfl, .str "zero", .ty "str", _, _, true, rfl, .ty "str", .base (.str "zero"), kit_ty (by decide +kernel), _, rfl, ifB (fun _ => ?_) (fun h => by cases h)⟩
    refine ⟨_, rfl, t_REGISTERS, _, rfl, .inr (hK_REGISTERS _), rfl, rfl, _, rfl, ?_⟩
    rw [show (if false = true then !inV (V.str "zero") (rgN.map V.str) else inV (V.str "zero") (rgN.map V.str)) = inV (V.str "zero") (rgN.map V.str) from rfl, in_strs]
    refine ifB (fun h => absurd (of_decide_eq_true h) (by decide +kernel)) (fun _ => ?_)
    refine ⟨_, rfl, rfl, _, rfl, ifB (fun _ => ?_) (fun h => absurd rfl (of_decide_eq_false h))⟩
    exact ⟨_, rfl, p, CP, a.dx, _, _, rfl, C.hp, T.cP, T.nP_board, pF_board, a.bd, CB, a.A.dx, _, _, rfl, hpb, T.cB, T.n_zero, bF_zero, k⟩
  · refine ⟨_, rfl, .str "lets", .ty "str", _, _, true, rfl, .ty "str", .base (.str "lets"), kit_ty (by decide +kernel), _, rfl, ifB (fun _ => ?_) (fun h => by cases h)⟩
    refine ⟨_, rfl, t_REGISTERS, _, rfl, .inr (hK_REGISTERS _), rfl, rfl, _, rfl, ?_⟩
    rw [show (if false = true then !inV (V.str "lets") (rgN.map V.str) else inV (V.str "lets") (rgN.map V.str)) = inV (V.str "lets") (rgN.map V.str) from rfl, in_strs]
    refine ifB (fun h => absurd (of_decide_eq_true h) (by decide +kernel)) (fun _ => ?_)
    refine ⟨_, rfl, rfl, _, rfl, ifB (fun h => absurd (V.str.inj (of_decide_eq_true h)) (by decide +kernel)) (fun _ => ?_)⟩
    refine ⟨_, rfl, rfl, _, rfl, ifB (fun _ => ?_) (fun h => absurd rfl (of_decide_eq_false h))⟩
    exact ⟨_, rfl, p, CP, a.dx, _, _, rfl, C.hp, T.cP, T.nP_board, pF_board, a.bd, CB, a.A.dx, _, _, rfl, hpb, T.cB, T.n_lets, bF_lets, k⟩
  · refine ⟨_, rfl, .str "asleep", .ty "str", _, _, true, rfl, .ty "str", .base (.str "asleep"), kit_ty (by decide +kernel), _, rfl, ifB (fun _ => ?_) (fun h => by cases h)⟩
    refine ⟨_, rfl, t_REGISTERS, _, rfl, .inr (hK_REGISTERS _), rfl, rfl, _, rfl, ?_⟩
    rw [show (if false = true then !inV (V.str "asleep") (rgN.map V.str) else inV (V.str "asleep") (rgN.map V.str)) = inV (V.str "asleep") (rgN.map V.str) from rfl, in_strs]
    refine ifB (fun h => absurd (of_decide_eq_true h) (by decide +kernel)) (fun _ => ?_)
    refine ⟨_, rfl, rfl, _, rfl, ifB (fun h => absurd (V.str.inj (of_decide_eq_true h)) (by decide +kernel)) (fun _ => ?_)⟩
    refine ⟨_, rfl, rfl, _, rfl, ifB (fun h => absurd (V.str.inj (of_decide_eq_true h)) (by decide +kernel)) (fun _ => ?_)⟩
    refine ⟨_, rfl, rfl, _, rfl, ifB (fun _ => ?_) (fun h => absurd rfl (of_decide_eq_false h))⟩
    exact ⟨_, rfl, p, CP, a.dx, _, _, rfl, C.hp, T.cP, T.nP_board, pF_board, a.bd, CB, a.A.dx, _, _, rfl, hpb, T.cB, T.n_asleep, bF_asleep, k⟩
  · refine ⟨_, rfl, .str "beat", .ty "str", _, _, true, rfl, .ty "str", .base (.str "beat"), kit_ty (by decide +kernel), _, rfl, ifB (fun _ => ?_) (fun h => by cases h)⟩
    refine ⟨_, rfl, t_REGISTERS, _, rfl, .inr (hK_REGISTERS _), rfl, rfl, _, rfl, ?_⟩
    rw [show (if false = true then !inV (V.str "beat") (rgN.map V.str) else inV (V.str "beat") (rgN.map V.str)) = inV (V.str "beat") (rgN.map V.str) from rfl, in_strs]
    refine ifB (fun h => absurd (of_decide_eq_true h) (by decide +kernel)) (fun _ => ?_)
    refine ⟨_, rfl, rfl, _, rfl, ifB (fun h => absurd (V.str.inj (of_decide_eq_true h)) (by decide +kernel)) (fun _ => ?_)⟩
    refine ⟨_, rfl, rfl, _, rfl, ifB (fun h => absurd (V.str.inj (of_decide_eq_true h)) (by decide +kernel)) (fun _ => ?_)⟩
    refine ⟨_, rfl, rfl, _, rfl, ifB (fun h => absurd (V.str.inj (of_decide_eq_true h)) (by decide +kernel)) (fun _ => ?_)⟩
    refine ⟨_, rfl, rfl, _, rfl, ifB (fun _ => ?_) (fun h => absurd rfl (of_decide_eq_false h))⟩
    exact ⟨_, rfl, p, CP, a.dx, _, _, rfl, C.hp, T.cP, T.nP_board, pF_board, a.bd, CB, a.A.dx, _, _, rfl, hpb, T.cB, T.n_beat, bF_beat, k⟩
end
end Bh

/-! sorted of rows of three ints, any number of them. -/
namespace Bh
open PySem PySem.Spec PyProof.Rows L2
/-- sorted(xs), xs a list of rows of three ints (k says which): a new list of the same rows, the first int never falling -/
def rSortedT3 (K : PySem.W.Frag) : List V → Hp → VK → Prop := fun vs H Q => ∃ (a : Addr) (xs : List V) (k : V → Int × Int × Int), vs = [V.ref a] ∧ SqL K H a xs ∧ (∀ x ∈ xs, ∃ t, x = V.ref t ∧ H t = some (.tup [.int (k x).1, .int (k x).2.1, .int (k x).2.2])) ∧
  ∀ ys p, ys.Perm xs → List.Pairwise (fun u v => (k u).1 ≤ (k v).1) ys → H p = none → Q (.ref p) (upd H p (.lst ys))
theorem lex_head {a b c a' b' c' : Int} (h : (PyProof.Rows.G.tupKindC default (fun _ => false)).kle [Sum.inl a, Sum.inl b, Sum.inl c] [Sum.inl a', Sum.inl b', Sum.inl c']) : a ≤ a' := by
  have h2 : PyProof.Rows.lexLt itemOrd [Sum.inl a', Sum.inl b', Sum.inl c'] [Sum.inl a, Sum.inl b, Sum.inl c] = false := h
  have h3 : decide (a' < a) = false := by
    cases e : decide (a' < a)
    · rfl
    · have : PyProof.Rows.lexLt itemOrd [Sum.inl a', Sum.inl b', Sum.inl c'] [Sum.inl a, Sum.inl b, Sum.inl c] = true := by
        unfold PyProof.Rows.lexLt
        have e2 : itemLt (Sum.inl a') (Sum.inl a) = true := e
        simp [e2]
      rw [this] at h2
      cases h2
  have := of_decide_eq_false h3
  omega
section
variable {X : Cx}
theorem cr_sortedT3 : CallR X (.builtin "sorted") (rSortedT3 X.K) := by
  intro pins s σ H vs us Q I r h
  obtain ⟨a, xs, k, rfl, hs, hx, q⟩ := h
  obtain ⟨its, rv, hl, hz⟩ := I.list hs
  obtain ⟨u, rfl, ru⟩ := vals1 r
  obtain rfl : u = Value.ref a := ru
  obtain ⟨e1, e2⟩ := refs_back rv fun x m => by
    obtain ⟨t, e, _⟩ := hx x m
    exact ⟨t, e⟩
  have tupAt : ∀ v ∈ its, ∃ b o t1 t2 t3 n, v = .ref b ∧ s.heap.get? b = some o ∧ o.cls = .type "tuple" ∧ o.data = .seq #[.int (k (backV v)).1 t1, .int (k (backV v)).2.1 t2, .int (k (backV v)).2.2 t3] n := fun v hv => by
    obtain ⟨t, rfl⟩ := e2 v hv
    have hm : V.ref t ∈ xs := by rw [e1]; exact List.mem_map.mpr ⟨_, hv, rfl⟩
    obtain ⟨t', e, ht⟩ := hx _ hm
    cases e
    obtain ⟨_, its2, r2, o, ho, hc, n, hd⟩ := I.hok _ _ ht
    cases r2 with
    | cons r1 r2 =>
      cases r2 with
      | cons r3 r2 =>
        cases r2 with
        | cons r4 r2 =>
          cases r2
          obtain ⟨t1, rfl⟩ := r1
          obtain ⟨t2, rfl⟩ := r3
          obtain ⟨t3, rfl⟩ := r4
          exact ⟨t, o, t1, t2, t3, n, rfl, ho, hc, hd⟩
  have key : ∀ v ∈ its, PyProof.Rows.G.tupKeyC s.heap (fun _ => false) v = some [Sum.inl (k (backV v)).1, Sum.inl (k (backV v)).2.1, Sum.inl (k (backV v)).2.2] := fun v hv => by
    obtain ⟨b, o, t1, t2, t3, n, rfl, ho, hc, hd⟩ := tupAt v hv
    have hi : PyProof.Rows.G.isTupObj s.heap (.ref b) = true := by
      unfold PyProof.Rows.G.isTupObj
      dsimp only
      rw [ho]
      dsimp only
      rw [hc]
      rfl
    unfold PyProof.Rows.G.tupKeyC
    rw [if_pos hi]
    unfold tupKey
    dsimp only
    rw [ho]
    dsimp only
    rw [hd]
    rfl
  have tups : ∀ vs : List Value, (∀ v ∈ vs, v ∈ its) → ∃ fs, TupsOf s.heap (fun _ => false) vs fs := by
    intro vs
    induction vs with
    | nil => exact fun _ => ⟨[], .nil⟩
    | cons v r ih =>
      intro hm
      obtain ⟨fs, hf⟩ := ih fun u hu => hm u (List.mem_cons_of_mem _ hu)
      obtain ⟨b, o, t1, t2, t3, n, e, ho, hc, hd⟩ := tupAt v (hm v List.mem_cons_self)
      exact ⟨_, .cons ⟨b, o, _, n, e, ho, hc, hd, rfl, (fun _ => ⟨_, _, rfl⟩), (fun z => by cases z)⟩ hf⟩
  obtain ⟨fs, hf⟩ := tups its fun v h => h
  have hzl : its.length ≤ sizeLine := by rw [← rv.length]; exact hz
  refine PyProof.Rows.G.sorted_tups hl.isList hf (fun v hv => ⟨_, key v hv⟩) hzl fun st' hp hs2 _ => ?_
  obtain ⟨ep, he'⟩ := PyProof.Rows.sortedAll_at s.heap its ((arrOf st').map (·.2))
  have pz : (arrOf st').toList.Perm (its.zip its) := by
    have := hp.toList
    rwa [pairsOf_toList] at this
  have hself : ∀ p ∈ (arrOf st').toList, p.1 = p.2 ∧ p.1 ∈ its := fun p hpm => mem_zip_self (pz.mem_iff.mp hpm)
  have pout : ((arrOf st').map (·.2)).toList.Perm its := by
    rw [Array.toList_map]
    have := pz.map (·.2)
    have e : (its.zip its).map (·.2) = its := by
      rw [List.map_snd_zip (Nat.le_refl _)]
    rwa [e] at this
  have h3 : ∀ u ∈ ((arrOf st').map (·.2)).toList, ∃ a, u = Value.ref a := fun u hu => e2 u (pout.mem_iff.mp hu)
  have pys : (((arrOf st').map (·.2)).toList.map backV).Perm xs := by
    rw [e1]
    exact pout.map backV
  have srt : List.Pairwise (fun u v => (k u).1 ≤ (k v).1) (((arrOf st').map (·.2)).toList.map backV) := by
    rw [Array.toList_map, List.map_map, List.pairwise_map, List.pairwise_iff_getElem]
    intro i j hi hj hij
    have hsz : (arrOf st').size = (pairsOf its).size := hp.size_eq
    have hi' : i < (arrOf st').size := by rw [← Array.length_toList]; exact hi
    have hj' : j < (arrOf st').size := by rw [← Array.length_toList]; exact hj
    have hk := hs2 i j (Nat.le_of_lt hij) (by rw [← hsz]; exact hj')
    have kk : ∀ m (hm : m < (arrOf st').size), KK (PyProof.Rows.G.tupKindC s.heap (fun _ => false)) (arrOf st') m = [Sum.inl (k (backV (arrOf st')[m].2)).1, Sum.inl (k (backV (arrOf st')[m].2)).2.1, Sum.inl (k (backV (arrOf st')[m].2)).2.2] := fun m hm => by
      unfold KK
      rw [Array.getElem?_eq_getElem hm]
      have hmem : (arrOf st')[m] ∈ (arrOf st').toList := by rw [Array.mem_toList_iff]; exact Array.getElem_mem hm
      obtain ⟨h1, h2⟩ := hself _ hmem
      show (PyProof.Rows.G.tupKeyC s.heap (fun _ => false) (arrOf st')[m].1).getD [] = _
      rw [key _ h2, h1]
      rfl
    rw [kk i hi', kk j hj'] at hk
    have := lex_head hk
    simpa using this
  refine ⟨.ref (s.heap.objs.size + 1), upd H (s.heap.objs.size + 1) (.lst (((arrOf st').map (·.2)).toList.map backV)), I.laid (t' := s.toks) (fun _ _ => PyProof.Rows.sortedAll_old) (Nat.le_succ _) ⟨?_, _, ep, vals_back h3, ?_⟩, rfl, q _ _ pys srt (I.hok.fresh (Nat.le_succ _))⟩
  · rw [pys.length_eq]
    exact hz
  · exact he'
theorem tups_laid {pins : List (Addr × Obj)} {σ : L2.St} {H : Hp} {s : Shared} {h' : Heap} {tk : Nat} {kvs : List (Key × V)} {vs : List (Key × Value)} {as : List Addr} {lo : Addr} (I : Inv X pins σ H s) (kv : KV kvs vs)
    (hk : ∀ b o, s.heap.get? b = some o → h'.get? b = some o) (hlo : s.heap.objs.size ≤ lo) (hl : as.length = vs.length) (hG : PySem.W.KdxG (mixKind X.prog X.w) vs lo h' as) :
    ∃ H' : Hp, (∀ b o, H b = some o → H' b = some o) ∧ (∀ t ∈ as, H t = none) ∧ Paired (fun (t : Addr) (q : Key × V) => H' t = some (.tup [kV q.1, q.2])) as kvs ∧ Inv X pins σ H' { s with heap := h', toks := tk } := by
  have lk : kvs.length = vs.length := Paired.length kv
  have nd : as.Nodup := List.Pairwise.imp (fun {a b} (h : a < b) => Nat.ne_of_lt h) hG.rise
  have new : ∀ t ∈ as, H t = none := fun t ht => I.hok.fresh (Nat.le_trans hlo (Nat.le_of_lt (hG.above t ht)))
  have atP := LiI.putT_at as kvs H (by omega) nd
  have off : ∀ b, b ∉ as → LiI.putT H as kvs b = H b := fun b h1 => LiI.putT_off as kvs _ h1
  have low : ∀ b o, s.heap.get? b = some o → b ∉ as := fun b o e z => absurd (Heap.lt_size e) (Nat.not_lt.mpr (Nat.le_trans hlo (Nat.le_of_lt (hG.above b z))))
  have kp : ∀ b u, H b = some u → (LiI.putT H as kvs) b = some u := fun b u e => by
    rw [off b (fun z => by rw [new b z] at e; cases e)]
    exact e
  refine ⟨LiI.putT H as kvs, kp, new, atP, ?_⟩
  refine I.call' (ch := []) rfl ⟨fun b o q _ _ _ => hk b o q, fun b o q _ _ _ => ⟨o.slots, hk b o q⟩, fun b o q n _ => ?_, fun b o q _ => ⟨o, hk b o q⟩, fun b xs q => kp b _ q, fun b o u q => kp b _ q, fun b ps q => ⟨#[], by rw [kp b _ q]; simp⟩⟩ (fun b u q => ?_) I.bare fun b z => by simp at z
  · rw [off b (low b o q)]
    exact n
  · by_cases hb : b ∈ as
    · obtain ⟨j, pk, e1, e2, e3⟩ := LiI.paired_ix atP hb
      rw [e3] at q
      cases q
      obtain ⟨key, k, x, f1, f2, f3⟩ := hG.pairs j b e1
      obtain ⟨qv, g1, g2, g3⟩ := LiI.paired_get kv e2
      rw [f1] at g1
      cases g1
      have rk : RelV (kV pk.1) key := by
        rw [g2]
        exact relV_key (show keyIs k key = true from f2)
      exact ⟨by show 2 ≤ sizeLine; decide, [key, x], .cons rk (.cons g3 .nil), ⟨_, f3, rfl, _, rfl⟩⟩
    · rw [off b hb] at q
      exact (I.hok b u q).stay (fun d v _ y => hk d v y) (fun d y => kp d _ y) fun d xs y => kp d _ y
/-- the pair of ints that stands at t -/
def pairAt (H : Hp) (t : Addr) : Int × Int := match H t with
  | some (.tup [.int a, .int b]) => (a, b)
  | _ => (0, 0)
/-- sorted(d.items()), d a dict of ints to ints: a new list of new pairs, the first int never falling -/
def rItemsS : V → Hp → VK → Prop := fun x H Q => ∃ (d : Addr) (rows : List (Int × Int)), x = .ref d ∧ H d = some (.dK (rows.map fun r => (Sum.inl r.1, V.int r.2))) ∧
  ∀ (H' : Hp) (p : Addr) (ts : List Addr) (out : List (Int × Int)), (∀ b o, H b = some o → H' b = some o) → H p = none → (∀ t ∈ ts, H t = none) → p ∉ ts → out.Perm rows → List.Pairwise (fun u v => u.1 ≤ v.1) out → H' p = some (.lst (ts.map V.ref)) → Paired (fun (t : Addr) (q : Int × Int) => H' t = some (.tup [.int q.1, .int q.2])) ts out → Q (.ref p) H'
def tSortItems (te : TE) : TE := fun σ H Q => te σ H fun x H1 => rItemsS x H1 Q
theorem lex_head2 {a b a' b' : Int} (h : (PyProof.Rows.G.tupKindC default (fun _ => false)).kle [Sum.inl a, Sum.inl b] [Sum.inl a', Sum.inl b']) : a ≤ a' := by
  have h2 : PyProof.Rows.lexLt itemOrd [Sum.inl a', Sum.inl b'] [Sum.inl a, Sum.inl b] = false := h
  have h3 : decide (a' < a) = false := by
    cases e : decide (a' < a)
    · rfl
    · have : PyProof.Rows.lexLt itemOrd [Sum.inl a', Sum.inl b'] [Sum.inl a, Sum.inl b] = true := by
        unfold PyProof.Rows.lexLt
        have e2 : itemLt (Sum.inl a') (Sum.inl a) = true := e
        simp [e2]
      rw [this] at h2
      cases h2
  have := of_decide_eq_false h3
  omega
theorem paired_map {F : Addr → (Int × Int) → Prop} (f : Addr → Int × Int) : ∀ ts : List Addr, (∀ t ∈ ts, F t (f t)) → Paired F ts (ts.map f)
  | [], _ => .nil
  | t :: ts, h => .cons (h t List.mem_cons_self) (paired_map f ts fun u hu => h u (List.mem_cons_of_mem _ hu))
theorem pairs_rows {H : Hp} : ∀ (as : List Addr) (rows : List (Int × Int)), Paired (fun (t : Addr) (q : Key × V) => H t = some (.tup [kV q.1, q.2])) as (rows.map fun r => (Sum.inl r.1, V.int r.2)) → as.map (pairAt H) = rows ∧ ∀ t ∈ as, H t = some (.tup [.int (pairAt H t).1, .int (pairAt H t).2])
  | [], [], _ => ⟨rfl, fun _ h => by cases h⟩
  | [], _ :: _, h => by cases h
  | _ :: _, [], h => by cases h
  | a :: as, r :: rows, h => by
    cases h with
    | cons h1 h2 =>
      obtain ⟨e, f⟩ := pairs_rows as rows h2
      have h1 : H a = some (.tup [.int r.1, .int r.2]) := h1
      have e1 : pairAt H a = r := by unfold pairAt; rw [h1]
      refine ⟨by rw [List.map_cons, e, e1], fun t ht => ?_⟩
      rcases List.mem_cons.mp ht with z | z
      · rw [z, e1]; exact h1
      · exact f t z
def unR : Value → Addr
  | .ref a => a
  | _ => 0
theorem pe_sortedItems {e : Expr} {te : TE} {p apos cpos pos : Pos} (hc : X.calm = true) (he : PE X e te) (hg : Gl X "sorted") (hm : X.mg "sorted" = none) (hv : bootBuiltins "sorted" = some (.builtin "sorted")) (hbase : attributeBase e "items" X.env (eval e X.env) = eval e X.env := by rfl) (hline : (apos.endLine == cpos.line) = true := by rfl)
    (hs : starEach [.Call (.Attribute e "items" apos) [] [] cpos] X.env = (false, eval (.Call (.Attribute e "items" apos) [] [] cpos) X.env) :: starEach [] X.env := by rfl) :
    PE X (.Call (.Name "sorted" p) [.Call (.Attribute e "items" apos) [] [] cpos] [] pos) (tSortItems te) := by
  refine ⟨fun pins s σ H Q I hq => ?_⟩
  refine wpAny_Call_Name_kw (ld_blt I hg hm hv ?_)
  refine PyProof.Rows.callWith_builtin1 ?_ hs rfl
  rw [hs]
  show wpAny _ _ (spliced ((false, eval (.Call (.Attribute e "items" apos) [] [] cpos) X.env) :: backTo pos (starEach [] X.env))) _ _ s
  refine Calls.spliced_cons ?_
  refine wpAny_Call_method (T := "dict") (id := "dict.items") hbase rfl hline F.plainAttrs_dict F.slot_dict_items F.type_dict_items (thn (he.run pins s σ H _ I hq) fun u s1 ⟨x, H1, I1, rx, d, rows, ex, hd, q⟩ => ?_)
  subst ex
  obtain rfl : u = Value.ref d := rx
  obtain ⟨hz, hs0, vs, kv, hdo⟩ := I1.hok d _ hd
  obtain ⟨ep, hat⟩ := hdo.dictAt
  have lk : (rows.map fun r => ((Sum.inl r.1 : Key), V.int r.2)).length = vs.length := Paired.length kv
  have I2 : Inv X pins σ H1 { s1 with heap := s1.heap.push { cls := .type "dict_items", data := .fields #[.ref d] } } := I1.kept (t' := s1.toks) fun b ob q => Heap.get?_push_of_some _ q
  refine ⟨hdo.typeIs, hdo.mapOf.noDict, ?_⟩
  show wpAny _ _ (callWith cpos (.builtin "dict.items") [.ref d] [] []) _ X.xe s1
  refine method_meetsIn F.slot_dict_items F.entry_dict_items rfl (PySem.evalArgs_none ⟨rfl, hdo.typeIs, F.args_dict_items_1 _, _, meets_dict_items (mixKind X.prog X.w) d hs0, ⟨vs, hdo⟩, ?_⟩)
  refine Calls.spliced_nil ?_
  refine Calls.call_function_entry PyProof.Rows.kind_sorted PyProof.Rows.plain_sorted PyProof.Rows.entry_sorted (PyProof.Rows.args_sorted1 _) ?_
  unfold Builtin.«sorted»
  refine wpAny_bind (m := checkCount "sorted" 1 1 _) (wpAny_pure ?_)
  refine wpAny_bind (PySem.W.kdx_collect (A := X.A.in1) (knd := mixKind X.prog X.w) (kvs := vs) (ep := ep) (I1.ok.hd hc) ⟨_, Heap.get?_push_size _ rfl, rfl, rfl⟩ (hat.push _) (by omega) fun h' tk as hk hl hG => ?_)
  obtain ⟨H', kp, new, atP, J⟩ := tups_laid (tk := tk) I2 kv hk (Nat.le_refl _) hl hG
  obtain ⟨hrows, hat2⟩ := pairs_rows as rows atP
  have hasz : as.length ≤ sizeLine := by rw [hl, ← lk]; exact hz
  have hvz : (as.map Value.ref).length ≤ sizeLine := by rw [List.length_map]; exact hasz
  refine wpAny_bind (wpAny_newList ?_ hvz)
  have hoL : (h'.push (seqObj "list" (as.map Value.ref).toArray 0)).get? h'.objs.size = some (seqObj "list" (as.map Value.ref).toArray 0) := Heap.get?_push_size _ rfl
  have tupAt : ∀ t ∈ as, ∃ o t1 t2 n, (h'.push (seqObj "list" (as.map Value.ref).toArray 0)).get? t = some o ∧ o.cls = .type "tuple" ∧ o.data = .seq #[.int (pairAt H' t).1 t1, .int (pairAt H' t).2 t2] n := fun t ht => by
    obtain ⟨_, its2, r2, o, ho, hcl, n, hdd⟩ := J.hok _ _ (hat2 t ht)
    cases r2 with
    | cons r1 r2 =>
      cases r2 with
      | cons r3 r2 =>
        cases r2
        obtain ⟨t1, rfl⟩ := r1
        obtain ⟨t2, rfl⟩ := r3
        exact ⟨o, t1, t2, n, Heap.get?_push_of_some _ ho, hcl, hdd⟩
  have key : ∀ t ∈ as, PyProof.Rows.G.tupKeyC (h'.push (seqObj "list" (as.map Value.ref).toArray 0)) (fun _ => false) (.ref t) = some [Sum.inl (pairAt H' t).1, Sum.inl (pairAt H' t).2] := fun t ht => by
    obtain ⟨o, t1, t2, n, ho, hcl, hdd⟩ := tupAt t ht
    have hi : PyProof.Rows.G.isTupObj (h'.push (seqObj "list" (as.map Value.ref).toArray 0)) (.ref t) = true := by
      unfold PyProof.Rows.G.isTupObj
      dsimp only
      rw [ho]
      dsimp only
      rw [hcl]
      rfl
    unfold PyProof.Rows.G.tupKeyC
    rw [if_pos hi]
    unfold tupKey
    dsimp only
    rw [ho]
    dsimp only
    rw [hdd]
    rfl
  have tups : ∀ us : List Addr, (∀ v ∈ us, v ∈ as) → ∃ fs, TupsOf (h'.push (seqObj "list" (as.map Value.ref).toArray 0)) (fun _ => false) (us.map Value.ref) fs := by
    intro us
    induction us with
    | nil => exact fun _ => ⟨[], .nil⟩
    | cons v r ih =>
      intro hm
      obtain ⟨fs, hf⟩ := ih fun u hu => hm u (List.mem_cons_of_mem _ hu)
      obtain ⟨o, t1, t2, n, ho, hcl, hdd⟩ := tupAt v (hm v List.mem_cons_self)
      exact ⟨_, .cons ⟨v, o, _, n, rfl, ho, hcl, hdd, rfl, (fun _ => ⟨_, _, rfl⟩), (fun z => by cases z)⟩ hf⟩
  obtain ⟨fs, hf⟩ := tups as fun v h => h
  show wpAny _ _ _ _ _ { s1 with heap := h'.push (seqObj "list" (as.map Value.ref).toArray 0), toks := tk }
  refine wpAny_bind (wpAny_holding (wpAny_call_entry PyProof.Rows.slot_list_sort ⟨_, hoL, rfl⟩ PyProof.Rows.entry_list_sort
    (PyProof.Rows.G.list_sort_tups (s := { s1 with heap := h'.push (seqObj "list" (as.map Value.ref).toArray 0), toks := tk }) (shape := fun _ => false) hoL hf (fun v hv => by
      obtain ⟨t, ht, rfl⟩ := List.mem_map.mp hv
      exact ⟨_, key t ht⟩) hvz fun st' hp hs2 _ => ⟨_, rfl, ?_⟩) (PyProof.Rows.args_list_sort _)))
  obtain ⟨e', he'⟩ := PyProof.Rows.sortedHeap_at (vs := as.map Value.ref) (out := (arrOf st').map (·.2)) hoL
  have pz : (arrOf st').toList.Perm ((as.map Value.ref).zip (as.map Value.ref)) := by
    have := hp.toList
    rwa [pairsOf_toList] at this
  have hself : ∀ p ∈ (arrOf st').toList, p.1 = p.2 ∧ p.1 ∈ as.map Value.ref := fun p hpm => mem_zip_self (pz.mem_iff.mp hpm)
  have pout : ((arrOf st').map (·.2)).toList.Perm (as.map Value.ref) := by
    rw [Array.toList_map]
    have := pz.map (·.2)
    have e : ((as.map Value.ref).zip (as.map Value.ref)).map (·.2) = as.map Value.ref := by
      rw [List.map_snd_zip (Nat.le_refl _)]
    rwa [e] at this
  obtain ⟨ts, ets⟩ : ∃ ts, ts = ((arrOf st').map (·.2)).toList.map unR := ⟨_, rfl⟩
  have hts : ts.map Value.ref = ((arrOf st').map (·.2)).toList := by
    rw [ets, List.map_map]
    refine (List.map_congr_left fun u hu => ?_).trans (List.map_id _)
    obtain ⟨t, _, rfl⟩ := List.mem_map.mp (pout.mem_iff.mp hu)
    rfl
  have pts : ts.Perm as := by
    have := pout.map unR
    rw [← ets, List.map_map] at this
    have e : as.map (unR ∘ Value.ref) = as := (List.map_congr_left fun u _ => rfl).trans (List.map_id _)
    rwa [e] at this
  have srt : List.Pairwise (fun u v => u.1 ≤ v.1) (ts.map (pairAt H')) := by
    rw [ets, Array.toList_map, List.map_map, List.map_map, List.pairwise_map, List.pairwise_iff_getElem]
    intro i j hi hj hij
    have hsz : (arrOf st').size = (pairsOf (as.map Value.ref)).size := hp.size_eq
    have hi' : i < (arrOf st').size := by rw [← Array.length_toList]; exact hi
    have hj' : j < (arrOf st').size := by rw [← Array.length_toList]; exact hj
    have hk2 := hs2 i j (Nat.le_of_lt hij) (by rw [← hsz]; exact hj')
    have kk : ∀ m (hm : m < (arrOf st').size), KK (PyProof.Rows.G.tupKindC (h'.push (seqObj "list" (as.map Value.ref).toArray 0)) (fun _ => false)) (arrOf st') m = [Sum.inl (pairAt H' (unR (arrOf st')[m].2)).1, Sum.inl (pairAt H' (unR (arrOf st')[m].2)).2] := fun m hm => by
      unfold KK
      rw [Array.getElem?_eq_getElem hm]
      have hmem : (arrOf st')[m] ∈ (arrOf st').toList := by rw [Array.mem_toList_iff]; exact Array.getElem_mem hm
      obtain ⟨h1, h2⟩ := hself _ hmem
      obtain ⟨t, ht, e⟩ := List.mem_map.mp h2
      show (PyProof.Rows.G.tupKeyC _ (fun _ => false) (arrOf st')[m].1).getD [] = _
      rw [← h1, ← e, key _ ht]
      rfl
    have hk3 : (PyProof.Rows.G.tupKindC default (fun _ => false)).kle [Sum.inl (pairAt H' (unR (arrOf st')[i].2)).1, Sum.inl (pairAt H' (unR (arrOf st')[i].2)).2] [Sum.inl (pairAt H' (unR (arrOf st')[j].2)).1, Sum.inl (pairAt H' (unR (arrOf st')[j].2)).2] := by
      have z := hk2
      rw [kk i hi', kk j hj'] at z
      exact z
    have := lex_head2 hk3
    simpa using this
  have fL : H' h'.objs.size = none := J.hok.fresh (Nat.le_refl _)
  have fts : ∀ t ∈ ts, H' t = some (.tup [.int (pairAt H' t).1, .int (pairAt H' t).2]) := fun t ht => hat2 t (pts.mem_iff.mp ht)
  refine wpAny_pure ⟨_, rfl, .ref h'.objs.size, upd H' h'.objs.size (.lst (ts.map V.ref)), J.laid (t' := tk) (fun b u e => ?_) (Nat.le_refl _)
    (show ObjOk X.prog X.w _ _ _ (.lst (ts.map V.ref)) from ⟨by rw [List.length_map, pts.length_eq]; exact hasz, ts.map Value.ref, e', LiI.vals_refs ts, ?_⟩), rfl, q _ _ ts (ts.map (pairAt H')) (fun b o e => ?_) ?_ (fun t ht => new t (pts.mem_iff.mp ht)) (fun z => ?_) ?_ srt upd_same (paired_map _ ts fun t ht => ?_)⟩
  · have hb : b < h'.objs.size := Heap.lt_size e
    show (PyProof.Rows.sortedHeap _ _ _ _).get? b = some u
    rw [PyProof.Rows.sortedHeap_old (Nat.ne_of_lt hb) (by rw [size_push']; exact Nat.lt_succ_of_lt hb)]
    exact Heap.get?_push_of_some _ e
  · rw [hts, Array.toArray_toList]
    exact he'
  · rw [upd_ne (fun z => by rw [z] at e; rw [kp _ _ e] at fL; cases fL)]
    exact kp _ _ e
  · cases e : H1 h'.objs.size with
    | none => rfl
    | some o => rw [kp _ _ e] at fL; cases fL
  · have := fts _ z
    rw [fL] at this
    cases this
  · rw [← hrows]
    exact pts.map _
  · rw [upd_ne (fun z => by have := fts t ht; rw [z, fL] at this; cases this)]
    exact fts t ht
end
end Bh

/-! A probe asked for its traces; its traces, counts and frames made anew. -/
namespace Bh
open PySem PySem.Spec PyProof.Rows L2
theorem nodup_set {α : Type} {q : α} : ∀ {L : List α} (i : Nat), L.Nodup → q ∉ L → (L.set i q).Nodup
  | [], _, _, _ => List.nodup_nil
  | x :: L, 0, h, n => List.nodup_cons.mpr ⟨fun z => n (List.mem_cons_of_mem _ z), (List.nodup_cons.mp h).2⟩
  | x :: L, i + 1, h, n => List.nodup_cons.mpr ⟨fun z => by
      rcases List.mem_or_eq_of_mem_set z with z | z
      · exact (List.nodup_cons.mp h).1 z
      · exact n (by rw [z]; exact List.mem_cons_self), nodup_set i (List.nodup_cons.mp h).2 fun z => n (List.mem_cons_of_mem _ z)⟩
section
variable {CB CM CP CK CW CF CH CC CI : Addr} {S H H' : Hp} {p : Addr} {a : Ap} {x : Pm}
theorem PrC.newH (C : PrC CB CM CP CK CW CF CH CC CI S H p a x) {q l dn : Addr} (k : ∀ b o, b ≠ p → H b = some o → H' b = some o) (n_q : H q = none) (n_l : H l = none) (d_ql : q ≠ l)
    (hp : H' p = some (.ins CP a.dx (prF a.bd a.st a.wa a.fr q a.co a.mi a.sd x.gone .non))) (hq : H' q = some (.ins CH dn (hiF l 0))) (hl : H' l = some (.lst [])) : PrC CB CM CP CK CW CF CH CC CI S H' p { a with hi := q, dh := dn, hl := l, hs := [] } { x with hist := [], faded := 0 } ∧ Fr (FtP p a) H (FtP p { a with hi := q, dh := dn, hl := l, hs := [] }) H' := by
  obtain ⟨s, kb, t, ko, f⟩ := C.kOwn (l := [0]) (H' := H') (fun b o n e => k b o (fun z => n 0 (by decide) (by rw [z]; rfl)) e)
  have ex : ∀ b, FtP p a b → H b ≠ none := fun b h z => by
    obtain ⟨o, e, _⟩ := C.solid b h
    rw [z] at e; cases e
  have no : ∀ v, H v = none → v ∉ a.own p := fun v hv h => ex v (.inr h) hv
  have mem : ∀ b, b ∈ Ap.own p { a with hi := q, dh := dn, hl := l, hs := [] } → b ∈ a.own p ∨ H b = none := fun b h => by
    have h : b ∈ ((a.own p).set 3 q).set 4 l := h
    rcases List.mem_or_eq_of_mem_set h with h | h
    rotate_left
    · rw [h]; exact .inr n_l
    rcases List.mem_or_eq_of_mem_set h with h | h
    rotate_left
    · rw [h]; exact .inr n_q
    exact .inl h
  refine ⟨{ C with
    sm := s
    fs := fun b h => by
      rcases h with h | h
      · exact C.fs b (.inl h)
      · rcases mem b h with h | h
        · exact C.fs b (.inr h)
        · cases e : S b with
          | none => rfl
          | some o => rw [C.sm _ _ e] at h; cases h
    nd := by
      show (((a.own p).set 3 q).set 4 l).Nodup
      refine nodup_set 4 (nodup_set 3 C.nd (no _ n_q)) (fun h => ?_)
      rcases List.mem_or_eq_of_mem_set h with h | h
      · exact no _ n_l h
      · exact d_ql h.symm
    ob := fun b h z => by
      rcases mem b h with h | h
      · exact C.ob b h z
      · exact ex b (.inl z) h
    hp := hp
    B := C.B.keep kb t
    hst := ko 8 _ _ (by decide) rfl C.hst
    hhd := ko 9 _ _ (by decide) rfl C.hhd
    her := ko 10 _ _ (by decide) rfl C.her
    hwa := ko 11 _ _ (by decide) rfl C.hwa
    hwr := ko 12 _ _ (by decide) rfl C.hwr
    wts := C.wts.mono t
    hfr := ko 1 _ _ (by decide) rfl C.hfr
    hfl := ko 2 _ _ (by decide) rfl C.hfl
    rows := C.rows.mono t
    hhi := hq
    hhl := hl
    hist := .nil
    hco := ko 5 _ _ (by decide) rfl C.hco
    hcd := ko 6 _ _ (by decide) rfl C.hcd
    deeds := C.deeds.mono t
    hcf := ko 7 _ _ (by decide) rfl C.hcf }, ⟨f.keep, fun b z => ?_⟩⟩
  rcases z with z | z
  · exact .inl (.inl z)
  · rcases mem b z with h | h
    · exact .inl (.inr h)
    · exact .inr h
theorem PrC.newF (C : PrC CB CM CP CK CW CF CH CC CI S H p a x) {q l dn : Addr} (k : ∀ b o, b ≠ p → H b = some o → H' b = some o) (n_q : H q = none) (n_l : H l = none) (d_ql : q ≠ l)
    (hp : H' p = some (.ins CP a.dx (prF a.bd a.st a.wa q a.hi a.co a.mi a.sd x.gone .non))) (hq : H' q = some (.ins CF dn (frF l 0))) (hl : H' l = some (.lst [])) : PrC CB CM CP CK CW CF CH CC CI S H' p { a with fr := q, df := dn, fl := l, us := [] } { x with rows := [], strays := 0 } ∧ Fr (FtP p a) H (FtP p { a with fr := q, df := dn, fl := l, us := [] }) H' := by
  obtain ⟨s, kb, t, ko, f⟩ := C.kOwn (l := [0]) (H' := H') (fun b o n e => k b o (fun z => n 0 (by decide) (by rw [z]; rfl)) e)
  have ex : ∀ b, FtP p a b → H b ≠ none := fun b h z => by
    obtain ⟨o, e, _⟩ := C.solid b h
    rw [z] at e; cases e
  have no : ∀ v, H v = none → v ∉ a.own p := fun v hv h => ex v (.inr h) hv
  have mem : ∀ b, b ∈ Ap.own p { a with fr := q, df := dn, fl := l, us := [] } → b ∈ a.own p ∨ H b = none := fun b h => by
    have h : b ∈ ((a.own p).set 1 q).set 2 l := h
    rcases List.mem_or_eq_of_mem_set h with h | h
    rotate_left
    · rw [h]; exact .inr n_l
    rcases List.mem_or_eq_of_mem_set h with h | h
    rotate_left
    · rw [h]; exact .inr n_q
    exact .inl h
  refine ⟨{ C with
    sm := s
    fs := fun b h => by
      rcases h with h | h
      · exact C.fs b (.inl h)
      · rcases mem b h with h | h
        · exact C.fs b (.inr h)
        · cases e : S b with
          | none => rfl
          | some o => rw [C.sm _ _ e] at h; cases h
    nd := by
      show (((a.own p).set 1 q).set 2 l).Nodup
      refine nodup_set 2 (nodup_set 1 C.nd (no _ n_q)) (fun h => ?_)
      rcases List.mem_or_eq_of_mem_set h with h | h
      · exact no _ n_l h
      · exact d_ql h.symm
    ob := fun b h z => by
      rcases mem b h with h | h
      · exact C.ob b h z
      · exact ex b (.inl z) h
    hp := hp
    B := C.B.keep kb t
    hst := ko 8 _ _ (by decide) rfl C.hst
    hhd := ko 9 _ _ (by decide) rfl C.hhd
    her := ko 10 _ _ (by decide) rfl C.her
    hwa := ko 11 _ _ (by decide) rfl C.hwa
    hwr := ko 12 _ _ (by decide) rfl C.hwr
    wts := C.wts.mono t
    hfr := hq
    hfl := hl
    rows := .nil
    hhi := ko 3 _ _ (by decide) rfl C.hhi
    hhl := ko 4 _ _ (by decide) rfl C.hhl
    hist := C.hist.mono t
    hco := ko 5 _ _ (by decide) rfl C.hco
    hcd := ko 6 _ _ (by decide) rfl C.hcd
    deeds := C.deeds.mono t
    hcf := ko 7 _ _ (by decide) rfl C.hcf }, ⟨f.keep, fun b z => ?_⟩⟩
  rcases z with z | z
  · exact .inl (.inl z)
  · rcases mem b z with h | h
    · exact .inl (.inr h)
    · exact .inr h
theorem PrC.newC (C : PrC CB CM CP CK CW CF CH CC CI S H p a x) {q l m dn : Addr} (k : ∀ b o, b ≠ p → H b = some o → H' b = some o) (n_q : H q = none) (n_l : H l = none) (n_m : H m = none) (d_ql : q ≠ l) (d_qm : q ≠ m) (d_lm : l ≠ m)
    (hp : H' p = some (.ins CP a.dx (prF a.bd a.st a.wa a.fr a.hi q a.mi a.sd x.gone .non))) (hq : H' q = some (.ins CC dn (coF l m 0 0))) (hl : H' l = some (.dK [])) (hm : H' m = some (.dK [])) : PrC CB CM CP CK CW CF CH CC CI S H' p { a with co := q, dc := dn, cd := l, cf := m, kd := [] } { x with deeds := [], spent := [], idle := 0, peeked := 0 } ∧ Fr (FtP p a) H (FtP p { a with co := q, dc := dn, cd := l, cf := m, kd := [] }) H' := by
  obtain ⟨s, kb, t, ko, f⟩ := C.kOwn (l := [0]) (H' := H') (fun b o n e => k b o (fun z => n 0 (by decide) (by rw [z]; rfl)) e)
  have ex : ∀ b, FtP p a b → H b ≠ none := fun b h z => by
    obtain ⟨o, e, _⟩ := C.solid b h
    rw [z] at e; cases e
  have no : ∀ v, H v = none → v ∉ a.own p := fun v hv h => ex v (.inr h) hv
  have mem : ∀ b, b ∈ Ap.own p { a with co := q, dc := dn, cd := l, cf := m, kd := [] } → b ∈ a.own p ∨ H b = none := fun b h => by
    have h : b ∈ (((a.own p).set 5 q).set 6 l).set 7 m := h
    rcases List.mem_or_eq_of_mem_set h with h | h
    rotate_left
    · rw [h]; exact .inr n_m
    rcases List.mem_or_eq_of_mem_set h with h | h
    rotate_left
    · rw [h]; exact .inr n_l
    rcases List.mem_or_eq_of_mem_set h with h | h
    rotate_left
    · rw [h]; exact .inr n_q
    exact .inl h
  refine ⟨{ C with
    sm := s
    fs := fun b h => by
      rcases h with h | h
      · exact C.fs b (.inl h)
      · rcases mem b h with h | h
        · exact C.fs b (.inr h)
        · cases e : S b with
          | none => rfl
          | some o => rw [C.sm _ _ e] at h; cases h
    nd := by
      show ((((a.own p).set 5 q).set 6 l).set 7 m).Nodup
      refine nodup_set 7 (nodup_set 6 (nodup_set 5 C.nd (no _ n_q)) (fun h => ?_)) (fun h => ?_)
      · rcases List.mem_or_eq_of_mem_set h with h | h
        · exact no _ n_l h
        · exact d_ql h.symm
      · rcases List.mem_or_eq_of_mem_set h with h | h
        · rcases List.mem_or_eq_of_mem_set h with h | h
          · exact no _ n_m h
          · exact d_qm h.symm
        · exact d_lm h.symm
    ob := fun b h z => by
      rcases mem b h with h | h
      · exact C.ob b h z
      · exact ex b (.inl z) h
    hp := hp
    B := C.B.keep kb t
    hst := ko 8 _ _ (by decide) rfl C.hst
    hhd := ko 9 _ _ (by decide) rfl C.hhd
    her := ko 10 _ _ (by decide) rfl C.her
    hwa := ko 11 _ _ (by decide) rfl C.hwa
    hwr := ko 12 _ _ (by decide) rfl C.hwr
    wts := C.wts.mono t
    hfr := ko 1 _ _ (by decide) rfl C.hfr
    hfl := ko 2 _ _ (by decide) rfl C.hfl
    rows := C.rows.mono t
    hhi := ko 3 _ _ (by decide) rfl C.hhi
    hhl := ko 4 _ _ (by decide) rfl C.hhl
    hist := C.hist.mono t
    hco := hq
    hcd := hl
    deeds := .nil
    hcf := hm }, ⟨f.keep, fun b z => ?_⟩⟩
  rcases z with z | z
  · exact .inl (.inl z)
  · rcases mem b z with h | h
    · exact .inl (.inr h)
    · exact .inr h
end

def P3At (H : Hp) : List V → List (Int × Int × Int) → Prop := Paired (fun (v : V) (r : Int × Int × Int) => ∃ t, v = .ref t ∧ H t = some (.tup [.int r.1, .int r.2.1, .int r.2.2]))
def P2At (H : Hp) : List Addr → List (Int × Int) → Prop := Paired (fun (t : Addr) (q : Int × Int) => H t = some (.tup [.int q.1, .int q.2]))
section
variable (CB CM CP CK CW CF CH CC CI : Addr)
def spFad : Sp := fun vs H Q _ => ∃ (S : Hp) (F : Addr → Prop) (p : Addr) (x : Pm), vs = [.ref p] ∧ PrA CB CM CP CK CW CF CH CC CI S H F p x ∧ Q (.int x.faded) H
def spIdl : Sp := fun vs H Q _ => ∃ (S : Hp) (F : Addr → Prop) (p : Addr) (x : Pm), vs = [.ref p] ∧ PrA CB CM CP CK CW CF CH CC CI S H F p x ∧ Q (.int x.idle) H
def spPee : Sp := fun vs H Q _ => ∃ (S : Hp) (F : Addr → Prop) (p : Addr) (x : Pm), vs = [.ref p] ∧ PrA CB CM CP CK CW CF CH CC CI S H F p x ∧ Q (.int x.peeked) H
def spSpe : Sp := fun vs H Q _ => ∃ (S : Hp) (F : Addr → Prop) (p : Addr) (x : Pm), vs = [.ref p] ∧ PrA CB CM CP CK CW CF CH CC CI S H F p x ∧ ∀ H' l ts rows, Same H H' → H l = none → H' l = some (.lst (ts.map V.ref)) → rows.Perm x.spent → List.Pairwise (fun u v => u.1 ≤ v.1) rows → P2At H' ts rows → Q (.ref l) H'
def spClH : Sp := fun vs H Q _ => ∃ (S : Hp) (F : Addr → Prop) (p : Addr) (x : Pm), vs = [.ref p] ∧ PrA CB CM CP CK CW CF CH CC CI S H F p x ∧ ∀ H' F', Fr F H F' H' → PrA CB CM CP CK CW CF CH CC CI S H' F' p { x with hist := [], faded := 0 } → Q .non H'
def spClF : Sp := fun vs H Q _ => ∃ (S : Hp) (F : Addr → Prop) (p : Addr) (x : Pm), vs = [.ref p] ∧ PrA CB CM CP CK CW CF CH CC CI S H F p x ∧ ∀ H' F', Fr F H F' H' → PrA CB CM CP CK CW CF CH CC CI S H' F' p { x with rows := [], strays := 0 } → Q .non H'
def spClC : Sp := fun vs H Q _ => ∃ (S : Hp) (F : Addr → Prop) (p : Addr) (x : Pm), vs = [.ref p] ∧ PrA CB CM CP CK CW CF CH CC CI S H F p x ∧ ∀ H' F', Fr F H F' H' → PrA CB CM CP CK CW CF CH CC CI S H' F' p { x with deeds := [], spent := [], idle := 0, peeked := 0 } → Q .non H'
def R3At (H : Hp) (us : List V) : Prop := ∀ v ∈ us, ∃ (t : Addr) (i j k : Int), v = .ref t ∧ H t = some (.tup [.int i, .int j, .int k])
def spPrf : Sp := fun vs H Q _ => ∃ (S : Hp) (F : Addr → Prop) (p : Addr) (x : Pm), vs = [.ref p] ∧ PrA CB CM CP CK CW CF CH CC CI S H F p x ∧ x.n < 100000 ∧ ∀ H' l us, Same H H' → H l = none → H' l = some (.lst us) → us.length = x.deeds.length → R3At H' us → Q (.ref l) H'
end
def row3 (H : Hp) (v : V) : Int × Int × Int := match v with
  | .ref t => (match H t with
    | some (.tup [.int i, .int j, .int k]) => (i, j, k)
    | _ => (0, 0, 0))
  | _ => (0, 0, 0)
theorem row3_of {H : Hp} {t : Addr} {i j k : Int} (e : H t = some (.tup [.int i, .int j, .int k])) : row3 H (.ref t) = (i, j, k) := by
  show (match H t with
    | some (.tup [.int i, .int j, .int k]) => (i, j, k)
    | _ => (0, 0, 0)) = _
  rw [e]
theorem hsz2 {n : Nat} (h : n ≤ 200000) : n < sizeLine := Nat.lt_of_le_of_lt h (by decide)
theorem valV_mem {k : Key} : ∀ {kvs : List (Key × V)}, k ∈ kvs.map (·.1) → ∃ v, valV kvs k = some v ∧ (k, v) ∈ kvs
  | [], h => by cases h
  | (j, u) :: r, h => by
    by_cases e : j = k
    · exact ⟨u, valV_pos e, by rw [← e]; exact List.mem_cons_self⟩
    · rw [List.map_cons] at h
      rcases List.mem_cons.mp h with z | z
      · exact absurd z.symm e
      · obtain ⟨v, h1, h2⟩ := valV_mem z
        exact ⟨v, (valV_neg e).trans h1, List.mem_cons_of_mem _ h2⟩
theorem lc_itk {d : Addr} {o : Obj} {kvs : List (Key × V)} {g : TG} {tt : TT} {te : TE} {vs : List Nat} {σ : L2.St} {H1 : Hp} {D : Addr} {Qd : Hp → Prop} (Pv : Nat → Hp → Prop) (h0 : Pv 0 (upd H1 D (.lst []))) (hl : ∀ i H, Pv i H → H d = some (.frz o (.dK kvs)))
    (hs : ∀ i k v H, kvs[i]? = some (k, v) → Pv i H → g (kV k) (wipe σ vs) H fun σ2 H2 => wipe σ2 vs = wipe σ vs ∧ tt σ2 H2 fun b H3 =>
      if b = true then te σ2 H3 fun y H4 => ∃ acc, H4 D = some (.lst acc) ∧ acc.length < sizeLine ∧ Pv (i + 1) (upd H4 D (.lst (acc ++ [y]))) else Pv (i + 1) H3) (hd : ∀ H, Pv kvs.length H → Qd H) :
    ∃ W : Nat → Nat → Hp → Prop, (∃ m, W 0 m (upd H1 D (.lst []))) ∧ ∀ i m H, W i m H →
      ((Itk d o kvs).stop i H ∧ Qd H) ∨ ((Itk d o kvs).go i H ∧ ∃ Nx : Hp → Prop, (∀ H', Nx H' → ∃ m', m' < m ∧ W (i + 1) m' H') ∧ ∀ x' H', (Itk d o kvs).yld i H x' H' → g x' (wipe σ vs) H' fun σ2 H2 => wipe σ2 vs = wipe σ vs ∧ tt σ2 H2 fun b H3 =>
        if b = true then te σ2 H3 fun y H4 => ∃ acc, H4 D = some (.lst acc) ∧ acc.length < sizeLine ∧ Nx (upd H4 D (.lst (acc ++ [y]))) else Nx H3) := by
  refine ⟨fun i m H => m = kvs.length - i ∧ i ≤ kvs.length ∧ Pv i H, ⟨kvs.length, by simp, Nat.zero_le _, h0⟩, ?_⟩
  rintro i m H ⟨rfl, hi, p⟩
  by_cases hlt : i < kvs.length
  · refine .inr ⟨⟨hl i H p, hlt⟩, Pv (i + 1), fun H' p' => ⟨kvs.length - (i + 1), by omega, rfl, hlt, p'⟩, fun x' H' y => ?_⟩
    obtain ⟨e2, k, v, hc, e⟩ := y
    subst e e2
    exact hs i k v H' hc p
  · have e : i = kvs.length := Nat.le_antisymm hi (Nat.le_of_not_lt hlt)
    exact .inl ⟨⟨hl i H p, by rw [e]; exact Nat.le_refl _⟩, hd H (by rw [e] at p; exact p)⟩
section
variable {P : Program} {w : World} {K : PySem.W.Frag} {mg : Str → Option Value} {base : Heap} {CB CM CP CK CW CF CH CC CI CS : Addr}
end
end Bh

/-! A probe is changed. -/
namespace Bh
open PySem PySem.Spec PyProof.Rows L2
structure Tk (K : PySem.W.Frag) (mg : Str → Option Value) : Prop where
  g_KINDS : ∃ a, mg "KINDS" = some (.ref a) ∧ ∀ H, SqT K H a (kdN.map V.str)
  g_HARD_MOST : ∃ t, mg "HARD_MOST" = some (.int 2 t)
  g_PAGE_WORDS : ∃ t, mg "PAGE_WORDS" = some (.int 32 t)
def pokedM (a v : Int) (x : Pm) : Pm := { x with b := putWM a v x.b, n := x.n + 1 }
def SetAt (nm : Str) (v : V) (b b' : Bd) : Prop :=
  (∃ n : Int, v = .int n ∧ 0 ≤ n ∧ n ≤ 65535 ∧ ((nm = "a" ∧ b' = { b with a := n }) ∨ (nm = "b" ∧ b' = { b with b := n }) ∨ (nm = "pc" ∧ b' = { b with pc := n, stop := none }) ∨ (nm = "sp" ∧ b' = { b with sp := n }))) ∨
  ∃ c : Bool, v = .bl c ∧ ((nm = "zero" ∧ b' = { b with zero := c }) ∨ (nm = "lets" ∧ b' = { b with lets := c }) ∨ (nm = "asleep" ∧ b' = { b with asleep := c }))
def LayOk (n lo hi : Int) (kd : Str) : Prop := (0 ≤ n ∧ n ≤ 1) ∧ (0 ≤ hi ∧ hi ≤ 773) ∧ (0 ≤ lo ∧ lo ≤ hi) ∧ kd ∈ kdN
theorem bar_put {a : Int} (h0 : 512 ≤ a) (h1 : a ≤ 773) (h2 : a ≠ 772) : barM (true, a) = none := by
  unfold barM
  rw [if_neg (fun z => z ⟨show 0 ≤ a by omega, show a < 774 by omega⟩), if_neg (show ¬ (true : Bool) = false by decide), if_neg (show ¬ a < 512 by omega), if_neg (show ¬ a = 772 from h2)]
theorem PrN.poked {x : Pm} (N : PrN x) {a v : Int} (hv : 0 ≤ v) : PrN (pokedM a v x) := by
  have h1 := putWM_sent a v x.b
  have hs := N.s
  have hr := N.r
  have hd := N.d
  have ht := N.t
  have hw := N.sw
  exact ⟨by show (putWM a v x.b).sent.length ≤ 2 * (x.n + 1); omega, by show x.rows.length ≤ x.n + 1; omega, N.h, by show x.deeds.length ≤ x.n + 1; omega, by show x.spent.length ≤ x.n + 1; omega, N.nn.put hv, N.hh, by show (putWM a v x.b).sw.length ≤ x.n + 1; rw [(put_sw a v x.b).1]; omega, N.we, N.wa, N.wk⟩
theorem set_sent {nm : Str} {v : V} {b b' : Bd} (h : SetAt nm v b b') : b'.sent = b.sent ∧ b'.sw = b.sw ∧ b'.ma = b.ma ∧ (NN b → NN b') := by
  rcases h with ⟨n, _, h0, _, (⟨_, rfl⟩ | ⟨_, rfl⟩ | ⟨_, rfl⟩ | ⟨_, rfl⟩)⟩ | ⟨c, _, (⟨_, rfl⟩ | ⟨_, rfl⟩ | ⟨_, rfl⟩)⟩
  · exact ⟨rfl, rfl, rfl, fun N => { N with a := h0 }⟩
  · exact ⟨rfl, rfl, rfl, fun N => { N with b := h0 }⟩
  · exact ⟨rfl, rfl, rfl, fun N => { N with p := h0 }⟩
  · exact ⟨rfl, rfl, rfl, fun N => { N with }⟩
  · exact ⟨rfl, rfl, rfl, fun N => { N with }⟩
  · exact ⟨rfl, rfl, rfl, fun N => { N with }⟩
  · exact ⟨rfl, rfl, rfl, fun N => { N with }⟩
theorem PrN.set {x : Pm} (N : PrN x) {nm : Str} {v : V} {b' : Bd} (h : SetAt nm v x.b b') : PrN { x with b := b' } := by
  obtain ⟨h1, h2, _, h3⟩ := set_sent h
  exact ⟨by show b'.sent.length ≤ _; rw [h1]; exact N.s, N.r, N.h, N.d, N.t, h3 N.nn, N.hh, by show b'.sw.length ≤ _; rw [h2]; exact N.sw, N.we, N.wa, N.wk⟩
theorem PrN.watch {x : Pm} (N : PrN x) {n lo hi : Int} {kd : Str} (h : LayOk n lo hi kd) : PrN { x with wat := x.wat.set n.toNat (some (lo, hi, kd)) } := ⟨N.s, N.r, N.h, N.d, N.t, N.nn, N.hh, N.sw, N.we, by show (x.wat.set _ _).length = 2; rw [List.length_set]; exact N.wa, fun u hu => by
  rcases List.mem_or_eq_of_mem_set hu with z | z
  · exact N.wk u z
  · cases z
    exact h.2.2.2⟩
theorem WtAt.set {H : Hp} : ∀ {us : List V} {ls : List (Option (Int × Int × Str))} (i : Nat) {v : V} {r : Option (Int × Int × Str)}, WtAt H us ls → (match r with
    | none => v = .non
    | some u => ∃ t, v = .ref t ∧ H t = some (.tup [.int u.1, .int u.2.1, .str u.2.2])) → WtAt H (us.set i v) (ls.set i r)
  | _, _, _, _, _, .nil, _ => .nil
  | _, _, 0, _, _, .cons _ r, h => .cons h r
  | _, _, i + 1, _, _, .cons h0 r, h => .cons h0 (WtAt.set i r h)
section
variable {CB CM CP CK CW CF CH CC CI : Addr} {S H H' : Hp} {p : Addr} {a : Ap} {x : Pm}
theorem Fr.upd {F : Addr → Prop} {q : Addr} {o : HO} {H : Hp} (h : F q) : Fr F H F (L2.upd H q o) := Fr.one h fun c o n e => by rw [upd_ne n]; exact e
theorem PrC.boardB (C : PrC CB CM CP CK CW CF CH CC CI S H p a x) {A' : Ad} {ts' ls' : List V} {y : Bd} (B : BdOn CB CM H' a.bd A' ts' ls' y) (f : Fr (FtB a.bd a.A) H (FtB a.bd A') H') (em : y.ma = x.b.ma) : PrC CB CM CP CK CW CF CH CC CI S H' p { a with A := A', ts := ts', ls := ls' } { x with b := y } ∧ Fr (FtP p a) H (FtP p { a with A := A', ts := ts', ls := ls' }) H' := ⟨C.board B f em, C.boardFr f⟩
theorem PrC.watches (C : PrC CB CM CP CK CW CF CH CC CI S H p a x) {wv' : List V} {wat' : List (Option (Int × Int × Str))} (k : ∀ b o, b ≠ a.wr → H b = some o → H' b = some o) (h1 : H' a.wr = some (.lst wv')) (h2 : WtAt H' wv' wat') :
    PrC CB CM CP CK CW CF CH CC CI S H' p { a with wv := wv' } { x with wat := wat' } ∧ Fr (FtP p a) H (FtP p { a with wv := wv' }) H' := by
  obtain ⟨s, kb, t, ko, f⟩ := C.kOwn (l := [12]) (H' := H') (fun b o n e => k b o (fun z => n 12 (by decide) (by rw [z]; rfl)) e)
  exact ⟨{ C with
    sm := s
    hp := ko 0 _ _ (by decide) rfl C.hp
    B := C.B.keep kb t
    hfr := ko 1 _ _ (by decide) rfl C.hfr
    hfl := ko 2 _ _ (by decide) rfl C.hfl
    rows := C.rows.mono t
    hhi := ko 3 _ _ (by decide) rfl C.hhi
    hhl := ko 4 _ _ (by decide) rfl C.hhl
    hist := C.hist.mono t
    hco := ko 5 _ _ (by decide) rfl C.hco
    hcd := ko 6 _ _ (by decide) rfl C.hcd
    deeds := C.deeds.mono t
    hcf := ko 7 _ _ (by decide) rfl C.hcf
    hst := ko 8 _ _ (by decide) rfl C.hst
    hhd := ko 9 _ _ (by decide) rfl C.hhd
    her := ko 10 _ _ (by decide) rfl C.her
    hwa := ko 11 _ _ (by decide) rfl C.hwa
    hwr := h1
    wts := h2 }, f⟩
theorem PrC.hards (C : PrC CB CM CP CK CW CF CH CC CI S H p a x) {hs : List Int} : PrC CB CM CP CK CW CF CH CC CI S (upd H a.hd (.dK (swD hs))) p a { x with hard := hs } ∧ Fr (FtP p a) H (FtP p a) (upd H a.hd (.dK (swD hs))) := by
  obtain ⟨s, kb, t, ko, f⟩ := C.kOwn (l := [9]) (H' := upd H a.hd (.dK (swD hs))) (fun b o n e => by rw [upd_ne (fun z => n 9 (by decide) (by rw [z]; rfl))]; exact e)
  exact ⟨{ C with
    sm := s
    hp := ko 0 _ _ (by decide) rfl C.hp
    B := C.B.keep kb t
    hfr := ko 1 _ _ (by decide) rfl C.hfr
    hfl := ko 2 _ _ (by decide) rfl C.hfl
    rows := C.rows.mono t
    hhi := ko 3 _ _ (by decide) rfl C.hhi
    hhl := ko 4 _ _ (by decide) rfl C.hhl
    hist := C.hist.mono t
    hco := ko 5 _ _ (by decide) rfl C.hco
    hcd := ko 6 _ _ (by decide) rfl C.hcd
    deeds := C.deeds.mono t
    hcf := ko 7 _ _ (by decide) rfl C.hcf
    hst := ko 8 _ _ (by decide) rfl C.hst
    hhd := upd_same
    her := ko 10 _ _ (by decide) rfl C.her
    hwa := ko 11 _ _ (by decide) rfl C.hwa
    hwr := ko 12 _ _ (by decide) rfl C.hwr
    wts := C.wts.mono t }, f⟩
end
section
variable (CB CM CP CK CW CF CH CC CI : Addr)
def spPoke : Sp := fun vs H Q _ => ∃ (S : Hp) (F : Addr → Prop) (p : Addr) (x : Pm) (a v : Int), vs = [.ref p, .int a, .int v] ∧ PrA CB CM CP CK CW CF CH CC CI S H F p x ∧ 512 ≤ a ∧ a ≤ 773 ∧ a ≠ 772 ∧ 0 ≤ v ∧ v ≤ 65535 ∧ x.n < 99000 ∧
  ∀ H' F', Fr F H F' H' → PrA CB CM CP CK CW CF CH CC CI S H' F' p (pokedM a v x) → Q .non H'
def spSetR : Sp := fun vs H Q _ => ∃ (S : Hp) (F : Addr → Prop) (p : Addr) (x : Pm) (nm : Str) (v : V) (b' : Bd), vs = [.ref p, .str nm, v] ∧ PrA CB CM CP CK CW CF CH CC CI S H F p x ∧ SetAt nm v x.b b' ∧
  ∀ H' F', Fr F H F' H' → PrA CB CM CP CK CW CF CH CC CI S H' F' p { x with b := b' } → Q .non H'
def spChk : Sp := fun vs H Q _ => ∃ (wa : Addr) (n : Int), vs = [.ref wa, .int n] ∧ 0 ≤ n ∧ n ≤ 1 ∧ Q .non H
def spLayW : Sp := fun vs H Q _ => ∃ (wa dw wr : Addr) (wv : List V) (n lo hi : Int) (kd : Str), vs = [.ref wa, .int n, .int lo, .int hi, .str kd] ∧ H wa = some (.ins CW dw (wtF wr)) ∧ H wr = some (.lst wv) ∧ wv.length = 2 ∧ LayOk n lo hi kd ∧
  ∀ t, H t = none → Q .non (upd (upd H t (.tup [.int lo, .int hi, .str kd])) wr (.lst (wv.set n.toNat (.ref t))))
def spWatch : Sp := fun vs H Q _ => ∃ (S : Hp) (F : Addr → Prop) (p : Addr) (x : Pm) (n lo hi : Int) (kd : Str), vs = [.ref p, .int n, .int lo, .int hi, .str kd] ∧ PrA CB CM CP CK CW CF CH CC CI S H F p x ∧ LayOk n lo hi kd ∧
  ∀ H' F', Fr F H F' H' → PrA CB CM CP CK CW CF CH CC CI S H' F' p { x with wat := x.wat.set n.toNat (some (lo, hi, kd)) } → Q .non H'
end
section
variable {P : Program} {w : World} {K : PySem.W.Frag} {mg : Str → Option Value} {base : Heap} {CB CM CP CK CW CF CH CC CI CS : Addr}
abbrev sMchk : Stmt := inClass (topS 93) 4
def scMchkN : List Str := ["self", "number"]
theorem scMchk : FnScope scMchkN ["self", "number"] (defScope sMchk) := ⟨rfl, rfl, rfl, by decide +kernel, rfl, by decide +kernel, by decide +kernel⟩
theorem ok_Mchk {f : Addr} {fd : FuncData} {fF_betw : Addr} {dF_betw : FuncData} (F : Fun K "check_number" "Watches.check_number" sMchk f fd) (T : Ty K mg CB CM CP CK CW CF CH CC CI CS)
    (F_betw : CalF P w K mg base 2 "is_between" ["thing", "least", "greatest"] (spBetw) fF_betw dF_betw) : FnOk P w K mg base CX0 3 f fd ["self", "number"] (spChk) := by
  refine F.ok scMchk (fun vs H Q E h => by obtain ⟨_, _, rfl, _⟩ := h; rfl) (fun cdv A outer s H vs Q E hr h => ?_)
  have hu := hu_of hr
  obtain ⟨t_WATCHES, g_WATCHES⟩ := T.g_WATCHES
  obtain ⟨wa, n, rfl, n0, n1, q⟩ := h
  refine ⟨_, (pss_one (ps_if (pt_not (pt_val (pe_call F_betw.G (hr.mono (by decide)) (by rfl) F_betw.g F_betw.kp F_betw.b .nil pass0 (pa_cons (pv 1) (pa_cons pe_int (pa_cons (pe_op op_sub (pgI g_WATCHES) pe_int) pa_nil)))))) pss_never pss_nil)), ?_⟩
  refine ⟨_, rfl, _, _, rfl, rfl, _, _, _, rfl, ?_⟩
  exact ⟨_, rfl, ifN (fun h => absurd (of_decide_eq_false h) (fun z => z ⟨n0, n1⟩)) (fun _ => q)⟩
abbrev sMlayw : Stmt := inClass (topS 93) 2
def scMlaywN : List Str := ["self", "number", "low", "high", "kind"]
theorem scMlayw : FnScope scMlaywN ["self", "number", "low", "high", "kind"] (defScope sMlayw) := ⟨rfl, rfl, rfl, by decide +kernel, rfl, by decide +kernel, by decide +kernel⟩
theorem ok_Mlayw {f : Addr} {fd : FuncData} {fF_betw : Addr} {dF_betw : FuncData} {fM_chk : Addr} {dM_chk : FuncData} (F : Fun K "lay" "Watches.lay" sMlayw f fd) (T : Ty K mg CB CM CP CK CW CF CH CC CI CS)
    (F_betw : CalF P w K mg base 2 "is_between" ["thing", "least", "greatest"] (spBetw) fF_betw dF_betw)
    (M_chk : CalM P w K mg base CW 3 "check_number" ["self", "number"] (spChk) fM_chk dM_chk)
    (TK : Tk K mg)
    (TR : Tr K mg) : FnOk P w K mg base CX0 4 f fd ["self", "number", "low", "high", "kind"] (spLayW CW) := by
  refine F.ok scMlayw (fun vs H Q E h => by obtain ⟨_, _, _, _, _, _, _, _, rfl, _⟩ := h; rfl) (fun cdv A outer s H vs Q E hr h => ?_)
  have hu := hu_of hr
  obtain ⟨t_PLACES_END, g_PLACES_END⟩ := T.g_PLACES_END
  have z_isinstance := T.z_isinstance
  obtain ⟨t_KINDS, g_KINDS, hK_KINDS⟩ := TK.g_KINDS
  have z_str := TR.z_str
  obtain ⟨wa, dw, wr, wv, n, lo, hi, kd, rfl, hwa, hwr, hlw, ok, q⟩ := h
  refine ⟨_, (pss_cons (ps_expr (pe_meth (pv 0) M_chk.c M_chk.m M_chk.G (hr.mono (by decide)) M_chk.b .nil pass0 (pa_cons (pv 1) pa_nil)))
    (pss_cons (ps_if (PW.pt (pw_or (pt_not (pt_val (pe_call F_betw.G (hr.mono (by decide)) (by rfl) F_betw.g F_betw.kp F_betw.b .nil pass0 (pa_cons (pv 3) (pa_cons pe_int (pa_cons (pe_op op_sub (pgI g_PLACES_END) pe_int) pa_nil)))))) (pw_or1 (pt_not (pt_val (pe_call F_betw.G (hr.mono (by decide)) (by rfl) F_betw.g F_betw.kp F_betw.b .nil pass0 (pa_cons (pv 2) (pa_cons pe_int (pa_cons (pv 3) pa_nil))))))))) pss_never pss_nil)
    (pss_cons (ps_if (PW.pt (pw_or (pt_not (pt_val (pe_callB call_isi (by rfl) z_isinstance (by decide +kernel) (pa_cons (pv 4) (pa_cons (pe_bltn (v := .ty "str") (u := .type "str") (by rfl) z_str (by decide +kernel) rfl) pa_nil))))) (pw_or1 (pt_cmpR op_notIn_seq (pv 4) (pgR g_KINDS) (by rfl))))) pss_never pss_nil)
    (pss_one (ps_asg (pe_tup (pa_cons (pv 2) (pa_cons (pv 3) (pa_cons (pv 4) pa_nil)))) (pg_sub (pe_fld (pv 0) rfl) (pv 1) set_list)))))), ?_⟩
  obtain ⟨h1, h2, h3, h4⟩ := ok
  refine ⟨_, rfl, wa, dw, _, rfl, hwa, wN_check_number, _, rfl, wa, n, rfl, h1.1, h1.2, ?_⟩
  refine ⟨_, rfl, _, _, rfl, rfl, _, _, _, rfl, ?_⟩
  refine ⟨_, rfl, ifN (fun h => absurd (of_decide_eq_false h) (fun z => z ⟨h2.1, by omega⟩)) (fun _ => ?_)⟩
  refine ⟨_, rfl, _, rfl, _, _, _, rfl, ?_⟩
  refine ⟨_, rfl, ifN (fun h => absurd (of_decide_eq_false h) (fun z => z h3)) (fun _ => ?_)⟩
  refine ⟨_, rfl, .str kd, .ty "str", _, _, true, rfl, .ty "str", .base (.str kd), kit_ty (by decide +kernel), _, rfl, ifN (fun h => by cases h) (fun _ => ?_)⟩
  refine ⟨_, rfl, t_KINDS, _, rfl, .inr (hK_KINDS _), rfl, rfl, _, rfl, ?_⟩
  rw [show (if true = true then !inV (V.str kd) (kdN.map V.str) else inV (V.str kd) (kdN.map V.str)) = !inV (V.str kd) (kdN.map V.str) from rfl, in_strs]
  refine ifN (fun h => absurd (of_decide_eq_false h) (fun z => z h4)) (fun _ => ?_)
  refine ⟨_, rfl, _, rfl, _, rfl, (by show 3 ≤ sizeLine; decide), fun t nt => ?_⟩
  have st := same_upd' (o := .tup [V.int lo, V.int hi, V.str kd]) nt
  refine ⟨_, rfl, wa, CW, dw, _, _, rfl, st _ _ hwa, T.cW, T.nW_rows, wF_rows, _, rfl, wr, _, _, _, rfl, rfl, st _ _ hwr, ixN_in h1.1 (by rw [hlw]; omega), ?_⟩
  exact q t nt
abbrev sMwatch : Stmt := inClass (topS 97) 16
def scMwatchN : List Str := ["self", "number", "low", "high", "kind"]
theorem scMwatch : FnScope scMwatchN ["self", "number", "low", "high", "kind"] (defScope sMwatch) := ⟨rfl, rfl, rfl, by decide +kernel, rfl, by decide +kernel, by decide +kernel⟩
theorem ok_Mwatch {f : Addr} {fd : FuncData} {fM_layw : Addr} {dM_layw : FuncData} (F : Fun K "watch" "Probe.watch" sMwatch f fd) (T : Ty K mg CB CM CP CK CW CF CH CC CI CS)
    (M_layw : CalM P w K mg base CW 4 "lay" ["self", "number", "low", "high", "kind"] (spLayW CW) fM_layw dM_layw) : FnOk P w K mg base CX0 5 f fd ["self", "number", "low", "high", "kind"] (spWatch CB CM CP CK CW CF CH CC CI) := by
  refine F.ok scMwatch (fun vs H Q E h => by obtain ⟨_, _, _, _, _, _, _, _, rfl, _⟩ := h; rfl) (fun cdv A outer s H vs Q E hr h => ?_)
  have hu := hu_of hr
  obtain ⟨S, F_, p, x, n, lo, hi, kd, rfl, Y, ok, k⟩ := h
  obtain ⟨⟨a, T0, D0, ma_, sa_, rfl, C⟩, N⟩ := Y
  obtain ⟨sv, tv, dv, hpb, hz⟩ := C.B.hp
  refine ⟨_, (pss_one (ps_expr (pe_meth (pe_fld (pv 0) rfl) M_layw.c M_layw.m M_layw.G (hr.mono (by decide)) M_layw.b .nil pass0 (pa_cons (pv 1) (pa_cons (pv 2) (pa_cons (pv 3) (pa_cons (pv 4) pa_nil))))))), ?_⟩
  have hlw : a.wv.length = 2 := C.wts.len.trans N.wa
  refine ⟨_, rfl, p, CP, a.dx, _, _, rfl, C.hp, T.cP, T.nP_watching, pF_watching, a.wa, a.dw, _, rfl, C.hwa, wN_lay, _, rfl, _, rfl, _, rfl, _, rfl, a.wa, a.dw, a.wr, a.wv, n, lo, hi, kd, rfl, C.hwa, C.hwr, hlw, ok, fun t nt => ?_⟩
  have st := same_upd' (o := .tup [V.int lo, V.int hi, V.str kd]) nt
  have C1 := C.same st
  have F1 : Fr (FtP p a) H (FtP p a) _ := Fr.of_same st
  have ht : upd H t (.tup [.int lo, .int hi, .str kd]) t = some (.tup [.int lo, .int hi, .str kd]) := upd_same
  generalize upd H t (.tup [.int lo, .int hi, .str kd]) = H1 at *
  have k1 : ∀ b o, b ≠ a.wr → H1 b = some o → upd H1 a.wr (.lst (a.wv.set n.toNat (.ref t))) b = some o := fun b o m e => by rw [upd_ne m]; exact e
  have tk : ∀ b xs, H1 b = some (.tup xs) → upd H1 a.wr (.lst (a.wv.set n.toNat (.ref t))) b = some (.tup xs) := fun b xs e => k1 b _ (fun z => by rw [z, C1.hwr] at e; cases e) e
  obtain ⟨C2, F2⟩ := C1.watches (wat' := x.wat.set n.toNat (some (lo, hi, kd))) k1 upd_same (WtAt.set (r := some (lo, hi, kd)) n.toNat (C1.wts.mono tk) ⟨t, rfl, tk _ _ ht⟩)
  exact k _ _ (F1.trans F2) ⟨⟨_, T0, D0, ma_, sa_, rfl, { C2 with }⟩, N.watch ok⟩
end
end Bh

/-! A probe: a mark set. -/
namespace Bh
open PySem PySem.Spec PyProof.Rows L2
def markM (a : Int) (h : Bool) (x : Pm) : Pm := if h = true then { x with hard := x.hard ++ [a] } else { x with b := { x.b with sw := x.b.sw ++ [a] }, n := x.n + 1 }
/-- a mark may be set there -/
def MarkOk (a : Int) (h : Bool) (hs sw : List Int) : Prop := 0 ≤ a ∧ a ≤ 767 ∧ a ∉ hs ∧ a ∉ sw ∧ (h = true → hs.length < 2)
theorem PrN.mark {x : Pm} (N : PrN x) {a : Int} {h : Bool} (ok : MarkOk a h x.hard x.b.sw) : PrN (markM a h x) := by
  obtain ⟨_, _, _, _, ok⟩ := ok
  unfold markM
  have hs := N.s
  have hr := N.r
  have hd := N.d
  have ht := N.t
  have hw := N.sw
  cases h with
  | true => exact ⟨N.s, N.r, N.h, N.d, N.t, N.nn, by show (x.hard ++ [a]).length ≤ 2; have := ok rfl; rw [List.length_append]; show x.hard.length + 1 ≤ 2; omega, N.sw, N.we, N.wa, N.wk⟩
  | false => exact ⟨by show x.b.sent.length ≤ 2 * (x.n + 1); omega, by show x.rows.length ≤ x.n + 1; omega, N.h, by show x.deeds.length ≤ x.n + 1; omega, by show x.spent.length ≤ x.n + 1; omega, { N.nn with }, N.hh, by show (x.b.sw ++ [a]).length ≤ x.n + 1; rw [List.length_append]; show x.b.sw.length + 1 ≤ _; omega, N.we, N.wa, N.wk⟩
def spLayM (CK CM : Addr) : Sp := fun vs H Q _ => ∃ (p dk m dm hd er ww s : Addr) (a : Int) (h : Bool) (hs sw : List Int), vs = [.ref p, .int a, .bl h] ∧ H p = some (.ins CK dk (mkF m hd er)) ∧ H hd = some (.dK (swD hs)) ∧ H m = some (.ins CM dm (mmF ww s)) ∧ H s = some (.dK (swD sw)) ∧ MarkOk a h hs sw ∧ hs.length ≤ 1000 ∧ sw.length ≤ 100000 ∧
  Q .non (if h = true then upd H hd (.dK (swD (hs ++ [a]))) else upd H s (.dK (swD (sw ++ [a]))))
def spMark (CB CM CP CK CW CF CH CC CI : Addr) : Sp := fun vs H Q _ => ∃ (S : Hp) (F : Addr → Prop) (p : Addr) (x : Pm) (a : Int) (h : Bool), vs = [.ref p, .int a, .bl h] ∧ PrA CB CM CP CK CW CF CH CC CI S H F p x ∧ MarkOk a h x.hard x.b.sw ∧ x.n < 90000 ∧
  ∀ H' F', Fr F H F' H' → PrA CB CM CP CK CW CF CH CC CI S H' F' p (markM a h x) → Q .non H'
section
variable {P : Program} {w : World} {K : PySem.W.Frag} {mg : Str → Option Value} {base : Heap} {CB CM CP CK CW CF CH CC CI CS : Addr}
abbrev sMlay : Stmt := inClass (topS 81) 3
def scMlayN : List Str := ["self", "address", "hard"]
theorem scMlay : FnScope scMlayN ["self", "address", "hard"] (defScope sMlay) := ⟨rfl, rfl, rfl, by decide +kernel, rfl, by decide +kernel, by decide +kernel⟩
theorem ok_Mlay {f : Addr} {fd : FuncData} {fF_betw : Addr} {dF_betw : FuncData} {fM_sta : Addr} {dM_sta : FuncData} (F : Fun K "lay" "Marks.lay" sMlay f fd) (T : Ty K mg CB CM CP CK CW CF CH CC CI CS)
    (F_betw : CalF P w K mg base 2 "is_between" ["thing", "least", "greatest"] (spBetw) fF_betw dF_betw)
    (M_sta : CalM P w K mg base CK 1 "stands_at" ["self", "address"] (spSta CK CM) fM_sta dM_sta)
    (TK : Tk K mg) : FnOk P w K mg base CX0 3 f fd ["self", "address", "hard"] (spLayM CK CM) := by
  refine F.ok scMlay (fun vs H Q E h => by obtain ⟨_, _, _, _, _, _, _, _, _, _, _, _, rfl, _⟩ := h; rfl) (fun cdv A outer s H vs Q E hr h => ?_)
  have hu := hu_of hr
  obtain ⟨t_RAM_END, g_RAM_END⟩ := T.g_RAM_END
  have z_len := T.z_len
  obtain ⟨t_HARD_MOST, g_HARD_MOST⟩ := TK.g_HARD_MOST
  obtain ⟨p, dk, m, dm, hd, er, ww, s_, a_, h_, hs, sw, rfl, hp, hhd, hm, hss, ok, lh, ls, k⟩ := h
  refine ⟨_, (pss_cons (ps_if (pt_not (pt_val (pe_call F_betw.G (hr.mono (by decide)) (by rfl) F_betw.g F_betw.kp F_betw.b .nil pass0 (pa_cons (pv 1) (pa_cons pe_int (pa_cons (pe_op op_sub (pgI g_RAM_END) pe_int) pa_nil)))))) pss_never pss_nil)
    (pss_cons (ps_if (pt_val (pe_meth (pv 0) M_sta.c M_sta.m M_sta.G (hr.mono (by decide)) M_sta.b .nil pass0 (pa_cons (pv 1) pa_nil))) pss_never pss_nil)
    (pss_cons (ps_if (pt_not (pt_val (pv 2))) (pss_cons (ps_dput hu (pe_fld (pe_fld (pv 0) rfl) rfl) (pv 1) pe_bl rfl)
    (pss_one ps_retN)) pss_nil)
    (pss_cons (ps_if (pt_cmpR op_ge (pe_callB call_lenD (by rfl) z_len PySem.boot_len (pa_cons (pe_fld (pv 0) rfl) pa_nil)) (pgI g_HARD_MOST) (nomark _)) pss_never pss_nil)
    (pss_one (ps_dput hu (pe_fld (pv 0) rfl) (pv 1) pe_bl rfl)))))), ?_⟩
  obtain ⟨a0, a1, nh, ns, hl⟩ := ok
  refine ⟨_, rfl, _, _, rfl, rfl, _, _, _, rfl, ?_⟩
  refine ⟨_, rfl, ifN (fun h => absurd (of_decide_eq_false h) (fun z => z ⟨a0, by omega⟩)) (fun _ => ?_)⟩
  refine ⟨_, rfl, p, dk, _, rfl, hp, kN_stands_at, _, rfl, p, dk, m, dm, hd, er, ww, s_, a_, hs, sw, rfl, hp, hhd, hm, hss, ?_⟩
  rw [decide_eq_false nh, decide_eq_false ns]
  refine ⟨_, rfl, ifB (fun h => by cases h) (fun _ => ?_)⟩
  refine ⟨_, rfl, _, rfl, ?_⟩
  cases h_ with
  | false =>
    refine ifN (fun _ => ?_) (fun h => by cases h)
    refine ⟨_, rfl, p, CK, dk, _, _, rfl, hp, T.cK, T.nK_memory, kF_memory, m, CM, dm, _, _, rfl, hm, T.cM, T.n_swapped, mF_s, _, rfl, s_, _, rfl, DPut.k (k := Sum.inl a_) hss (by rw [swD_len]; exact Nat.lt_of_le_of_lt ls (by decide)), ?_⟩
    rw [swD_put ns]
    exact k
  | true =>
    refine ifN (fun h => by cases h) (fun _ => ?_)
    refine ⟨_, rfl, p, CK, dk, _, _, rfl, hp, T.cK, T.nK_hard, kF_hard, hd, _, rfl, hhd, ?_⟩
    rw [swD_len]
    have h2 := hl rfl
    refine ⟨_, _, rfl, rfl, _, rfl, ifB (fun h => absurd (of_decide_eq_true h) (by omega)) (fun _ => ?_)⟩
    refine ⟨_, rfl, p, CK, dk, _, _, rfl, hp, T.cK, T.nK_hard, kF_hard, _, rfl, hd, _, rfl, DPut.k (k := Sum.inl a_) hhd (by rw [swD_len]; exact Nat.lt_of_le_of_lt lh (by decide)), ?_⟩
    rw [swD_put nh]
    exact k
abbrev sMmark : Stmt := inClass (topS 97) 11
def scMmarkN : List Str := ["self", "address", "hard"]
theorem scMmark : FnScope scMmarkN ["self", "address", "hard"] (defScope sMmark) := ⟨rfl, rfl, rfl, by decide +kernel, rfl, by decide +kernel, by decide +kernel⟩
theorem ok_Mmark {f : Addr} {fd : FuncData} {fM_lay : Addr} {dM_lay : FuncData} (F : Fun K "mark" "Probe.mark" sMmark f fd) (T : Ty K mg CB CM CP CK CW CF CH CC CI CS)
    (M_lay : CalM P w K mg base CK 3 "lay" ["self", "address", "hard"] (spLayM CK CM) fM_lay dM_lay) : FnOk P w K mg base CX0 4 f fd ["self", "address", "hard"] (spMark CB CM CP CK CW CF CH CC CI) := by
  refine F.ok scMmark (fun vs H Q E h => by obtain ⟨_, _, _, _, _, _, rfl, _⟩ := h; rfl) (fun cdv A outer s H vs Q E hr h => ?_)
  have hu := hu_of hr
  obtain ⟨S, F_, p, x, i, h_, rfl, Y, ok, hn, k⟩ := h
  obtain ⟨⟨a, T0, D0, ma_, sa_, rfl, C⟩, N⟩ := Y
  obtain ⟨sv, tv, dv, hpb, hz⟩ := C.B.hp
  refine ⟨_, (pss_one (ps_expr (pe_meth (pe_fld (pv 0) rfl) M_lay.c M_lay.m M_lay.G (hr.mono (by decide)) M_lay.b .nil pass0 (pa_cons (pv 1) (pa_cons (pv 2) pa_nil))))), ?_⟩
  have NS := N.mark ok
  have nh := N.hh
  have nw := N.sw
  refine ⟨_, rfl, p, CP, a.dx, _, _, rfl, C.hp, T.cP, T.nP_standing, pF_standing, a.st, a.dk, _, rfl, C.hst, kN_lay, _, rfl, _, rfl, a.st, a.dk, ((x.mas ma_ sa_).tvd T0 D0).b.ma, a.A.dm, a.hd, a.er, a.A.w, a.A.s, i, h_, x.hard, x.b.sw, rfl, C.hst, C.hhd, (by rw [← C.B.am]; exact C.B.hm), C.B.hs, ok, by omega, by omega, ?_⟩
  cases h_ with
  | true =>
    obtain ⟨C1, F1⟩ := C.hards (hs := x.hard ++ [i])
    exact k _ _ F1 ⟨⟨_, T0, D0, ma_, sa_, rfl, { C1 with }⟩, NS⟩
  | false =>
    have B1 := C.B.swp (sw := x.b.sw ++ [i])
    obtain ⟨C1, F1⟩ := C.boardB B1 (Fr.upd (.inr (.inr (.inr (.inr (.inr (.inl rfl))))))) rfl
    exact k _ _ F1 ⟨⟨_, T0, D0, ma_, sa_, rfl, { C1 with }⟩, NS⟩
end
end Bh

/-! Where no word is swapped, none comes turned about, no mark stands and no watch is set. -/
namespace Bh
open PySem PySem.Spec PyProof.Rows L2
def readsP (m : List Int) (ts : List (Bool × Int)) : List Int := (ts.filter fun t => !t.1).map fun t => rd m t.2
theorem reads_nil (m : List Int) (pc : Int) (ts : List (Bool × Int)) : readsM m [] pc ts = readsP m ts := by
  unfold readsM readsP
  apply List.map_congr_left
  intro t _
  unfold rdS
  exact if_neg fun z => by cases z.1
theorem putTM_nil {x : Bd} (h : x.sw = []) (a v : Int) : putTM a v x = putWM a v x := by
  have e : ({ x with sw := x.sw.filter fun i => decide (i ≠ a) } : Bd) = x := by
    rw [h]
    cases x
    simp only at h
    subst h
    rfl
  unfold putTM
  rw [e]
def doP (op : Nat) (n : Int) (ws : List Int) (x : Bd) : Bd :=
  match op with
  | 1 => giveM n x
  | 2 => giveM (ws.getD 0 0) x
  | 3 => putWM n x.a x
  | 4 => giveM ((x.a + ws.getD 0 0) % 65536) x
  | 5 => giveM ((x.a - ws.getD 0 0) % 65536) x
  | 6 => giveM (Builtin.bitAnd x.a (ws.getD 0 0)) x
  | 7 => giveM (Builtin.bitXor x.a (ws.getD 0 0)) x
  | 8 => giveM (ws.getD 0 0) x
  | 9 => putWM (n + x.b) x.a x
  | 10 => { x with b := x.a }
  | 11 => { giveM x.b x with b := x.a }
  | 12 => { x with pc := n }
  | 13 => if x.zero = true then { x with pc := n } else x
  | 14 => if 32768 ≤ x.a then { x with pc := n } else x
  | 15 => { putWM x.sp x.pc x with sp := x.sp - 1, pc := n }
  | 16 => { x with sp := x.sp + 1, pc := ws.getD 0 0 }
  | 17 => { putWM x.sp x.a x with sp := x.sp - 1 }
  | 18 => giveM (ws.getD 0 0) { x with sp := x.sp + 1 }
  | 19 => { x with asleep := true }
  | 20 => { x with lets := decide (n % 2 = 1) }
  | 21 => { x with sp := x.sp + 2, zero := decide (ws.getD 0 0 % 2 = 1), pc := ws.getD 1 0, lets := true }
  | 22 => giveM (x.a / 2) x
  | _ => x
theorem doM_P {x : Bd} (h : x.sw = []) (op : Nat) (n : Int) (ws : List Int) : doM op n ws x = doP op n ws x := by
  have e := putTM_nil h
  unfold doM doP
  simp only [e] <;> rfl
def doneP (x : Bd) : Bd := passM (1 + (toM x).length) (doP (opM x) (xM x) (readsP x.mem (toM x)) { x with pc := x.pc + 1 })
theorem bend0 {l : List Int} : bendW 0 l = l := by
  cases l with
  | nil => rfl
  | cons w r =>
    show Builtin.bitXor w 0 :: r = _
    rw [bitXor_zero]
theorem doneM_P {x : Bd} (h : x.sw = []) (hb : x.bend = 0) : doneM x = doneP x := by
  have e1 : bentM x = x.bend := by
    unfold bentM
    split
    · rfl
    · exact hb.symm
  have e2 : wordsM x = readsP x.mem (toM x) := by
    unfold wordsM rawM
    rw [hb, h, bend0, reads_nil]
  unfold doneM doneP
  rw [e1, e2]
  exact congrArg _ (doM_P (x := { x with pc := x.pc + 1 }) h _ _ _)
def begunP (x : Bd) : Bd :=
  passM 3 { putWM (x.sp - 1) (b2n x.zero) (putWM x.sp x.pc x) with sp := x.sp - 2, lets := false, pc := if Builtin.bitAnd (calledM x) 1 ≠ 0 then 1 else 2 }
theorem begunM_P {x : Bd} (h : x.sw = []) : begunM x = begunP x := by
  show passM 3 { putTM (x.sp - 1) (b2n x.zero) (putTM x.sp x.pc x) with sp := x.sp - 2, lets := false, pc := if Builtin.bitAnd (calledM x) 1 ≠ 0 then 1 else 2 } = _
  rw [putTM_nil h, putTM_nil (by rw [(put_sw x.sp x.pc x).1]; exact h)]
  rfl
structure Calm (x : Pm) : Prop where
  h : x.hard = []
  s : x.b.sw = []
  w : x.wat = [none, none]
  b : x.b.bend = 0
theorem turn_sw0 {x : Bd} (h : x.sw = []) : (turnM x).2.sw = [] := by
  have := turn_sw x
  rw [h] at this
  exact List.sublist_nil.mp this
theorem Calm.note {x : Pm} (c : Calm x) : Calm (noteTM x).2 := by
  have e1 := turn_sw0 c.s
  have e2 := turn_bend c.b
  unfold noteTM
  show Calm (if (turnM x.b).1 = "stopped" then { x with b := (turnM x.b).2, n := x.n + 1 } else passedM x)
  split
  · exact ⟨c.h, e1, c.w, e2⟩
  · exact ⟨c.h, e1, c.w, e2⟩
theorem met_calm (ts : List (Bool × Int)) : metM [none, none] ts = none := by
  induction ts with
  | nil => rfl
  | cons t r ih =>
    unfold metM
    have e : hitM t 0 [none, none] = none := rfl
    rw [e]
    exact ih
theorem meets_calm {x : Pm} (c : Calm x) : meetsM x = false := by
  unfold meetsM standsM
  rw [c.h, c.s]
  rfl
/-- one turn with its end, no watch set -/
def passT6 (e : En) (x : Pm) : Cz × En × Pm :=
  match (noteTM x).2.b.stop with
  | some s => (.stop s, e, (noteTM x).2)
  | none => (if e.comes (noteTM x).1 x.rows.length (noteTM x).2.rows.length = true then .done else .none, e.step (noteTM x).1 x.rows.length, (noteTM x).2)
def runP6 : Nat → En → Pm → Cz × En × Pm
  | 0, e, x => (.none, e, x)
  | n + 1, e, x => match (passT6 e x).1 with
    | .none => runP6 n (passT6 e x).2.1 (passT6 e x).2.2
    | c => (c, (passT6 e x).2)
def goP6 (m : Int) (e : En) (x : Pm) : Cz × En × Pm :=
  match x.b.stop with
  | some s => if 0 < m then (.stop s, e, x) else (.none, e, x)
  | none => runP6 m.toNat e x
theorem pass_calm {x : Pm} (c : Calm x) (e : En) : passT e x = passT6 e x ∧ Calm (passT e x).2.2 := by
  have h := c.note
  unfold passT passT6
  rw [c.w, met_calm]
  cases (noteTM x).2.b.stop with
  | some s => exact ⟨rfl, h⟩
  | none => exact ⟨rfl, h⟩
theorem goP_calm {x : Pm} (c : Calm x) (m : Int) (e : En) : goP noPk m e x = ⟨(goP6 m e x).1, (goP6 m e x).2.1, (goP6 m e x).2.2, []⟩ ∧ Calm (goP6 m e x).2.2 := by
  have hr : ∀ (n i : Nat) (e : En) (x : Pm), Calm x → runP noPk n i e x = ⟨(runP6 n e x).1, (runP6 n e x).2.1, (runP6 n e x).2.2, []⟩ ∧ Calm (runP6 n e x).2.2 := by
    intro n
    induction n with
    | zero => exact fun i e x c => ⟨rfl, c⟩
    | succ n ih =>
      intro i e x c
      obtain ⟨h1, h2⟩ := pass_calm c e
      rw [h1] at h2
      have em : ¬ (0 < i ∧ meetsM (peekAll (noPk i) x) = true) := fun z => by
        have z2 : meetsM x = true := z.2
        rw [meets_calm c] at z2
        cases z2
      unfold runP runP6
      rw [if_neg em, show peekAll (noPk i) x = x from rfl, show peekWords (noPk i) x = [] from rfl, h1]
      dsimp only
      cases hc : (passT6 e x).1 with
      | none =>
        obtain ⟨a, b⟩ := ih (i + 1) (passT6 e x).2.1 (passT6 e x).2.2 h2
        dsimp only
        rw [a]
        exact ⟨rfl, b⟩
      | stop s => exact ⟨rfl, h2⟩
      | done => exact ⟨rfl, h2⟩
      | watch r => exact ⟨rfl, h2⟩
      | mark pc => exact ⟨rfl, h2⟩
  unfold goP goP6
  cases x.b.stop with
  | some s =>
    dsimp only
    by_cases h : 0 < m
    · rw [if_pos h, if_pos h]
      exact ⟨rfl, c⟩
    · rw [if_neg h, if_neg h]
      exact ⟨rfl, c⟩
  | none => exact hr _ 0 e x c
theorem goP6_N {x : Pm} (N : PrN x) (c : Calm x) (m : Int) (e : En) : PrN (goP6 m e x).2.2 ∧ (goP6 m e x).2.2.n ≤ x.n + m.toNat := by
  have h := goP_N N noPk m e
  rw [(goP_calm c m e).1, pkN_no] at h
  exact h
theorem newP_calm (ws : List Int) (ls : List (Int × Int)) : Calm (newP ws ls) := ⟨rfl, rfl, rfl, rfl⟩
end Bh

/-! {elt for target in iter if ..}, elt an int (after the library's rule for truth values). -/
namespace Bh
open PySem PySem.Spec PyProof.Rows L2 PpSet
section
variable {X : Cx}
theorem addI_ok {pins : List (Addr × Obj)} {σ : L2.St} {H : Hp} {s : Shared} {E : Value → Shared → Prop} {D : Addr} {S : Int → Bool} {n : Nat} {y : Int} {t : Tok} {Q : Value → Shared → Prop} (I : Inv X pins σ H s) (hD : H D = some (SetO X.w D S n)) (room : n + 1 < scanBound)
    (h : ∀ s', Inv X pins σ (upd H D (SetO X.w D (fun j => S j || decide (j = y)) (if S y = true then n else n + 1))) s' → Q .none s') : wpAny (model X.prog X.w) X.A (call (.builtin "set.add") [.ref D, .int y t]) Q E s := by
  refine setR_add (setO_get I hD) room fun h' sb new => ?_
  have he : ∃ u, h'.get? D = some u := by
    have ⟨o, _, _, _, ho, _⟩ := new
    exact ⟨o, ho⟩
  exact h _ (I.write (e := D) (t' := s.toks + 1) (by rw [hD]; trivial) (.inl rfl) (fun b u hb hu => (sb.2 b hb).trans hu) he (setO_new new))
/-- what is known while the set D grows -/
abbrev SiGo (w : World) (J : It) (g : TG) (tt : TT) (te : TE) (vs : List Nat) (σ : L2.St) (D : Addr) (Q : VK) (W : Nat → Nat → Hp → Prop) (i m : Nat) (H : Hp) : Prop :=
  (J.stop i H ∧ Q (.ref D) H) ∨ (J.go i H ∧ ∃ Nx : Hp → Prop, (∀ H', Nx H' → ∃ m', m' < m ∧ W (i + 1) m' H') ∧ ∀ x H', J.yld i H x H' → g x (wipe σ vs) H' fun σ2 H2 => wipe σ2 vs = wipe σ vs ∧ tt σ2 H2 fun b H3 =>
    if b = true then te σ2 H3 fun y H4 => ∃ (c : Int) (S : Int → Bool) (n : Nat), y = .int c ∧ H4 D = some (SetO w D S n) ∧ n + 1 < scanBound ∧ Nx (upd H4 D (SetO w D (fun j => S j || decide (j = c)) (if S c = true then n else n + 1))) else Nx H3)
def tSi (w : World) (wi : TI) (g : TG) (tt : TT) (te : TE) (vs : List Nat) : TE := fun σ H Q => wi σ H fun J H1 => ∀ D, H1 D = none → ∃ W : Nat → Nat → Hp → Prop, (∃ m, W 0 m (upd H1 D (SetO w D (fun _ => false) 0))) ∧ ∀ i m H, W i m H → SiGo w J g tt te vs σ D Q W i m H
theorem sci_core {pins : List (Addr × Obj)} {s : Shared} {σ : L2.St} {H : Hp} {Q : VK} {elt tg iter : Expr} {ifs : List Expr} {scope : Scope} {own : List (PySem.Str × Nat)} {pos pos' : Pos} {wi : TI} {g : TG} {tt : TT} {te : TE} {use : Option (Value → Sem Unit)} {Qf : Value → Shared → Prop}
    (hc : X.calm = true) (hN : X.N.Nodup) (I : Inv X pins σ H s) (hi : PI X tg iter wi) (ok : BlkOk X.N X.env.scope scope own)
    (hg : ∀ (s : Shared) (H : Hp) (C : Addr) (cl : List (PySem.Str × Addr)) (fp : List Addr), PG (X.blk s H scope (compEnvC scope cl C X.env) fp) tg g) (ht : ∀ (s : Shared) (H : Hp) (C : Addr) (cl : List (PySem.Str × Addr)) (fp : List Addr), PTs (X.blk s H scope (compEnvC scope cl C X.env) fp) ifs tt)
    (he : ∀ (s : Shared) (H : Hp) (C : Addr) (cl : List (PySem.Str × Addr)) (fp : List Addr), PE (X.blk s H scope (compEnvC scope cl C X.env) fp) elt te) (hs : ∀ x, foldedSetIterable iter X.env x = pure x)
    (h : tSi X.w wi g tt te (own.map (·.2)) σ H Q)
    (hRR : ∀ D C s' m H', Inv X pins σ H' s' → Q (.ref D) H' → s'.heap.Ns C m → FpOk X pins H' C → compPost (model X.prog X.w) X.A X.xe use Qf (.ref D) C (.ok .next) s') :
    wpAny (model X.prog X.w) X.A (comprehension (.SetComp elt [⟨tg, iter, ifs, 0⟩] scope pos) scope X.env pos' (newSet (.type "set")) false (eval iter X.env) use) Qf X.xe s := by
  have hfree : ∀ y ∈ scope.names, y.2 = .free → ∃ c, X.env.cells.lookup y.1 = some c := fun y hy e => by
    rcases ok.free y hy e with k | k
    · exact I.ok.has _ (.inl k)
    · exact I.ok.has _ (.inr k)
  refine wpAny_comprehension_free (use := use) rfl hs (closure_ok hfree) ok.kind (fun y hy e => by rw [ok.uniq y hy, e])
    (thn (hi.run pins s σ H _ I h) fun xv s1 hx => thn hx fun itv s2 h2 => ?_)
  obtain ⟨it, fp, tn, J, H2, e, I2, T, st2, f2, q⟩ := h2
  subst e
  refine newSet_ok (newEnv_comp ?_)
  generalize hD : s2.heap.objs.size = D
  have hDn : H2 D = none := I2.hok.fresh (Nat.le_of_eq hD)
  obtain ⟨W, ⟨m0, w0⟩, turn⟩ := q D hDn
  -- the new list
  generalize hs3 : ({ s2 with heap := s2.heap.push { cls := .type "set", dict := none, data := .set #[] 0 (.fresh 0 0 (!X.w.params.followText "set-order")) } } : Shared) = s3
  have I3 : Inv X pins σ (upd H2 D (SetO X.w D (fun _ => false) 0)) s3 := by
    rw [← hs3]
    refine I2.laid (t' := s2.toks) (fun b o e => Heap.get?_push_of_some _ e) (Nat.le_of_eq hD) ?_
    rw [← hD]
    exact setO_new (setR_fresh X.w)
  have h3 : s3.heap = s2.heap.push { cls := .type "set", dict := none, data := .set #[] 0 (.fresh 0 0 (!X.w.params.followText "set-order")) } := by rw [← hs3]
  have sz : ∀ b ∈ fp, b < s2.heap.objs.size := fun b hb => by
    obtain ⟨o, e, _⟩ := T.obj _ _ st2 b hb
    exact Heap.lt_size e
  have f3 : ∀ b ∈ fp, FpOk X pins (upd H2 D (SetO X.w D (fun _ => false) 0)) b ∧ b < s3.heap.objs.size := fun b hb => by
    have hlt := sz b hb
    refine ⟨⟨?_, (f2 b hb).2⟩, by rw [h3, Heap.size_push]; exact Nat.lt_succ_of_lt hlt⟩
    rw [upd_ne (by rw [← hD]; exact Nat.ne_of_lt hlt)]
    exact (f2 b hb).1
  have st3 : tn 0 s3.heap := T.keep _ _ _ st2 fun b _ o e => by rw [h3]; exact Heap.get?_push_of_some _ e
  have I4 := block_start I3 ok hN f3
  have pg := hg s3 (upd H2 D (SetO X.w D (fun _ => false) 0)) s3.heap.objs.size (cellsFrom (s3.heap.objs.size + 1) scope.names (cloFrom X.env.cells scope.names [])) fp
  have pt := ht s3 (upd H2 D (SetO X.w D (fun _ => false) 0)) s3.heap.objs.size (cellsFrom (s3.heap.objs.size + 1) scope.names (cloFrom X.env.cells scope.names [])) fp
  have pe := he s3 (upd H2 D (SetO X.w D (fun _ => false) 0)) s3.heap.objs.size (cellsFrom (s3.heap.objs.size + 1) scope.names (cloFrom X.env.cells scope.names [])) fp
  show codeAny _ _ (.compStart (.SetComp elt [⟨tg, iter, ifs, 0⟩] scope pos) 0 (.ref it) (.ref D) (compEnvC scope (cellsFrom (s3.heap.objs.size + 1) scope.names (cloFrom X.env.cells scope.names [])) s3.heap.objs.size X.env)) (compPost (model X.prog X.w) X.A X.xe use Qf (.ref D) s3.heap.objs.size) { s3 with heap := pushCells (s3.heap.push { cls := .type "dict", data := .dict #[] }) scope.names }
  have nfp : ∀ b ∈ fp, (upd H2 D (SetO X.w D (fun _ => false) 0)) b = none := fun b hb => (f3 b hb).1.1
  generalize hce : compEnvC scope (cellsFrom (s3.heap.objs.size + 1) scope.names (cloFrom X.env.cells scope.names [])) s3.heap.objs.size X.env = ce at I4 pg pt pe ⊢
  have cL : ce.locals = s3.heap.objs.size := by subst hce; rfl
  generalize hH3 : upd H2 D (SetO X.w D (fun _ => false) 0) = H3 at I3 I4 pg pt pe w0 nfp f3
  generalize hs4 : ({ s3 with heap := pushCells (s3.heap.push { cls := .type "dict", data := .dict #[] }) scope.names } : Shared) = s4 at I4 ⊢
  have st4 : tn 0 s4.heap := T.keep _ _ _ st3 fun b _ o e => by rw [← hs4]; exact pushCells_keeps _ _ _ _ (Heap.get?_push_of_some _ e)
  have stat : ∀ {σ' : L2.St} {H' : Hp} {s' : Shared}, Inv (X.blk s3 H3 scope ce fp) [] σ' H' s' → (∀ b ∈ fp, H' b = none) → ∀ b ∈ fp, FpOk (X.blk s3 H3 scope ce fp) [] H' b := fun {σ' H' s'} I' hn b hb =>
    ⟨hn b hb, (I'.ok.exf b hb).1, I'.ok.exfs b hb, .inl hb, fun x c e => (I'.ok.exf b hb).2 x c e, fun p hp => absurd (show p ∈ ([] : List (Addr × Obj)) ++ [] from hp) (by simp)⟩
  have loop : codeAny (model X.prog X.w) X.A (.compLoop (.SetComp elt [⟨tg, iter, ifs, 0⟩] scope pos) 0 (.ref it) (.ref D) ce) (compPost (model X.prog X.w) X.A X.xe use Qf (.ref D) s3.heap.objs.size) s4 := by
    refine compLoopS_any (fun n s' => ∃ i H', Inv (X.blk s3 H3 scope ce fp) [] (wipe σ (own.map (·.2))) H' s' ∧ tn i s'.heap ∧ (∀ b ∈ fp, H' b = none) ∧ W i n H') ?_ m0 ⟨0, H3, I4, st4, nfp, w0⟩
    rintro n s5 ⟨i, H5, I5, st5, n5, w5⟩
    rcases turn i n H5 w5 with ⟨stop, qq⟩ | ⟨go, Nx, hNx, step⟩
    · have td := T.done (X.blk s3 H3 scope ce fp) rfl rfl rfl hc i [] s5 _ H5 (fun _ _ => False) I5 (stat I5 n5) st5 stop
      refine thnF td fun r s6 ⟨hr, I6⟩ => ?_
      subst hr
      -- back in the def's context
      have I7 : Inv X pins σ H5 s6 := I3.call' (ch := fp) I6.os I6.base I6.hok I6.bare fun b hb => ⟨(f3 b hb).1.2.2.2.1, (f3 b hb).1.2.1, (f3 b hb).1.2.2.2.2.1, (f3 b hb).1.2.2.2.2.2⟩
      have nC : H5 s3.heap.objs.size = none := by
        have z : H5 ce.locals = none := I6.free
        rw [cL] at z
        exact z
      obtain ⟨m, hn, _⟩ := I6.loc
      have hn : s6.heap.Ns ce.locals m := hn
      rw [cL] at hn
      exact hRR D s3.heap.objs.size s6 m H5 I7 qq hn (I3.fpOk (Nat.le_refl _) nC)
    · have ti := T.item (X.blk s3 H3 scope ce fp) rfl rfl rfl hc i [] s5 _ H5 (fun _ _ => False) I5 (stat I5 n5) st5 go
      refine thnF ti fun r s6 ⟨u, hr, h6⟩ => ?_
      subst hr
      refine thnF h6 fun _ s7 ⟨x, H7, I7, r7, y7, st7, n7⟩ => ?_
      have I7' := I7.pinned (stat I7 n7) (T.obj _ _ st7)
      refine thnF (pg.run _ s7 _ H7 x u _ I7' r7 (step x H7 y7)) fun _ s8 ⟨σ8, H8, I8, hw8, q8⟩ => ?_
      refine thnF (pt.run _ s8 σ8 H8 _ I8 q8) fun b s9 ⟨H9, I9, q9⟩ => ?_
      -- the turn's end
      have fin : ∀ {s' : Shared} {H' : Hp}, Inv (X.blk s3 H3 scope ce fp) ([] ++ pinsAt fp s7.heap) σ8 H' s' → Nx H' → ∃ m, m < n ∧ ∃ i H', Inv (X.blk s3 H3 scope ce fp) [] (wipe σ (own.map (·.2))) H' s' ∧ tn i s'.heap ∧ (∀ b ∈ fp, H' b = none) ∧ W i m H' := fun {s' H'} I' nx => by
        obtain ⟨m', hm, w'⟩ := hNx H' nx
        have pin' : ∀ b ∈ fp, ∀ o, s7.heap.get? b = some o → s'.heap.get? b = some o ∧ H' b = none := fun b hb o e =>
          let z := I'.pin (b, o) (List.mem_append_right _ (List.mem_append_right _ (mem_pinsAt hb e)))
          ⟨z.1, z.2.1⟩
        have hl : (wipe σ (own.map (·.2))).length = σ8.length := by rw [← hw8, wipe_length]
        refine ⟨m', hm, i + 1, H', (I'.unpinned (pins := [])).weak hl (fun j v e => ?_), T.keep _ _ _ st7 fun b hb o e => (pin' b hb o e).1, fun b hb => ?_, w'⟩
        · rw [← hw8] at e
          exact (wipe_some e).1
        · obtain ⟨o, e, _⟩ := T.obj _ _ st7 b hb
          exact (pin' b hb o e).2
      cases b with
      | false =>
        simp only [Bool.false_eq_true, if_false] at q9 ⊢
        exact fin I9 q9
      | true =>
        simp only [if_true] at q9 ⊢
        refine thnF (pe.run _ s9 σ8 H9 _ I9 q9) fun z s10 ⟨yv, H10, I10, r10, cb, S0, n0, ey, hD10, hz10, nx⟩ => ?_
        subst ey
        obtain ⟨tz, ez⟩ := r10
        subst ez
        exact addI_ok (X := X.blk s3 H3 scope ce fp) I10 hD10 hz10 fun s11 I11 => fin I11 nx
  exact codeAny_compStart_set loop (T.self X.A 0 _ _ _ st4 loop)
/-- as a value -/
theorem pe_sci {elt tg iter : Expr} {ifs : List Expr} {scope : Scope} {own : List (PySem.Str × Nat)} {pos : Pos} {wi : TI} {g : TG} {tt : TT} {te : TE} (hc : X.calm = true) (hN : X.N.Nodup) (hi : PI X tg iter wi) (ok : BlkOk X.N X.env.scope scope own)
    (hg : ∀ (s : Shared) (H : Hp) (C : Addr) (cl : List (PySem.Str × Addr)) (fp : List Addr), PG (X.blk s H scope (compEnvC scope cl C X.env) fp) tg g) (ht : ∀ (s : Shared) (H : Hp) (C : Addr) (cl : List (PySem.Str × Addr)) (fp : List Addr), PTs (X.blk s H scope (compEnvC scope cl C X.env) fp) ifs tt)
    (he : ∀ (s : Shared) (H : Hp) (C : Addr) (cl : List (PySem.Str × Addr)) (fp : List Addr), PE (X.blk s H scope (compEnvC scope cl C X.env) fp) elt te) (hs : ∀ x, foldedSetIterable iter X.env x = pure x := by intro _; rfl) :
    PE X (.SetComp elt [⟨tg, iter, ifs, 0⟩] scope pos) (tSi X.w wi g tt te (own.map (·.2))) := by
  refine ⟨fun pins s σ H Q I h => ?_⟩
  rw [eval_SetComp]
  refine sci_core hc hN I hi ok hg ht he hs h fun D C s' m H' I' q hn f => ⟨m, hn, fun h'' sb => ?_⟩
  obtain ⟨f0, f1, f2, f3, f4, f5⟩ := f
  exact ⟨.ref D, H', I'.turned (t' := s'.toks) (fun b o hb e => (sb.2 b hb).trans e) f0 f1 f3 f4 f5, rfl, q⟩
end

/-- over a list that the block leaves as it is -/
theorem sci_list {w : World} {K : PySem.W.Frag} {a : Addr} {xs : List V} {g : TG} {tt : TT} {te : TE} {vs : List Nat} {σ : L2.St} {H1 : Hp} {D : Addr} {Q : VK} (Pv : Nat → Hp → Prop) (h0 : Pv 0 (upd H1 D (SetO w D (fun _ => false) 0))) (hl : ∀ i H, i ≤ xs.length → Pv i H → SqL K H a xs)
    (hs : ∀ i x H, xs[i]? = some x → Pv i H → g x (wipe σ vs) H fun σ2 H2 => wipe σ2 vs = wipe σ vs ∧ tt σ2 H2 fun b H3 =>
      if b = true then te σ2 H3 fun y H4 => ∃ (c : Int) (S : Int → Bool) (n : Nat), y = .int c ∧ H4 D = some (SetO w D S n) ∧ n + 1 < scanBound ∧ Pv (i + 1) (upd H4 D (SetO w D (fun j => S j || decide (j = c)) (if S c = true then n else n + 1))) else Pv (i + 1) H3) (hd : ∀ H, Pv xs.length H → Q (.ref D) H) :
    ∃ W : Nat → Nat → Hp → Prop, (∃ m, W 0 m (upd H1 D (SetO w D (fun _ => false) 0))) ∧ ∀ i m H, W i m H → SiGo w (Itl K a) g tt te vs σ D Q W i m H := by
  refine ⟨fun i m H => m = xs.length - i ∧ i ≤ xs.length ∧ Pv i H, ⟨xs.length, rfl, Nat.zero_le _, h0⟩, ?_⟩
  rintro i m H ⟨rfl, hi, p⟩
  have q := hl i H hi p
  rcases Nat.lt_or_ge i xs.length with c | c
  · exact .inr ⟨⟨xs, xs[i], q, List.getElem?_eq_getElem c⟩, Pv (i + 1), fun H' p' => ⟨xs.length - (i + 1), by omega, rfl, c, p'⟩, fun x H' y => by
      obtain ⟨rfl, y⟩ := y
      exact hs i x _ (y xs q) p⟩
  · obtain rfl := Nat.le_antisymm hi c
    exact .inl ⟨⟨xs, q, Nat.le_refl _⟩, hd H p⟩
end Bh

/-! sorted of rows of an int and a text, any number of them. -/
namespace Bh
open PySem PySem.Spec PyProof.Rows L2
def shIS : Nat → Bool := fun i => i == 1
/-- sorted(xs), xs a list of rows of an int and a text (k says which): a new list of the same rows, the first int never falling -/
def rSortedIS (K : PySem.W.Frag) : List V → Hp → VK → Prop := fun vs H Q => ∃ (a : Addr) (xs : List V) (k : V → Int × Str), vs = [V.ref a] ∧ SqL K H a xs ∧ (∀ x ∈ xs, ∃ t, x = V.ref t ∧ H t = some (.tup [.int (k x).1, .str (k x).2])) ∧
  ∀ ys p, ys.Perm xs → List.Pairwise (fun u v => (k u).1 ≤ (k v).1) ys → H p = none → Q (.ref p) (upd H p (.lst ys))
theorem lex_headIS {a a' : Int} {b b' : List Nat} (h : (PyProof.Rows.G.tupKindC default shIS).kle [Sum.inl a, Sum.inr b] [Sum.inl a', Sum.inr b']) : a ≤ a' := by
  have h2 : PyProof.Rows.lexLt itemOrd [Sum.inl a', Sum.inr b'] [Sum.inl a, Sum.inr b] = false := h
  have h3 : decide (a' < a) = false := by
    cases e : decide (a' < a)
    · rfl
    · have : PyProof.Rows.lexLt itemOrd [Sum.inl a', Sum.inr b'] [Sum.inl a, Sum.inr b] = true := by
        unfold PyProof.Rows.lexLt
        have e2 : itemLt (Sum.inl a') (Sum.inl a) = true := e
        simp [e2]
      rw [this] at h2
      cases h2
  have := of_decide_eq_false h3
  omega
section
variable {X : Cx}
theorem cr_sortedIS : CallR X (.builtin "sorted") (rSortedIS X.K) := by
  intro pins s σ H vs us Q I r h
  obtain ⟨a, xs, k, rfl, hs, hx, q⟩ := h
  obtain ⟨its, rv, hl, hz⟩ := I.list hs
  obtain ⟨u, rfl, ru⟩ := vals1 r
  obtain rfl : u = Value.ref a := ru
  obtain ⟨e1, e2⟩ := refs_back rv fun x m => by
    obtain ⟨t, e, _⟩ := hx x m
    exact ⟨t, e⟩
  have tupAt : ∀ v ∈ its, ∃ b o t1 t2 n, v = .ref b ∧ s.heap.get? b = some o ∧ o.cls = .type "tuple" ∧ o.data = .seq #[.int (k (backV v)).1 t1, .str (k (backV v)).2 t2] n := fun v hv => by
    obtain ⟨t, rfl⟩ := e2 v hv
    have hm : V.ref t ∈ xs := by rw [e1]; exact List.mem_map.mpr ⟨_, hv, rfl⟩
    obtain ⟨t', e, ht⟩ := hx _ hm
    cases e
    obtain ⟨_, its2, r2, o, ho, hc, n, hd⟩ := I.hok _ _ ht
    cases r2 with
    | cons r1 r2 =>
      cases r2 with
      | cons r3 r2 =>
        cases r2
        obtain ⟨t1, rfl⟩ := r1
        obtain ⟨t2, rfl⟩ := r3
        exact ⟨t, o, t1, t2, n, rfl, ho, hc, hd⟩
  have key : ∀ v ∈ its, PyProof.Rows.G.tupKeyC s.heap shIS v = some [Sum.inl (k (backV v)).1, Sum.inr (k (backV v)).2.cps.toList] := fun v hv => by
    obtain ⟨b, o, t1, t2, n, rfl, ho, hc, hd⟩ := tupAt v hv
    have hi : PyProof.Rows.G.isTupObj s.heap (.ref b) = true := by
      unfold PyProof.Rows.G.isTupObj
      dsimp only
      rw [ho]
      dsimp only
      rw [hc]
      rfl
    unfold PyProof.Rows.G.tupKeyC
    rw [if_pos hi]
    unfold tupKey
    dsimp only
    rw [ho]
    dsimp only
    rw [hd]
    rfl
  have tups : ∀ vs : List Value, (∀ v ∈ vs, v ∈ its) → ∃ fs, TupsOf s.heap shIS vs fs := by
    intro vs
    induction vs with
    | nil => exact fun _ => ⟨[], .nil⟩
    | cons v r ih =>
      intro hm
      obtain ⟨fs, hf⟩ := ih fun u hu => hm u (List.mem_cons_of_mem _ hu)
      obtain ⟨b, o, t1, t2, n, e, ho, hc, hd⟩ := tupAt v (hm v List.mem_cons_self)
      exact ⟨_, .cons ⟨b, o, _, n, e, ho, hc, hd, rfl, (fun _ => ⟨_, _, rfl⟩), (fun z => by cases z)⟩ hf⟩
  obtain ⟨fs, hf⟩ := tups its fun v h => h
  have hzl : its.length ≤ sizeLine := by rw [← rv.length]; exact hz
  refine PyProof.Rows.G.sorted_tups hl.isList hf (fun v hv => ⟨_, key v hv⟩) hzl fun st' hp hs2 _ => ?_
  obtain ⟨ep, he'⟩ := PyProof.Rows.sortedAll_at s.heap its ((arrOf st').map (·.2))
  have pz : (arrOf st').toList.Perm (its.zip its) := by
    have := hp.toList
    rwa [pairsOf_toList] at this
  have hself : ∀ p ∈ (arrOf st').toList, p.1 = p.2 ∧ p.1 ∈ its := fun p hpm => mem_zip_self (pz.mem_iff.mp hpm)
  have pout : ((arrOf st').map (·.2)).toList.Perm its := by
    rw [Array.toList_map]
    have := pz.map (·.2)
    have e : (its.zip its).map (·.2) = its := by
      rw [List.map_snd_zip (Nat.le_refl _)]
    rwa [e] at this
  have h3 : ∀ u ∈ ((arrOf st').map (·.2)).toList, ∃ a, u = Value.ref a := fun u hu => e2 u (pout.mem_iff.mp hu)
  have pys : (((arrOf st').map (·.2)).toList.map backV).Perm xs := by
    rw [e1]
    exact pout.map backV
  have srt : List.Pairwise (fun u v => (k u).1 ≤ (k v).1) (((arrOf st').map (·.2)).toList.map backV) := by
    rw [Array.toList_map, List.map_map, List.pairwise_map, List.pairwise_iff_getElem]
    intro i j hi hj hij
    have hsz : (arrOf st').size = (pairsOf its).size := hp.size_eq
    have hi' : i < (arrOf st').size := by rw [← Array.length_toList]; exact hi
    have hj' : j < (arrOf st').size := by rw [← Array.length_toList]; exact hj
    have hk := hs2 i j (Nat.le_of_lt hij) (by rw [← hsz]; exact hj')
    have kk : ∀ m (hm : m < (arrOf st').size), KK (PyProof.Rows.G.tupKindC s.heap shIS) (arrOf st') m = [Sum.inl (k (backV (arrOf st')[m].2)).1, Sum.inr (k (backV (arrOf st')[m].2)).2.cps.toList] := fun m hm => by
      unfold KK
      rw [Array.getElem?_eq_getElem hm]
      have hmem : (arrOf st')[m] ∈ (arrOf st').toList := by rw [Array.mem_toList_iff]; exact Array.getElem_mem hm
      obtain ⟨h1, h2⟩ := hself _ hmem
      show (PyProof.Rows.G.tupKeyC s.heap shIS (arrOf st')[m].1).getD [] = _
      rw [key _ h2, h1]
      rfl
    rw [kk i hi', kk j hj'] at hk
    have := lex_headIS hk
    simpa using this
  refine ⟨.ref (s.heap.objs.size + 1), upd H (s.heap.objs.size + 1) (.lst (((arrOf st').map (·.2)).toList.map backV)), I.laid (t' := s.toks) (fun _ _ => PyProof.Rows.sortedAll_old) (Nat.le_succ _) ⟨?_, _, ep, vals_back h3, ?_⟩, rfl, q _ _ pys srt (I.hok.fresh (Nat.le_succ _))⟩
  · rw [pys.length_eq]
    exact hz
  · exact he'
end
/-- rows sorted: the same, the first never falling -/
def SortedR (out rows : List (Int × Str)) : Prop := out.Perm rows ∧ out.Pairwise fun u v => u.1 ≤ v.1
theorem SortedR.uniq {rows : List (Int × Str)} (nd : (rows.map (·.1)).Nodup) : ∀ {a b : List (Int × Str)}, SortedR a rows → SortedR b rows → a = b := by
  suffices h : ∀ (a b : List (Int × Str)), (a.map (·.1)).Nodup → a.Perm b → a.Pairwise (fun u v => u.1 ≤ v.1) → b.Pairwise (fun u v => u.1 ≤ v.1) → a = b by
    rintro a b ⟨pa, sa⟩ ⟨pb, sb⟩
    exact h a b ((pa.map (·.1)).nodup_iff.mpr nd) (pa.trans pb.symm) sa sb
  intro a
  induction a with
  | nil => exact fun b _ p _ _ => (List.nil_perm.mp p).symm
  | cons x a ih =>
    intro b n p sa sb
    cases b with
    | nil => exact absurd (List.Perm.length_eq p) (by simp)
    | cons y b =>
      obtain ⟨sa1, sa2⟩ := List.pairwise_cons.mp sa
      obtain ⟨sb1, sb2⟩ := List.pairwise_cons.mp sb
      have hx : x ∈ y :: b := p.mem_iff.mp List.mem_cons_self
      have hy : y ∈ x :: a := p.mem_iff.mpr List.mem_cons_self
      have e : x = y := by
        rcases List.mem_cons.mp hx with z | z
        · exact z
        · rcases List.mem_cons.mp hy with z2 | z2
          · exact z2.symm
          · have h1 := sb1 x z
            have h2 := sa1 y z2
            have h3 : x.1 = y.1 := by omega
            rw [List.map_cons] at n
            refine absurd ?_ (List.nodup_cons.mp n).1
            rw [h3]
            exact List.mem_map.mpr ⟨y, z2, rfl⟩
      subst e
      rw [List.map_cons] at n
      rw [ih b (List.nodup_cons.mp n).2 (List.Perm.cons_inv p) sa2 sb2]
end Bh

/-! Marks told, pages worn: the pure part and the heap's. -/
namespace Bh
open PySem PySem.Spec PyProof.Rows L2
/-! ### rows of marks -/
/-- a row of an int and a text -/
def RwAt (H : Hp) (v : V) (r : Int × Str) : Prop := ∃ t, v = .ref t ∧ H t = some (.tup [.int r.1, .str r.2])
theorem RwAt.mono {H H' : Hp} (k : ∀ t xs, H t = some (.tup xs) → H' t = some (.tup xs)) {us : List V} {rows : List (Int × Str)} (h : Paired (RwAt H) us rows) : Paired (RwAt H') us rows := by
  induction h with
  | nil => exact .nil
  | cons h _ ih => exact .cons (let ⟨t, e, q⟩ := h; ⟨t, e, k _ _ q⟩) ih
theorem paired_app {α β : Type} {F : α → β → Prop} {a b : List α} {c d : List β} (h : Paired F a c) (h2 : Paired F b d) : Paired F (a ++ b) (c ++ d) := by
  induction h with
  | nil => exact h2
  | cons h _ ih => exact .cons h ih
def rwOf (H : Hp) : V → Int × Str
  | .ref t => match H t with
    | some (.tup [.int a, .str s]) => (a, s)
    | _ => (0, "")
  | _ => (0, "")
theorem rw_of {H : Hp} {us : List V} {rows : List (Int × Str)} (h : Paired (RwAt H) us rows) : us.map (rwOf H) = rows ∧ ∀ v ∈ us, ∃ t, v = .ref t ∧ H t = some (.tup [.int (rwOf H v).1, .str (rwOf H v).2]) := by
  induction h with
  | nil => exact ⟨rfl, fun _ z => by cases z⟩
  | cons h _ ih =>
    obtain ⟨t, rfl, e⟩ := h
    obtain ⟨e1, f⟩ := ih
    have e2 : ∀ r : Int × Str, H t = some (.tup [.int r.1, .str r.2]) → rwOf H (.ref t) = r := fun r q => by
      unfold rwOf
      dsimp only
      rw [q]
    refine ⟨by rw [List.map_cons, e1, e2 _ e], fun v hv => ?_⟩
    rcases List.mem_cons.mp hv with z | z
    · rw [z, e2 _ e]
      exact ⟨t, rfl, e⟩
    · exact f v z
theorem rw_pair {H : Hp} : ∀ us : List V, (∀ v ∈ us, ∃ t, v = .ref t ∧ H t = some (.tup [.int (rwOf H v).1, .str (rwOf H v).2])) → Paired (RwAt H) us (us.map (rwOf H))
  | [], _ => .nil
  | u :: us, h => .cons (h u List.mem_cons_self) (rw_pair us fun v hv => h v (List.mem_cons_of_mem _ hv))
/-- the list of rows while it is made -/
structure RowsSt (H : Hp) (d : Addr) (od : Obj) (l : List Int) (D : Addr) (nm : Str) (i : Nat) (H' : Hp) : Prop where
  hd : H' d = some (.frz od (.dK (swD l)))
  kp : ∀ b o, b ≠ d → H b = some o → H' b = some o
  us : ∃ us, H' D = some (.lst us) ∧ Paired (RwAt H') us ((l.take i).map fun a => (a, nm))
  nd : D ≠ d
  fD : H D = none
theorem rows_start {H : Hp} {d D : Addr} {od : Obj} {l : List Int} {nm : Str} (nD : upd H d (.frz od (.dK (swD l))) D = none) : RowsSt H d od l D nm 0 (upd (upd H d (.frz od (.dK (swD l)))) D (.lst [])) := by
  have n : D ≠ d := fun z => by rw [z, upd_same] at nD; cases nD
  have nD2 := nD
  rw [upd_ne n] at nD2
  exact {
    hd := by rw [upd_ne n.symm]; exact upd_same
    kp := fun b o nb e => by rw [upd_ne (fun z => by rw [z, nD2] at e; cases e), upd_ne nb]; exact e
    us := ⟨[], upd_same, .nil⟩
    nd := n
    fD := nD2 }
theorem rows_step {H H' : Hp} {d D T : Addr} {od : Obj} {l : List Int} {nm : Str} {i : Nat} {a : Int} (R : RowsSt H d od l D nm i H') (ha : l[i]? = some a) (nT : H' T = none) :
    ∃ acc, (upd H' T (.tup [.int a, .str nm])) D = some (.lst acc) ∧ acc.length = (l.take i).length ∧ RowsSt H d od l D nm (i + 1) (upd (upd H' T (.tup [.int a, .str nm])) D (.lst (acc ++ [.ref T]))) := by
  obtain ⟨us, hD, pu⟩ := R.us
  have tD : D ≠ T := fun z => by rw [z, nT] at hD; cases hD
  have k1 := same_upd' (o := .tup [V.int a, V.str nm]) nT
  have kt : ∀ t xs, H' t = some (.tup xs) → (upd (upd H' T (.tup [.int a, .str nm])) D (.lst (us ++ [.ref T]))) t = some (.tup xs) := fun t xs e => by
    rw [upd_ne (fun z => by rw [z, hD] at e; cases e)]
    exact k1 _ _ e
  refine ⟨us, k1 _ _ hD, by rw [Paired.length pu, List.length_map], ?_⟩
  exact {
    hd := by rw [upd_ne R.nd.symm]; exact k1 _ _ R.hd
    kp := fun b o nb e => by
      rw [upd_ne (fun z => by rw [z, R.fD] at e; cases e)]
      exact k1 _ _ (R.kp b o nb e)
    us := ⟨us ++ [.ref T], upd_same, by
      rw [List.take_succ, ha, List.map_append]
      exact paired_app (RwAt.mono kt pu) (.cons ⟨T, rfl, by rw [upd_ne tD.symm]; exact upd_same⟩ .nil)⟩
    nd := R.nd
    fD := R.fD }
theorem rows_end {H H' : Hp} {d D : Addr} {od : Obj} {l : List Int} {nm : Str} (R : RowsSt H d od l D nm l.length H') (hd : H d = some (.dK (swD l))) :
    Same H (upd H' d (.dK (swD l))) ∧ H D = none ∧ ∃ us, (upd H' d (.dK (swD l))) D = some (.lst us) ∧ Paired (RwAt (upd H' d (.dK (swD l)))) us (l.map fun a => (a, nm)) := by
  obtain ⟨us, hD, pu⟩ := R.us
  rw [List.take_length] at pu
  refine ⟨fun b o e => ?_, R.fD, us, by rw [upd_ne R.nd]; exact hD, RwAt.mono (fun t xs e => ?_) pu⟩
  · by_cases z : b = d
    · rw [z, hd] at e
      rw [z, upd_same]
      exact e
    · rw [upd_ne z]
      exact R.kp b o z e
  · rw [upd_ne (fun z => by rw [z, R.hd] at e; cases e)]
    exact e
theorem swD_at {l : List Int} {i : Nat} {k : Key} {v : V} (h : (swD l)[i]? = some (k, v)) : ∃ a, l[i]? = some a ∧ k = Sum.inl a := by
  unfold swD at h
  rw [List.getElem?_map] at h
  cases e : l[i]? with
  | none => rw [e] at h; cases h
  | some a => rw [e] at h; cases h; exact ⟨a, rfl, rfl⟩
def rowsL (hs sw : List Int) : List (Int × Str) := (hs.map fun a => (a, ("hard" : Str))) ++ sw.map fun a => (a, ("soft" : Str))
theorem rowsL_fst (hs sw : List Int) : (rowsL hs sw).map (·.1) = hs ++ sw := by
  unfold rowsL
  rw [List.map_append, List.map_map, List.map_map]
  congr 1 <;> exact List.map_id _
/-! ### pages -/
/-- how often each page is worn when the words at as are given back at once -/
def pgIn (as : List Int) (p : Int) : Bool := as.any fun a => decide (a < 512) && decide (a / 32 = p)
def wearM (we as : List Int) : List Int := we.mapIdx fun j c => c + if pgIn as (j : Int) = true then 1 else 0
def bumpL (we : List Int) (ps : List Int) : List Int := ps.foldl (fun u p => u.set p.toNat (u.getD p.toNat 0 + 1)) we
theorem bumpL_len : ∀ (ps we : List Int), (bumpL we ps).length = we.length
  | [], _ => rfl
  | p :: ps, we => (bumpL_len ps _).trans (List.length_set ..)
theorem bumpL_snoc (we ps : List Int) (p : Int) : bumpL we (ps ++ [p]) = (bumpL we ps).set p.toNat ((bumpL we ps).getD p.toNat 0 + 1) := by
  unfold bumpL
  rw [List.foldl_append]
  rfl
theorem bumpL_at : ∀ (ps we : List Int), ps.Nodup → (∀ p ∈ ps, 0 ≤ p ∧ p < we.length) → ∀ j : Nat, j < we.length → (bumpL we ps).getD j 0 = we.getD j 0 + if (j : Int) ∈ ps then 1 else 0
  | [], we, _, _, j, _ => by
    show we.getD j 0 = _
    rw [if_neg List.not_mem_nil]
    omega
  | p :: ps, we, nd, h, j, hj => by
    obtain ⟨n1, n2⟩ := List.nodup_cons.mp nd
    have hp := h p List.mem_cons_self
    have ih := bumpL_at ps (we.set p.toNat (we.getD p.toNat 0 + 1)) n2 (fun q hq => by rw [List.length_set]; exact h q (List.mem_cons_of_mem _ hq)) j (by rw [List.length_set]; exact hj)
    show (bumpL (we.set p.toNat (we.getD p.toNat 0 + 1)) ps).getD j 0 = _
    rw [ih, List.getD_eq_getElem?_getD, List.getElem?_set]
    by_cases e : p.toNat = j
    · have e2 : (j : Int) = p := by omega
      rw [if_pos e, if_pos (by omega), e2, if_neg n1, if_pos List.mem_cons_self]
      subst e
      show we.getD p.toNat 0 + 1 + 0 = _
      omega
    · have e2 : ¬ (j : Int) = p := by omega
      rw [if_neg e, ← List.getD_eq_getElem?_getD]
      by_cases z : (j : Int) ∈ ps
      · rw [if_pos z, if_pos (List.mem_cons_of_mem _ z)]
      · rw [if_neg z, if_neg (fun q => (List.mem_cons.mp q).elim e2 z)]
theorem pgIn_iff {as : List Int} {p : Int} : pgIn as p = true ↔ ∃ a ∈ as, a < 512 ∧ a / 32 = p := by
  unfold pgIn
  rw [List.any_eq_true]
  constructor
  · rintro ⟨a, ha, e⟩
    rw [Bool.and_eq_true] at e
    exact ⟨a, ha, of_decide_eq_true e.1, of_decide_eq_true e.2⟩
  · rintro ⟨a, ha, e1, e2⟩
    exact ⟨a, ha, by rw [decide_eq_true e1, decide_eq_true e2]; rfl⟩
theorem bump_wear {we as ps : List Int} (nd : ps.Nodup) (hl : we.length = 16) (h : ∀ p, p ∈ ps ↔ ∃ a ∈ as, a < 512 ∧ a / 32 = p) (ha : ∀ a ∈ as, 0 ≤ a ∧ a ≤ 767) : bumpL we ps = wearM we as := by
  have hb : ∀ p ∈ ps, 0 ≤ p ∧ p < we.length := fun p hp => by
    obtain ⟨a, h1, h2, h3⟩ := (h p).mp hp
    have := ha a h1
    omega
  apply List.ext_getElem
  · rw [bumpL_len]
    unfold wearM
    rw [List.length_mapIdx]
  · intro j h1 h2
    have hj : j < we.length := by rwa [bumpL_len] at h1
    have e := bumpL_at ps we nd hb j hj
    rw [List.getD_eq_getElem?_getD, List.getElem?_eq_getElem h1, List.getD_eq_getElem?_getD, List.getElem?_eq_getElem hj] at e
    have e : (bumpL we ps)[j] = we[j] + if (j : Int) ∈ ps then 1 else 0 := e
    have e3 : (wearM we as)[j] = we[j] + if pgIn as (j : Int) = true then 1 else 0 := List.getElem_mapIdx ..
    rw [e, e3]
    by_cases z : (j : Int) ∈ ps
    · rw [if_pos z, if_pos (pgIn_iff.mpr ((h _).mp z))]
    · rw [if_neg z, if_neg (fun q => z ((h _).mpr (pgIn_iff.mp q)))]
theorem wearM_len (we as : List Int) : (wearM we as).length = we.length := List.length_mapIdx ..
theorem filt_len : ∀ (a : Int) (l : List Int), l.Nodup → l.length ≤ (l.filter fun x => decide (x ≠ a)).length + 1
  | a, [], _ => Nat.zero_le _
  | a, x :: l, nd => by
    obtain ⟨n1, n2⟩ := List.nodup_cons.mp nd
    by_cases e : x = a
    · subst e
      have q : l.filter (fun y => decide (y ≠ x)) = l := List.filter_eq_self.mpr fun y hy => decide_eq_true fun z => n1 (z ▸ hy)
      rw [List.filter_cons, if_neg (by rw [decide_eq_false (fun z => z rfl)]; decide), q]
      exact Nat.le_refl _
    · have ih := filt_len a l n2
      rw [List.filter_cons, if_pos (decide_eq_true e), List.length_cons, List.length_cons]
      omega
theorem few_len : ∀ (n : Nat) (l : List Int), l.Nodup → (∀ x ∈ l, 0 ≤ x ∧ x < n) → l.length ≤ n
  | 0, [], _, _ => Nat.le_refl _
  | 0, x :: l, _, h => by have := h x List.mem_cons_self; omega
  | n + 1, l, nd, h => by
    have q := filt_len (n : Int) l nd
    have r := few_len n (l.filter fun x => decide (x ≠ (n : Int))) (nd.filter _) fun x hx => by
      obtain ⟨h1, h2⟩ := List.mem_filter.mp hx
      have h2 := of_decide_eq_true h2
      have := h x h1
      omega
    omega
/-- the set of pages while it grows: after i addresses -/
structure PgSt (w : World) (H : Hp) (D : Addr) (as : List Int) (i : Nat) (H' : Hp) : Prop where
  kp : Same H H'
  st : ∃ ps : List Int, H' D = some (SetO w D (fun j => decide (j ∈ ps)) ps.length) ∧ ps.Nodup ∧ ps.length ≤ 16 ∧ ∀ p, p ∈ ps ↔ ∃ a ∈ as.take i, a < 512 ∧ a / 32 = p
  fD : H D = none
theorem pg_start {w : World} {H : Hp} {D : Addr} {as : List Int} (nD : H D = none) : PgSt w H D as 0 (upd H D (SetO w D (fun _ => false) 0)) :=
  ⟨same_upd' nD, ⟨[], by rw [upd_same]; congr 2 <;> exact (by funext j; simp), List.nodup_nil, by decide, fun p => ⟨fun z => (by cases z), fun ⟨a, z, _⟩ => (by cases z)⟩⟩, nD⟩
theorem pg_skip {w : World} {H H' : Hp} {D : Addr} {as : List Int} {i : Nat} {a : Int} (R : PgSt w H D as i H') (ha : as[i]? = some a) (h : ¬ a < 512) : PgSt w H D as (i + 1) H' := by
  obtain ⟨kp, ⟨ps, h1, h2, h3, h4⟩, f⟩ := R
  refine ⟨kp, ⟨ps, h1, h2, h3, fun p => (h4 p).trans ⟨fun ⟨b, hb, e⟩ => ⟨b, by rw [List.take_succ, ha]; exact List.mem_append_left _ hb, e⟩, fun ⟨b, hb, e1, e2⟩ => ?_⟩⟩, f⟩
  rw [List.take_succ, ha] at hb
  rcases List.mem_append.mp hb with z | z
  · exact ⟨b, z, e1, e2⟩
  · have : b = a := by simpa using z
    omega
theorem pg_step {w : World} {H H' : Hp} {D : Addr} {as : List Int} {i : Nat} {a : Int} (R : PgSt w H D as i H') (ha : as[i]? = some a) (h : a < 512) (hr : ∀ b ∈ as, 0 ≤ b ∧ b ≤ 767) :
    ∃ (S : Int → Bool) (n : Nat), H' D = some (SetO w D S n) ∧ n + 1 < scanBound ∧ PgSt w H D as (i + 1) (upd H' D (SetO w D (fun j => S j || decide (j = a / 32)) (if S (a / 32) = true then n else n + 1))) := by
  obtain ⟨kp, ⟨ps, h1, h2, h3, h4⟩, f⟩ := R
  refine ⟨_, _, h1, by unfold scanBound; omega, fun b o e => by rw [upd_ne (fun z => by rw [z, f] at e; cases e)]; exact kp b o e, ?_, f⟩
  have tk : as.take (i + 1) = as.take i ++ [a] := by rw [List.take_succ, ha]; rfl
  by_cases c : a / 32 ∈ ps
  · refine ⟨ps, ?_, h2, h3, fun p => (h4 p).trans ⟨fun ⟨b, hb, e⟩ => ⟨b, by rw [tk]; exact List.mem_append_left _ hb, e⟩, fun ⟨b, hb, e1, e2⟩ => ?_⟩⟩
    · rw [upd_same, if_pos (decide_eq_true c)]
      congr 2
      funext j
      by_cases z : j = a / 32
      · rw [z, decide_eq_true c]; rfl
      · rw [decide_eq_false z, Bool.or_false]
    · rw [tk] at hb
      rcases List.mem_append.mp hb with z | z
      · exact ⟨b, z, e1, e2⟩
      · have : b = a := by simpa using z
        subst this
        rw [e2] at c
        exact (h4 p).mp c
  · have nd2 : (ps ++ [a / 32]).Nodup := by
      rw [List.nodup_append]
      exact ⟨h2, by simp, fun x hx y hy => by
        have : y = a / 32 := by simpa using hy
        rw [this]
        exact fun z => c (z ▸ hx)⟩
    have mem : ∀ p, p ∈ ps ++ [a / 32] ↔ ∃ b ∈ as.take (i + 1), b < 512 ∧ b / 32 = p := fun p => by
      rw [tk]
      constructor
      · intro z
        rcases List.mem_append.mp z with z | z
        · obtain ⟨b, hb, e⟩ := (h4 p).mp z
          exact ⟨b, List.mem_append_left _ hb, e⟩
        · have : p = a / 32 := by simpa using z
          exact ⟨a, List.mem_append_right _ (List.mem_singleton.mpr rfl), h, this.symm⟩
      · rintro ⟨b, hb, e1, e2⟩
        rcases List.mem_append.mp hb with z | z
        · exact List.mem_append_left _ ((h4 p).mpr ⟨b, z, e1, e2⟩)
        · have : b = a := by simpa using z
          subst this
          exact List.mem_append_right _ (List.mem_singleton.mpr e2.symm)
    refine ⟨ps ++ [a / 32], ?_, nd2, few_len 16 _ nd2 fun x hx => ?_, mem⟩
    · rw [upd_same, if_neg (by rw [decide_eq_false c]; decide), List.length_append]
      congr 2
      funext j
      rw [Bool.eq_iff_iff, Bool.or_eq_true, decide_eq_true_eq, decide_eq_true_eq, decide_eq_true_eq, List.mem_append, List.mem_singleton]
    · obtain ⟨b, hb, e1, e2⟩ := (mem x).mp hx
      have := hr b (List.mem_of_mem_take hb)
      omega
/-- xs[i], 0 ≤ i: what is got ahead of an augmented store -/
def rGetL (K : PySem.W.Frag) : V → V → Hp → VK → Prop := fun x y H Q => ∃ p xs i v, x = .ref p ∧ y = .int i ∧ 0 ≤ i ∧ SqL K H p xs ∧ xs[i.toNat]? = some v ∧ Q v H
theorem get_listN {X : Cx} : PGet X (rGetL X.K) := by
  intro pins s σ H o i ov iv Q I ro ri h
  obtain ⟨p, xs, k, z, rfl, rfl, h0, hq, he, q⟩ := h
  cases ro
  obtain ⟨t, rfl⟩ := ri
  obtain ⟨its, r, pl, hz⟩ := I.list hq
  obtain ⟨w, ew, rw'⟩ := r.get he
  have hn := line63
  have hk : k.toNat < xs.length := (List.getElem?_eq_some_iff.mp he).1
  exact wpAny_getItem_list pl.isList h0 (by omega) (by simpa using ew) ⟨z, H, I, rw', q⟩
end Bh

/-! Marks: set, lifted, told; refusals. -/
namespace Bh
open PySem PySem.Spec PyProof.Rows L2
/-- the classes of refusals of marks -/
structure Tm (K : PySem.W.Frag) (mg : Str → Option Value) (CN CL CT CO : Addr) : Prop where
  gN : mg "NoWord" = some (.ref CN)
  kN : PySem.W.keepIn K (.ref CN) = true
  xN : PySem.W.excIn K CN [.type "ValueError", .type "Exception", .type "BaseException", .type "object"] "ValueError.__new__" = true
  bN : PySem.W.subIn K (.ref CN) (.type "BaseException") = some true
  tN : PySem.W.typeIn K (.ref CN) = some (.type "type")
  gL : mg "NoMark" = some (.ref CL)
  kL : PySem.W.keepIn K (.ref CL) = true
  xL : PySem.W.excIn K CL [.type "ValueError", .type "Exception", .type "BaseException", .type "object"] "ValueError.__new__" = true
  bL : PySem.W.subIn K (.ref CL) (.type "BaseException") = some true
  tL : PySem.W.typeIn K (.ref CL) = some (.type "type")
  gT : mg "Taken" = some (.ref CT)
  kT : PySem.W.keepIn K (.ref CT) = true
  xT : PySem.W.excIn K CT [.type "ValueError", .type "Exception", .type "BaseException", .type "object"] "ValueError.__new__" = true
  bT : PySem.W.subIn K (.ref CT) (.type "BaseException") = some true
  tT : PySem.W.typeIn K (.ref CT) = some (.type "type")
  gO : mg "TooMany" = some (.ref CO)
  kO : PySem.W.keepIn K (.ref CO) = true
  xO : PySem.W.excIn K CO [.type "ValueError", .type "Exception", .type "BaseException", .type "object"] "ValueError.__new__" = true
  bO : PySem.W.subIn K (.ref CO) (.type "BaseException") = some true
  tO : PySem.W.typeIn K (.ref CO) = some (.type "type")
section
variable (P : Program) (w : World) (K : PySem.W.Frag) (mg : Str → Option Value) (base : Heap)
structure CalX (C : Addr) (k : Nat) (nm : Str) (ps : List Str) (sp : Sp) (f : Addr) (fd : FuncData) : Prop where
  c : Cls K C
  m : Meth K C nm f
  b : Binds K fd ps []
  G : FnOk P w K mg base (L2.CX P w) k f fd ps sp
end
section
variable {CB CM CP CK CW CF CH CC CI : Addr} {S H H' : Hp} {p : Addr} {a : Ap} {x : Pm}
theorem PrC.worn (C : PrC CB CM CP CK CW CF CH CC CI S H p a x) {we : List Int} (k : ∀ b o, b ≠ a.er → H b = some o → H' b = some o) (he : H' a.er = some (.lst (we.map V.int))) : PrC CB CM CP CK CW CF CH CC CI S H' p a { x with wear := we } ∧ Fr (FtP p a) H (FtP p a) H' := by
  obtain ⟨s, kb, t, ko, f⟩ := C.kOwn (l := [10]) (H' := H') (fun b o n e => k b o (fun z => n 10 (by decide) (by rw [z]; rfl)) e)
  exact ⟨{ C with
    sm := s
    hp := ko 0 _ _ (by decide) rfl C.hp
    B := C.B.keep kb t
    hfr := ko 1 _ _ (by decide) rfl C.hfr
    hfl := ko 2 _ _ (by decide) rfl C.hfl
    rows := C.rows.mono t
    hhi := ko 3 _ _ (by decide) rfl C.hhi
    hhl := ko 4 _ _ (by decide) rfl C.hhl
    hist := C.hist.mono t
    hco := ko 5 _ _ (by decide) rfl C.hco
    hcd := ko 6 _ _ (by decide) rfl C.hcd
    deeds := C.deeds.mono t
    hcf := ko 7 _ _ (by decide) rfl C.hcf
    hst := ko 8 _ _ (by decide) rfl C.hst
    hhd := ko 9 _ _ (by decide) rfl C.hhd
    her := he
    hwa := ko 11 _ _ (by decide) rfl C.hwa
    hwr := ko 12 _ _ (by decide) rfl C.hwr
    wts := C.wts.mono t }, f⟩
end
theorem Bp.newS {CB CM : Addr} {H : Hp} {p : Addr} {A : Ad} {ts ls : List V} {x : Bd} (h : BdOn CB CM H p A ts ls x) {q : Addr} (nq : H q = none) : BdOn CB CM (upd (upd H q (.dK [])) A.m (.ins CM A.dm (mmF A.w q))) p { A with s := q } ts ls { x with sw := [] } := by
  obtain ⟨sv0, tv0, dv0, hp, hz⟩ := h.hp
  have kp : ∀ b o, b ≠ A.m → H b = some o → (upd (upd H q (.dK [])) A.m (.ins CM A.dm (mmF A.w q))) b = some o := fun b o n e => by
    rw [upd_ne n, upd_ne (fun z => by rw [z, nq] at e; cases e)]
    exact e
  have qm : q ≠ A.m := fun z => by rw [z, h.hm] at nq; cases nq
  exact {
    sm := fun b o e => by cases e
    fp := rfl
    fr := rfl
    fw := rfl
    ft := rfl
    fm := rfl
    fs := rfl
    fl := rfl
    hp := ⟨sv0, tv0, dv0, kp _ _ h.pm hp, hz.mono fun t xs e => kp _ _ (ne_of e h.hm (by intro z; cases z)) e⟩
    hr := kp _ _ (ne_of h.hr h.hm (by intro z; cases z)) h.hr
    hm := upd_same
    hw := kp _ _ (ne_of h.hw h.hm (by intro z; cases z)) h.hw
    hs := by rw [upd_ne qm]; exact upd_same
    ht := kp _ _ (ne_of h.ht h.hm (by intro z; cases z)) h.ht
    hl := kp _ _ (ne_of h.hl h.hm (by intro z; cases z)) h.hl
    pm := h.pm
    rs := fun z => by
      have e := h.hr
      rw [show A.r = q from z, nq] at e
      cases e
    wt := h.wt
    wl := h.wl
    tl := h.tl
    am := h.am
    us := h.us.mono fun t xs e => kp _ _ (ne_of e h.hm (by intro z; cases z)) e
    ll := h.ll.mono fun t xs e => kp _ _ (ne_of e h.hm (by intro z; cases z)) e
    lm := h.lm }
theorem Bp.newS_fr {CB CM : Addr} {H : Hp} {p : Addr} {A : Ad} {ts ls : List V} {x : Bd} (h : BdOn CB CM H p A ts ls x) {q : Addr} (nq : H q = none) : Fr (FtB p A) H (FtB p { A with s := q }) (upd (upd H q (.dK [])) A.m (.ins CM A.dm (mmF A.w q))) :=
  ⟨fun b o n e => by
    rw [upd_ne (fun z => n (.inr (.inr (.inr (.inr (.inl z)))))), upd_ne (fun z => by rw [z, nq] at e; cases e)]
    exact e, fun b z => by
    rcases z with z | z | z | z | z | z | z
    · exact .inl (.inl z)
    · exact .inl (.inr (.inl z))
    · exact .inl (.inr (.inr (.inl z)))
    · exact .inl (.inr (.inr (.inr (.inl z))))
    · exact .inl (.inr (.inr (.inr (.inr (.inl z)))))
    · rw [z]; exact .inr nq
    · exact .inl (.inr (.inr (.inr (.inr (.inr (.inr z))))))⟩
section
variable {CB CM CP CK CW CF CH CC CI : Addr} {S H H' : Hp} {p : Addr} {a : Ap} {x : Pm}
theorem PrC.newHd (C : PrC CB CM CP CK CW CF CH CC CI S H p a x) {q : Addr} (k : ∀ b o, b ≠ a.st → H b = some o → H' b = some o) (n_q : H q = none) (hst : H' a.st = some (.ins CK a.dk (mkF x.b.ma q a.er))) (hq : H' q = some (.dK [])) :
    PrC CB CM CP CK CW CF CH CC CI S H' p { a with hd := q } { x with hard := [] } ∧ Fr (FtP p a) H (FtP p { a with hd := q }) H' := by
  obtain ⟨s, kb, t, ko, f⟩ := C.kOwn (l := [8]) (H' := H') (fun b o n e => k b o (fun z => n 8 (by decide) (by rw [z]; rfl)) e)
  have ex : ∀ b, FtP p a b → H b ≠ none := fun b h z => by
    obtain ⟨o, e, _⟩ := C.solid b h
    rw [z] at e; cases e
  have no : ∀ v, H v = none → v ∉ a.own p := fun v hv h => ex v (.inr h) hv
  have mem : ∀ b, b ∈ Ap.own p { a with hd := q } → b ∈ a.own p ∨ H b = none := fun b h => by
    have h : b ∈ (a.own p).set 9 q := h
    rcases List.mem_or_eq_of_mem_set h with h | h
    · exact .inl h
    · rw [h]; exact .inr n_q
  refine ⟨{ C with
    sm := s
    fs := fun b h => by
      rcases h with h | h
      · exact C.fs b (.inl h)
      · rcases mem b h with h | h
        · exact C.fs b (.inr h)
        · cases e : S b with
          | none => rfl
          | some o => rw [C.sm _ _ e] at h; cases h
    nd := by
      show ((a.own p).set 9 q).Nodup
      exact nodup_set 9 C.nd (no _ n_q)
    ob := fun b h z => by
      rcases mem b h with h | h
      · exact C.ob b h z
      · exact ex b (.inl z) h
    hp := ko 0 _ _ (by decide) rfl C.hp
    B := C.B.keep kb t
    hst := hst
    hhd := hq
    her := ko 10 _ _ (by decide) rfl C.her
    hwa := ko 11 _ _ (by decide) rfl C.hwa
    hwr := ko 12 _ _ (by decide) rfl C.hwr
    wts := C.wts.mono t
    hfr := ko 1 _ _ (by decide) rfl C.hfr
    hfl := ko 2 _ _ (by decide) rfl C.hfl
    rows := C.rows.mono t
    hhi := ko 3 _ _ (by decide) rfl C.hhi
    hhl := ko 4 _ _ (by decide) rfl C.hhl
    hist := C.hist.mono t
    hco := ko 5 _ _ (by decide) rfl C.hco
    hcd := ko 6 _ _ (by decide) rfl C.hcd
    deeds := C.deeds.mono t
    hcf := ko 7 _ _ (by decide) rfl C.hcf }, ⟨f.keep, fun b z => ?_⟩⟩
  rcases z with z | z
  · exact .inl (.inl z)
  · rcases mem b z with h | h
    · exact .inl (.inr h)
    · exact .inr h
end

/-- what marks there may be -/
def MkOk (x : Pm) : Prop := (x.hard ++ x.b.sw).Nodup ∧ (∀ a ∈ x.hard ++ x.b.sw, 0 ≤ a ∧ a ≤ 767) ∧ x.b.sw.length ≤ 768
def spTolM (CK CM : Addr) : Sp := fun vs H Q _ => ∃ (p dk m dm hd er ww s : Addr) (hs sw : List Int), vs = [.ref p] ∧ H p = some (.ins CK dk (mkF m hd er)) ∧ H hd = some (.dK (swD hs)) ∧ H m = some (.ins CM dm (mmF ww s)) ∧ H s = some (.dK (swD sw)) ∧ hs.length ≤ 1000 ∧ sw.length ≤ 1000 ∧
  ∀ H' l us out, Same H H' → H l = none → H' l = some (.lst us) → Paired (RwAt H') us out → SortedR out (rowsL hs sw) → Q (.ref l) H'
def spWearP (CK : Addr) : Sp := fun vs H Q _ => ∃ (p dk m hd er l : Addr) (we as : List Int), vs = [.ref p, .ref l] ∧ H p = some (.ins CK dk (mkF m hd er)) ∧ H er = some (.lst (we.map V.int)) ∧ we.length = 16 ∧ H l = some (.lst (as.map V.int)) ∧ l ≠ er ∧ (∀ a ∈ as, 0 ≤ a ∧ a ≤ 767) ∧ as.length ≤ 1000 ∧
  ∀ H', (∀ b o, b ≠ er → H b = some o → H' b = some o) → H' er = some (.lst ((wearM we as).map V.int)) → Q .non H'
section
variable (CB CM CP CK CW CF CH CC CI : Addr)
def spMks : Sp := fun vs H Q _ => ∃ (S : Hp) (F : Addr → Prop) (p : Addr) (x : Pm), vs = [.ref p] ∧ PrA CB CM CP CK CW CF CH CC CI S H F p x ∧ MkOk x ∧ ∀ H' l us out, Same H H' → H l = none → H' l = some (.lst us) → Paired (RwAt H') us out → SortedR out (rowsL x.hard x.b.sw) → Q (.ref l) H'
def spWer : Sp := fun vs H Q _ => ∃ (S : Hp) (F : Addr → Prop) (p : Addr) (x : Pm), vs = [.ref p] ∧ PrA CB CM CP CK CW CF CH CC CI S H F p x ∧ ∀ H' l, Same H H' → H l = none → H' l = some (.lst (x.wear.map V.int)) → Q (.ref l) H'
def spWts : Sp := fun vs H Q _ => ∃ (S : Hp) (F : Addr → Prop) (p : Addr) (x : Pm), vs = [.ref p] ∧ PrA CB CM CP CK CW CF CH CC CI S H F p x ∧ ∀ H' l us, Same H H' → H l = none → H' l = some (.lst us) → WtAt H' us x.wat → Q (.ref l) H'
end
section
variable {P : Program} {w : World} {K : PySem.W.Frag} {mg : Str → Option Value} {base : Heap} {CB CM CP CK CW CF CH CC CI CS CN CL CT CO : Addr}
theorem small1000' {a : Nat} (h : a ≤ 4000) : a ≤ sizeLine := Nat.le_trans h (by decide)
abbrev sMtolM : Stmt := inClass (topS 81) 7
def scMtolMN : List Str := ["self", "hard", "address"]
theorem scMtolM : FnScope scMtolMN ["self"] (defScope sMtolM) := ⟨rfl, rfl, rfl, by decide +kernel, rfl, by decide +kernel, by decide +kernel⟩
theorem ok_MtolM {f : Addr} {fd : FuncData} (F : Fun K "told" "Marks.told" sMtolM f fd) (T : Ty K mg CB CM CP CK CW CF CH CC CI CS)
    (z_sorted : mg "sorted" = none) : FnOk P w K mg base CX0 1 f fd ["self"] (spTolM CK CM) := by
  refine F.ok scMtolM (fun vs H Q E h => by obtain ⟨_, _, _, _, _, _, _, _, _, _, rfl, _⟩ := h; rfl) (fun cdv A outer s H vs Q E hr h => ?_)
  have hu := hu_of hr
  obtain ⟨p, dk, m, dm, hd, er, ww, s_, hs, sw, rfl, hst, hhd, hm, hss, lh, ls, k⟩ := h
  refine ⟨_, (pss_cons (ps_lock (ps_setLc (i := 1) (own := [("address", 2)]) (g := gName 2) (tt := tYes) (by rfl) scMtolM.nd rfl rfl rfl (pi_keys (pe_fld (pv 0) rfl)) (blkOk_by (own := [("address", 2)]) (N := scMtolMN) (sc := defScope sMtolM) (by decide +kernel)) (fun _ _ _ _ _ => (pg_name (i := 2) scMtolM.nd rfl (.inl rfl))) (fun _ _ _ _ _ => pts_nil) (fun _ _ _ _ _ => (pe_tup (pa_cons (pv 2) (pa_cons pe_str pa_nil))))))
    (pss_one (ps_ret (pe_callB cr_sortedIS (by rfl) z_sorted (by decide +kernel) (pa_cons (pe_op op_cat (pv 1) (pe_lock (pe_lc (own := [("address", 2)]) (g := gName 2) (tt := tYes) (by rfl) scMtolM.nd (pi_keys (pe_fld (pe_fld (pv 0) rfl) rfl)) (blkOk_by (own := [("address", 2)]) (N := scMtolMN) (sc := defScope sMtolM) (by decide +kernel)) (fun _ _ _ _ _ => (pg_name (i := 2) scMtolM.nd rfl (.inl rfl))) (fun _ _ _ _ _ => pts_nil) (fun _ _ _ _ _ => (pe_tup (pa_cons (pv 2) (pa_cons pe_str pa_nil))))))) pa_nil))))), ?_⟩
  refine ⟨hd, .dK (swD hs), hhd, trivial, fun od => ?_⟩
  refine ⟨_, rfl, p, CK, dk, _, _, rfl, (by rw [upd_ne (ne_of hst hhd (by intro z; cases z))]; exact hst), T.cK, T.nK_hard, kF_hard, hd, od, rfl, .inl ⟨swD hs, upd_same, fun D1 nD1 => ?_⟩⟩
  refine lc_it walk_keys (fun i H' => RowsSt H hd od hs D1 "hard" i H') (rows_start nD1) (fun _ _ _ R => R.hd) ?_ ?_
  · rintro i x Ha Hb hi R ⟨rfl, k_, v_, hk, rfl⟩
    obtain ⟨a_, ha, rfl⟩ := swD_at hk
    refine ⟨rfl, ?_⟩
    refine ⟨_, rfl, (by show 2 ≤ sizeLine; decide), fun T_ nT => ?_⟩
    obtain ⟨acc, e1, e2, R2⟩ := rows_step R ha nT
    exact ⟨acc, e1, by rw [e2, List.length_take]; exact small1000 (by omega), R2⟩
  intro He R
  rw [swD_len] at R
  refine ⟨R.hd, ?_⟩
  obtain ⟨s1, f1, us1, h1, p1⟩ := rows_end R hhd
  generalize upd He hd (.dK (swD hs)) = G1 at *
  have hst := s1 _ _ hst
  have hm := s1 _ _ hm
  have hss := s1 _ _ hss
  refine ⟨_, rfl, ?_⟩
  refine ⟨s_, .dK (swD sw), hss, trivial, fun od2 => ?_⟩
  refine ⟨_, rfl, p, CK, dk, _, _, rfl, (by rw [upd_ne (ne_of hst hss (by intro z; cases z))]; exact hst), T.cK, T.nK_memory, kF_memory, m, CM, dm, _, _, rfl, (by rw [upd_ne (ne_of hm hss (by intro z; cases z))]; exact hm), T.cM, T.n_swapped, mF_s, s_, od2, rfl, .inl ⟨swD sw, upd_same, fun D2 nD2 => ?_⟩⟩
  refine lc_it walk_keys (fun i H' => RowsSt G1 s_ od2 sw D2 "soft" i H') (rows_start nD2) (fun _ _ _ R => R.hd) ?_ ?_
  · rintro i x Ha Hb hi R ⟨rfl, k_, v_, hk, rfl⟩
    obtain ⟨a_, ha, rfl⟩ := swD_at hk
    refine ⟨rfl, ?_⟩
    refine ⟨_, rfl, (by show 2 ≤ sizeLine; decide), fun T_ nT => ?_⟩
    obtain ⟨acc, e1, e2, R2⟩ := rows_step R ha nT
    exact ⟨acc, e1, by rw [e2, List.length_take]; exact small1000 (by omega), R2⟩
  intro He R
  rw [swD_len] at R
  refine ⟨R.hd, ?_⟩
  obtain ⟨s2, f2, us2, h2, p2⟩ := rows_end R hss
  generalize upd He s_ (.dK (swD sw)) = G2 at *
  have l1 := Paired.length p1
  have l2 := Paired.length p2
  rw [List.length_map] at l1 l2
  have pu := paired_app (RwAt.mono (fun t xs e => s2 _ _ e) p1) p2
  refine ⟨D1, D2, _, _, rfl, rfl, s2 _ _ h1, h2, small1000' (by omega), fun l3 n3 => ?_⟩
  have s3 := same_upd' (o := .lst (us1 ++ us2)) n3
  have pu := RwAt.mono (fun t xs e => s3 _ _ e) pu
  obtain ⟨er_, fr_⟩ := rw_of pu
  refine ⟨l3, us1 ++ us2, rwOf _, rfl, SqL.of upd_same, fr_, fun ys q perm srt nq => ?_⟩
  have s4 := same_upd' (o := .lst ys) nq
  have py : Paired (RwAt (upd G2 l3 (.lst (us1 ++ us2)))) ys (ys.map (rwOf (upd G2 l3 (.lst (us1 ++ us2))))) := rw_pair ys fun v hv => fr_ v (perm.mem_iff.mp hv)
  refine k _ q ys (ys.map (rwOf (upd G2 l3 (.lst (us1 ++ us2))))) (((s1.trans s2).trans s3).trans s4) (((s1.trans s2).trans s3).free nq) upd_same (RwAt.mono (fun t xs e => s4 _ _ e) py) ⟨?_, ?_⟩
  · have z := perm.map (rwOf (upd G2 l3 (.lst (us1 ++ us2))))
    rw [er_] at z
    exact z
  · rw [List.pairwise_map]
    exact srt
abbrev sMmks : Stmt := inClass (topS 97) 14
def scMmksN : List Str := ["self"]
theorem scMmks : FnScope scMmksN ["self"] (defScope sMmks) := ⟨rfl, rfl, rfl, by decide +kernel, rfl, by decide +kernel, by decide +kernel⟩
theorem ok_Mmks {f : Addr} {fd : FuncData} {fM_tolM : Addr} {dM_tolM : FuncData} (F : Fun K "marks" "Probe.marks" sMmks f fd) (T : Ty K mg CB CM CP CK CW CF CH CC CI CS)
    (M_tolM : CalM P w K mg base CK 1 "told" ["self"] (spTolM CK CM) fM_tolM dM_tolM) : FnOk P w K mg base CX0 2 f fd ["self"] (spMks CB CM CP CK CW CF CH CC CI) := by
  refine F.ok scMmks (fun vs H Q E h => by obtain ⟨_, _, _, _, rfl, _⟩ := h; rfl) (fun cdv A outer s H vs Q E hr h => ?_)
  have hu := hu_of hr
  obtain ⟨S, F_, p, x, rfl, Y, mk, k⟩ := h
  obtain ⟨⟨a, T0, D0, ma_, sa_, rfl, C⟩, N⟩ := Y
  obtain ⟨sv, tv, dv, hpb, hz⟩ := C.B.hp
  refine ⟨_, (pss_one (ps_ret (pe_meth0 (pe_fld (pv 0) rfl) M_tolM.c M_tolM.m M_tolM.G (hr.mono (by decide)) M_tolM.b .nil pass0))), ?_⟩
  refine ⟨_, rfl, p, CP, a.dx, _, _, rfl, C.hp, T.cP, T.nP_standing, pF_standing, a.st, a.dk, _, rfl, C.hst, kN_told, a.st, a.dk, ((x.mas ma_ sa_).tvd T0 D0).b.ma, a.A.dm, a.hd, a.er, a.A.w, a.A.s, x.hard, x.b.sw, rfl, C.hst, C.hhd, (by rw [← C.B.am]; exact C.B.hm), C.B.hs, (by have := N.hh; omega), (by have := mk.2.2; omega), fun H' l us out s n e pu so => k H' l us out s n e pu so⟩
abbrev sMwer : Stmt := inClass (topS 97) 15
def scMwerN : List Str := ["self"]
theorem scMwer : FnScope scMwerN ["self"] (defScope sMwer) := ⟨rfl, rfl, rfl, by decide +kernel, rfl, by decide +kernel, by decide +kernel⟩
theorem ok_Mwer {f : Addr} {fd : FuncData} (F : Fun K "wear" "Probe.wear" sMwer f fd) (T : Ty K mg CB CM CP CK CW CF CH CC CI CS) : FnOk P w K mg base CX0 1 f fd ["self"] (spWer CB CM CP CK CW CF CH CC CI) := by
  refine F.ok scMwer (fun vs H Q E h => by obtain ⟨_, _, _, _, rfl, _⟩ := h; rfl) (fun cdv A outer s H vs Q E hr h => ?_)
  have hu := hu_of hr
  have z_list := T.z_list
  obtain ⟨S, F_, p, x, rfl, Y, k⟩ := h
  obtain ⟨⟨a, T0, D0, ma_, sa_, rfl, C⟩, N⟩ := Y
  obtain ⟨sv, tv, dv, hpb, hz⟩ := C.B.hp
  refine ⟨_, (pss_one (ps_ret (pe_callTy call_list_of (by rfl) z_list (by decide +kernel) (pa_cons (pe_fld (pe_fld (pv 0) rfl) rfl) pa_nil)))), ?_⟩
  exact ⟨_, rfl, p, CP, a.dx, _, _, rfl, C.hp, T.cP, T.nP_standing, pF_standing, a.st, CK, a.dk, _, _, rfl, C.hst, T.cK, T.nK_erased, kF_erased, a.er, _, rfl, .inl (SqL.of C.her), fun l nl => k _ l (same_upd' nl) nl upd_same⟩
abbrev sMwts : Stmt := inClass (topS 97) 18
def scMwtsN : List Str := ["self"]
theorem scMwts : FnScope scMwtsN ["self"] (defScope sMwts) := ⟨rfl, rfl, rfl, by decide +kernel, rfl, by decide +kernel, by decide +kernel⟩
theorem ok_Mwts {f : Addr} {fd : FuncData} (F : Fun K "watches" "Probe.watches" sMwts f fd) (T : Ty K mg CB CM CP CK CW CF CH CC CI CS) : FnOk P w K mg base CX0 1 f fd ["self"] (spWts CB CM CP CK CW CF CH CC CI) := by
  refine F.ok scMwts (fun vs H Q E h => by obtain ⟨_, _, _, _, rfl, _⟩ := h; rfl) (fun cdv A outer s H vs Q E hr h => ?_)
  have hu := hu_of hr
  have z_list := T.z_list
  obtain ⟨S, F_, p, x, rfl, Y, k⟩ := h
  obtain ⟨⟨a, T0, D0, ma_, sa_, rfl, C⟩, N⟩ := Y
  obtain ⟨sv, tv, dv, hpb, hz⟩ := C.B.hp
  refine ⟨_, (pss_one (ps_ret (pe_callTy call_list_of (by rfl) z_list (by decide +kernel) (pa_cons (pe_fld (pe_fld (pv 0) rfl) rfl) pa_nil)))), ?_⟩
  exact ⟨_, rfl, p, CP, a.dx, _, _, rfl, C.hp, T.cP, T.nP_watching, pF_watching, a.wa, CW, a.dw, _, _, rfl, C.hwa, T.cW, T.nW_rows, wF_rows, a.wr, _, rfl, .inl (SqL.of C.hwr), fun l nl => k _ l a.wv (same_upd' nl) nl upd_same (C.wts.mono fun t xs e => same_upd' nl _ _ e)⟩
abbrev sMwearP : Stmt := inClass (topS 81) 6
def scMwearPN : List Str := ["self", "addresses", "page", "address"]
theorem scMwearP : FnScope scMwearPN ["self", "addresses"] (defScope sMwearP) := ⟨rfl, rfl, rfl, by decide +kernel, rfl, by decide +kernel, by decide +kernel⟩
theorem ok_MwearP {f : Addr} {fd : FuncData} (F : Fun K "wear_pages" "Marks.wear_pages" sMwearP f fd) (T : Ty K mg CB CM CP CK CW CF CH CC CI CS)
    (TK : Tk K mg)
    (zS : mg "sorted" = none) : FnOk P w K mg base CX0 1 f fd ["self", "addresses"] (spWearP CK) := by
  refine F.ok scMwearP (fun vs H Q E h => by obtain ⟨_, _, _, _, _, _, _, _, rfl, _⟩ := h; rfl) (fun cdv A outer s H vs Q E hr h => ?_)
  have hu := hu_of hr
  obtain ⟨t_FLASH_END, g_FLASH_END⟩ := T.g_FLASH_END
  obtain ⟨t_PAGE_WORDS, g_PAGE_WORDS⟩ := TK.g_PAGE_WORDS
  obtain ⟨p, dk, m, hd, er, l, we, as, rfl, hst, her, hw, hl, nle, ha, la, k⟩ := h
  refine ⟨_, (pss_one (ps_for PassesOwn.never rfl (pi_list (pe_callB (cr_sortedSet rfl) (by rfl) zS (by decide +kernel) (pa_cons (pe_sci (own := [("address", 3)]) (g := gName 3) (by rfl) scMwearP.nd (pi_list (pv 1)) (blkOk_by (own := [("address", 3)]) (N := scMwearPN) (sc := defScope sMwearP) (by decide +kernel)) (fun _ _ _ _ _ => (pg_name (i := 3) scMwearP.nd rfl (.inl rfl))) (fun _ _ _ _ _ => (pts_one (pt_cmpR op_lt (pv 3) (pgI g_FLASH_END) (nomark _)))) (fun _ _ _ _ _ => (pe_op op_fdiv (pv 3) (pgI g_PAGE_WORDS)))) pa_nil))) (pg_name (i := 2) scMwearP.nd rfl (.inl rfl))
      (pss_one (ps_augS (pe_fld (pv 0) rfl) (pv 2) get_listN pe_int ip_add set_list)))), ?_⟩
  refine ⟨_, rfl, l, rfl, ⟨_, SqL.of hl⟩, fun D nD => ?_⟩
  refine sci_list (xs := as.map V.int) (PgSt w H D as) (pg_start nD) (fun i H' _ R => SqL.of (R.kp _ _ hl)) ?_ ?_
  · intro i x H' hx R
    rw [List.getElem?_map] at hx
    obtain ⟨a_, hai, rfl⟩ : ∃ a_, as[i]? = some a_ ∧ x = .int a_ := by
      cases e : as[i]? with
      | none => rw [e] at hx; cases hx
      | some a_ => rw [e] at hx; cases hx; exact ⟨a_, rfl, rfl⟩
    refine ⟨rfl, ?_⟩
    refine ⟨_, rfl, _, _, rfl, rfl, _, rfl, ifB (fun h => ?_) (fun h => ?_)⟩
    · obtain ⟨S_, n_, e1, e2, R2⟩ := pg_step R hai (of_decide_eq_true h) ha
      exact ⟨_, rfl, _, _, rfl, rfl, ⟨by decide, by decide⟩, _, S_, n_, rfl, e1, e2, R2⟩
    · exact pg_skip R hai (of_decide_eq_false h)
  intro H1 R
  rw [List.length_map] at R
  obtain ⟨s1, ⟨ps, hD, nd, l16, mem⟩, fD⟩ := R
  rw [List.take_length] at mem
  refine ⟨D, _, _, rfl, hD, by omega, fun ns p2 rise hmem hlen np2 => ?_⟩
  refine ⟨p2, rfl, ⟨_, SqL.of upd_same⟩, ?_⟩
  have s2 := same_upd' (o := .lst (ns.map V.int)) np2
  have hp2 : upd H1 p2 (.lst (ns.map V.int)) p2 = some (.lst (ns.map V.int)) := upd_same
  generalize upd H1 p2 (.lst (ns.map V.int)) = H2 at *
  have s12 := s1.trans s2
  have her2 := s12 _ _ her
  have hst2 := s12 _ _ hst
  have nsm : ∀ q, q ∈ ns ↔ ∃ b ∈ as, b < 512 ∧ b / 32 = q := fun q => (hmem q).trans (decide_eq_true_iff.trans (mem q))
  have nsd : ns.Nodup := List.Pairwise.imp (fun {a b} (h : a < b) => Int.ne_of_lt h) rise
  have nsr : ∀ q ∈ ns, 0 ≤ q ∧ q < 16 := fun q hq => by
    obtain ⟨b, hb, e1, e2⟩ := (nsm q).mp hq
    have := ha b hb
    omega
  have pe : p2 ≠ er := fun z => by rw [z, s1 _ _ her] at np2; cases np2
  refine for_list (K := K) (a := p2) (xs := ns.map V.int) (fun i σ H' => (∃ pv, σ = [some (V.ref p), some (V.ref l), pv, none]) ∧ (∀ b o, b ≠ er → H2 b = some o → H' b = some o) ∧ H' er = some (.lst ((bumpL we (ns.take i)).map V.int))) ⟨⟨none, rfl⟩, fun b o _ e => e, (show H2 er = some (.lst (we.map V.int)) from her2)⟩ (fun i σ H' _ h => SqL.of (h.2.1 _ _ pe hp2)) ?_ ?_
  · rintro i x σ H' hx ⟨⟨pv, rfl⟩, kp, he⟩
    rw [List.getElem?_map] at hx
    obtain ⟨q, hqi, rfl⟩ : ∃ q, ns[i]? = some q ∧ x = .int q := by
      cases e : ns[i]? with
      | none => rw [e] at hx; cases hx
      | some q => rw [e] at hx; cases hx; exact ⟨q, rfl, rfl⟩
    have hq := nsr q (List.mem_of_getElem? hqi)
    have nst : p ≠ er := ne_of hst her (by intro z; cases z)
    have hst3 := kp _ _ nst hst2
    have hlb : (bumpL we (ns.take i)).length = 16 := (bumpL_len _ _).trans hw
    have hgd : (bumpL we (ns.take i))[q.toNat]? = some ((bumpL we (ns.take i)).getD q.toNat 0) := by
      rw [List.getD_eq_getElem?_getD, List.getElem?_eq_getElem (by omega)]
      rfl
    refine ⟨_, rfl, p, CK, dk, _, _, rfl, hst3, T.cK, T.nK_erased, kF_erased, _, rfl, er, _, q, _, rfl, rfl, hq.1, SqL.of he, (by rw [List.getElem?_map, hgd]; rfl), _, _, rfl, rfl, er, _, q, _, rfl, rfl, he, ixN_in hq.1 (by rw [List.length_map]; omega), ?_⟩
    refine ⟨⟨_, rfl⟩, fun b o nb e => by rw [upd_ne nb]; exact kp _ _ nb e, ?_⟩
    rw [upd_same, List.take_succ, hqi]
    show some (HO.lst _) = some (HO.lst ((bumpL we (ns.take i ++ [q])).map V.int))
    rw [bumpL_snoc, List.map_set]
  rintro σ H' ⟨_, kp, he⟩
  rw [List.length_map, List.take_length, bump_wear nsd hw nsm ha] at he
  exact k _ (fun b o nb e => kp _ _ nb (s12 _ _ e)) he
end
/-- what a mark's laying comes to -/
inductive MkR where
  | word | taken | many | told
  deriving DecidableEq
def layR (i : Int) (h : Bool) (hs sw : List Int) : MkR := if 0 ≤ i ∧ i ≤ 767 then (if i ∈ hs ∨ i ∈ sw then .taken else if h = true ∧ 2 ≤ hs.length then .many else .told) else .word
theorem layR_ok {i : Int} {h : Bool} {hs sw : List Int} (e : layR i h hs sw = .told) : MarkOk i h hs sw := by
  unfold layR at e
  split at e
  · rename_i h1
    split at e
    · cases e
    · rename_i h2
      split at e
      · cases e
      · rename_i h3
        exact ⟨h1.1, h1.2, fun z => h2 (.inl z), fun z => h2 (.inr z), fun z => Nat.lt_of_not_le fun q => h3 ⟨z, q⟩⟩
  · cases e
def spLayX (CK CM CN CT CO : Addr) : Sp := fun vs H Q E => ∃ (p dk m dm hd er ww s : Addr) (i : Int) (h : Bool) (hs sw : List Int), vs = [.ref p, .int i, .bl h] ∧ H p = some (.ins CK dk (mkF m hd er)) ∧ H hd = some (.dK (swD hs)) ∧ H m = some (.ins CM dm (mmF ww s)) ∧ H s = some (.dK (swD sw)) ∧ hs.length ≤ 1000 ∧ sw.length ≤ 100000 ∧
  (layR i h hs sw = .told → Q .non (if h = true then upd H hd (.dK (swD (hs ++ [i]))) else upd H s (.dK (swD (sw ++ [i]))))) ∧ (layR i h hs sw = .word → E (.ref CN) none H) ∧ (layR i h hs sw = .taken → E (.ref CT) none H) ∧ (layR i h hs sw = .many → E (.ref CO) none H)
def spMarkX (CB CM CP CK CW CF CH CC CI CN CT CO : Addr) : Sp := fun vs H Q E => ∃ (S : Hp) (F : Addr → Prop) (p : Addr) (x : Pm) (i : Int) (h : Bool), vs = [.ref p, .int i, .bl h] ∧ PrA CB CM CP CK CW CF CH CC CI S H F p x ∧ x.n < 90000 ∧
  (layR i h x.hard x.b.sw = .told → ∀ H' F', Fr F H F' H' → PrA CB CM CP CK CW CF CH CC CI S H' F' p (markM i h x) → Q .non H') ∧ (layR i h x.hard x.b.sw = .word → E (.ref CN) none H) ∧ (layR i h x.hard x.b.sw = .taken → E (.ref CT) none H) ∧ (layR i h x.hard x.b.sw = .many → E (.ref CO) none H)
/-- a mark lifted -/
def liftM (i : Int) (x : Pm) : Pm := if i ∈ x.hard then { x with hard := x.hard.filter fun a => decide (a ≠ i) } else { x with b := { x.b with sw := x.b.sw.filter fun a => decide (a ≠ i) }, wear := wearM x.wear [i] }
def liftAM (x : Pm) : Pm := { x with hard := [], b := { x.b with sw := [] }, wear := wearM x.wear x.b.sw }
theorem PrN.lifted {x : Pm} (N : PrN x) {i : Int} : PrN (liftM i x) := by
  unfold liftM
  split
  · exact { N with hh := Nat.le_trans (List.length_filter_le ..) N.hh }
  · exact { N with nn := { N.nn with }, sw := Nat.le_trans (List.length_filter_le ..) N.sw, we := (wearM_len ..).trans N.we }
theorem PrN.liftedA {x : Pm} (N : PrN x) : PrN (liftAM x) := { N with hh := Nat.zero_le _, nn := { N.nn with }, sw := Nat.zero_le _, we := (wearM_len ..).trans N.we }
def spLiftX (CB CM CP CK CW CF CH CC CI CL : Addr) : Sp := fun vs H Q E => ∃ (S : Hp) (p : Addr) (a : Ap) (x : Pm) (i : Int), vs = [.ref a.st, .int i] ∧ PrC CB CM CP CK CW CF CH CC CI S H p a x ∧ x.wear.length = 16 ∧ MkOk x ∧
  (i ∈ x.hard ∨ i ∈ x.b.sw → ∀ H', Fr (FtP p a) H (FtP p a) H' → PrC CB CM CP CK CW CF CH CC CI S H' p a (liftM i x) → Q .non H') ∧ (¬ (i ∈ x.hard ∨ i ∈ x.b.sw) → E (.ref CL) none H)
def spUnmX (CB CM CP CK CW CF CH CC CI CL : Addr) : Sp := fun vs H Q E => ∃ (S : Hp) (F : Addr → Prop) (p : Addr) (x : Pm) (i : Int), vs = [.ref p, .int i] ∧ PrA CB CM CP CK CW CF CH CC CI S H F p x ∧ MkOk x ∧
  (i ∈ x.hard ∨ i ∈ x.b.sw → ∀ H' F', Fr F H F' H' → PrA CB CM CP CK CW CF CH CC CI S H' F' p (liftM i x) → Q .non H') ∧ (¬ (i ∈ x.hard ∨ i ∈ x.b.sw) → E (.ref CL) none H)
def spLftAll (CB CM CP CK CW CF CH CC CI : Addr) : Sp := fun vs H Q _ => ∃ (S : Hp) (p : Addr) (a : Ap) (x : Pm), vs = [.ref a.st] ∧ PrC CB CM CP CK CW CF CH CC CI S H p a x ∧ x.wear.length = 16 ∧ MkOk x ∧ ∀ H' a', Fr (FtP p a) H (FtP p a') H' → PrC CB CM CP CK CW CF CH CC CI S H' p a' (liftAM x) → Q .non H'
def spClrA (CB CM CP CK CW CF CH CC CI : Addr) : Sp := fun vs H Q _ => ∃ (S : Hp) (F : Addr → Prop) (p : Addr) (x : Pm), vs = [.ref p] ∧ PrA CB CM CP CK CW CF CH CC CI S H F p x ∧ MkOk x ∧ ∀ H' F', Fr F H F' H' → PrA CB CM CP CK CW CF CH CC CI S H' F' p (liftAM x) → Q .non H'
section
variable {P : Program} {w : World} {K : PySem.W.Frag} {mg : Str → Option Value} {base : Heap} {CB CM CP CK CW CF CH CC CI CS CN CL CT CO : Addr}
abbrev sMlayX : Stmt := inClass (topS 81) 3
def scMlayXN : List Str := ["self", "address", "hard"]
theorem scMlayX : FnScope scMlayXN ["self", "address", "hard"] (defScope sMlayX) := ⟨rfl, rfl, rfl, by decide +kernel, rfl, by decide +kernel, by decide +kernel⟩
theorem ok_MlayX {f : Addr} {fd : FuncData} {fF_betw : Addr} {dF_betw : FuncData} {fM_sta : Addr} {dM_sta : FuncData} (F : Fun K "lay" "Marks.lay" sMlayX f fd) (T : Ty K mg CB CM CP CK CW CF CH CC CI CS)
    (F_betw : CalF P w K mg base 2 "is_between" ["thing", "least", "greatest"] (spBetw) fF_betw dF_betw)
    (M_sta : CalM P w K mg base CK 1 "stands_at" ["self", "address"] (spSta CK CM) fM_sta dM_sta)
    (TM : Tm K mg CN CL CT CO)
    (TK : Tk K mg) : FnOk P w K mg base (L2.CX P w) 3 f fd ["self", "address", "hard"] (spLayX CK CM CN CT CO) := by
  refine F.okX scMlayX (fun vs H Q E h => by obtain ⟨_, _, _, _, _, _, _, _, _, _, _, _, rfl, _⟩ := h; rfl) (fun cdv A outer s H vs Q E hr h => ?_)
  have hu := hu_of hr
  obtain ⟨t_RAM_END, g_RAM_END⟩ := T.g_RAM_END
  have z_len := T.z_len
  obtain ⟨t_HARD_MOST, g_HARD_MOST⟩ := TK.g_HARD_MOST
  obtain ⟨p, dk, m, dm, hd, er, ww, s_, a_, h_, hs, sw, rfl, hp, hhd, hm, hss, lh, ls, k, kw, kt, km⟩ := h
  refine ⟨_, (pss_cons (ps_if (pt_not (pt_val (pe_call F_betw.G (hr.mono (by decide)) (by rfl) F_betw.g F_betw.kp F_betw.b .nil pass0 (pa_cons (pv 1) (pa_cons pe_int (pa_cons (pe_op op_sub (pgI g_RAM_END) pe_int) pa_nil)))))) (pss_one (ps_raise rfl (takes_of rfl rfl rfl rfl) (pmk_own PySem.F.excBase_ValueError TM.xN TM.gN TM.kN (raises_own TM.bN TM.tN) (by exact rfl)))) pss_nil)
    (pss_cons (ps_if (pt_val (pe_meth (pv 0) M_sta.c M_sta.m M_sta.G (hr.mono (by decide)) M_sta.b .nil pass0 (pa_cons (pv 1) pa_nil))) (pss_one (ps_raise rfl (takes_of rfl rfl rfl rfl) (pmk_own PySem.F.excBase_ValueError TM.xT TM.gT TM.kT (raises_own TM.bT TM.tT) (by exact rfl)))) pss_nil)
    (pss_cons (ps_if (pt_not (pt_val (pv 2))) (pss_cons (ps_dput hu (pe_fld (pe_fld (pv 0) rfl) rfl) (pv 1) pe_bl rfl)
    (pss_one ps_retN)) pss_nil)
    (pss_cons (ps_if (pt_cmpR op_ge (pe_callB call_lenD (by rfl) z_len PySem.boot_len (pa_cons (pe_fld (pv 0) rfl) pa_nil)) (pgI g_HARD_MOST) (nomark _)) (pss_one (ps_raise rfl (takes_of rfl rfl rfl rfl) (pmk_own PySem.F.excBase_ValueError TM.xO TM.gO TM.kO (raises_own TM.bO TM.tO) (by exact rfl)))) pss_nil)
    (pss_one (ps_dput hu (pe_fld (pv 0) rfl) (pv 1) pe_bl rfl)))))), ?_⟩
  refine ⟨_, rfl, _, _, rfl, rfl, _, _, _, rfl, ?_⟩
  refine ⟨_, rfl, ifN (fun h => kw (by unfold layR; rw [if_neg (fun z => of_decide_eq_false h ⟨z.1, by omega⟩)])) (fun h => ?_)⟩
  have h := of_decide_eq_true h
  have hb : 0 ≤ a_ ∧ a_ ≤ 767 := ⟨h.1, by omega⟩
  refine ⟨_, rfl, p, dk, _, rfl, hp, kN_stands_at, _, rfl, p, dk, m, dm, hd, er, ww, s_, a_, hs, sw, rfl, hp, hhd, hm, hss, ?_⟩
  refine ⟨_, rfl, ifB (fun h => kt ?_) (fun h2 => ?_)⟩
  · unfold layR
    rw [if_pos hb, if_pos]
    by_cases z : a_ ∈ hs
    · exact .inl z
    · rw [decide_eq_false z] at h
      exact .inr (of_decide_eq_true (by simpa using h))
  have nh : a_ ∉ hs := fun z => by rw [decide_eq_true z] at h2; cases h2
  have ns : a_ ∉ sw := fun z => by rw [decide_eq_true z, Bool.or_true] at h2; cases h2
  have nn : ¬ (a_ ∈ hs ∨ a_ ∈ sw) := fun z => z.elim nh ns
  refine ⟨_, rfl, _, rfl, ?_⟩
  cases h_ with
  | false =>
    refine ifN (fun _ => ?_) (fun h => by cases h)
    refine ⟨_, rfl, p, CK, dk, _, _, rfl, hp, T.cK, T.nK_memory, kF_memory, m, CM, dm, _, _, rfl, hm, T.cM, T.n_swapped, mF_s, _, rfl, s_, _, rfl, DPut.k (k := Sum.inl a_) hss (by rw [swD_len]; exact Nat.lt_of_le_of_lt ls (by decide)), ?_⟩
    rw [swD_put ns]
    exact k (by unfold layR; rw [if_pos hb, if_neg nn, if_neg (fun z => by cases z.1)])
  | true =>
    refine ifN (fun h => by cases h) (fun _ => ?_)
    refine ⟨_, rfl, p, CK, dk, _, _, rfl, hp, T.cK, T.nK_hard, kF_hard, hd, _, rfl, hhd, ?_⟩
    rw [swD_len]
    refine ⟨_, _, rfl, rfl, _, rfl, ifB (fun h => km ?_) (fun h => ?_)⟩
    · have h := of_decide_eq_true h
      unfold layR
      rw [if_pos hb, if_neg nn, if_pos ⟨rfl, by omega⟩]
    have h := of_decide_eq_false h
    refine ⟨_, rfl, p, CK, dk, _, _, rfl, hp, T.cK, T.nK_hard, kF_hard, _, rfl, hd, _, rfl, DPut.k (k := Sum.inl a_) hhd (by rw [swD_len]; exact Nat.lt_of_le_of_lt lh (by decide)), ?_⟩
    rw [swD_put nh]
    exact k (by unfold layR; rw [if_pos hb, if_neg nn, if_neg (fun z => h (by omega))])
abbrev sMmarkX : Stmt := inClass (topS 97) 11
def scMmarkXN : List Str := ["self", "address", "hard"]
theorem scMmarkX : FnScope scMmarkXN ["self", "address", "hard"] (defScope sMmarkX) := ⟨rfl, rfl, rfl, by decide +kernel, rfl, by decide +kernel, by decide +kernel⟩
theorem ok_MmarkX {f : Addr} {fd : FuncData} {fM_layX : Addr} {dM_layX : FuncData} (F : Fun K "mark" "Probe.mark" sMmarkX f fd) (T : Ty K mg CB CM CP CK CW CF CH CC CI CS)
    (M_layX : CalX P w K mg base CK 3 "lay" ["self", "address", "hard"] (spLayX CK CM CN CT CO) fM_layX dM_layX)
    (TM : Tm K mg CN CL CT CO) : FnOk P w K mg base (L2.CX P w) 4 f fd ["self", "address", "hard"] (spMarkX CB CM CP CK CW CF CH CC CI CN CT CO) := by
  refine F.okX scMmarkX (fun vs H Q E h => by obtain ⟨_, _, _, _, _, _, rfl, _⟩ := h; rfl) (fun cdv A outer s H vs Q E hr h => ?_)
  have hu := hu_of hr
  obtain ⟨S, F_, p, x, i, h_, rfl, Y, hn, k, kw, kt, km⟩ := h
  obtain ⟨⟨a, T0, D0, ma_, sa_, rfl, C⟩, N⟩ := Y
  obtain ⟨sv, tv, dv, hpb, hz⟩ := C.B.hp
  refine ⟨_, (pss_one (ps_expr (pe_meth (pe_fld (pv 0) rfl) M_layX.c M_layX.m M_layX.G (hr.mono (by decide)) M_layX.b .nil (E := E) (passes_call (W := fun cls d _ H => E cls d H) (takes_of rfl rfl rfl rfl) (fun _ _ _ _ h => h)) (pa_cons (pv 1) (pa_cons (pv 2) pa_nil))))), ?_⟩
  have nh := N.hh
  have nw := N.sw
  refine ⟨_, rfl, p, CP, a.dx, _, _, rfl, C.hp, T.cP, T.nP_standing, pF_standing, a.st, a.dk, _, rfl, C.hst, kN_lay, _, rfl, _, rfl, a.st, a.dk, ((x.mas ma_ sa_).tvd T0 D0).b.ma, a.A.dm, a.hd, a.er, a.A.w, a.A.s, i, h_, x.hard, x.b.sw, rfl, C.hst, C.hhd, (by rw [← C.B.am]; exact C.B.hm), C.B.hs, by omega, by omega, fun eo => ?_, kw, kt, km⟩
  have NS := N.mark (layR_ok eo)
  cases h_ with
  | true =>
    obtain ⟨C1, F1⟩ := C.hards (hs := x.hard ++ [i])
    exact k eo _ _ F1 ⟨⟨_, T0, D0, ma_, sa_, rfl, { C1 with }⟩, NS⟩
  | false =>
    have B1 := C.B.swp (sw := x.b.sw ++ [i])
    obtain ⟨C1, F1⟩ := C.boardB B1 (Fr.upd (.inr (.inr (.inr (.inr (.inr (.inl rfl))))))) rfl
    exact k eo _ _ F1 ⟨⟨_, T0, D0, ma_, sa_, rfl, { C1 with }⟩, NS⟩
abbrev sMliftX : Stmt := inClass (topS 81) 4
def scMliftXN : List Str := ["self", "address"]
theorem scMliftX : FnScope scMliftXN ["self", "address"] (defScope sMliftX) := ⟨rfl, rfl, rfl, by decide +kernel, rfl, by decide +kernel, by decide +kernel⟩
theorem ok_MliftX {f : Addr} {fd : FuncData} {fF_whole : Addr} {dF_whole : FuncData} {fM_sta : Addr} {dM_sta : FuncData} {fM_wearP : Addr} {dM_wearP : FuncData} (F : Fun K "lift" "Marks.lift" sMliftX f fd) (T : Ty K mg CB CM CP CK CW CF CH CC CI CS)
    (F_whole : CalF P w K mg base 1 "is_whole" ["thing"] (spWhole) fF_whole dF_whole)
    (M_sta : CalM P w K mg base CK 1 "stands_at" ["self", "address"] (spSta CK CM) fM_sta dM_sta)
    (M_wearP : CalM P w K mg base CK 1 "wear_pages" ["self", "addresses"] (spWearP CK) fM_wearP dM_wearP)
    (TM : Tm K mg CN CL CT CO) : FnOk P w K mg base (L2.CX P w) 3 f fd ["self", "address"] (spLiftX CB CM CP CK CW CF CH CC CI CL) := by
  refine F.okX scMliftX (fun vs H Q E h => by obtain ⟨_, _, _, _, _, rfl, _⟩ := h; rfl) (fun cdv A outer s H vs Q E hr h => ?_)
  have hu := hu_of hr
  obtain ⟨S, p, a, x, i, rfl, C, hw, mk, k, ke⟩ := h
  refine ⟨_, (pss_cons (ps_if (PW.pt (pw_or (pt_not (pt_val (pe_call F_whole.G (hr.mono (by decide)) (by rfl) F_whole.g F_whole.kp F_whole.b .nil pass0 (pa_cons (pv 1) pa_nil)))) (pw_or1 (pt_not (pt_val (pe_meth (pv 0) M_sta.c M_sta.m M_sta.G (hr.mono (by decide)) M_sta.b .nil pass0 (pa_cons (pv 1) pa_nil))))))) (pss_one (ps_raise rfl (takes_of rfl rfl rfl rfl) (pmk_own PySem.F.excBase_ValueError TM.xL TM.gL TM.kL (raises_own TM.bL TM.tL) (by exact rfl)))) pss_nil)
    (pss_cons (ps_if (pt_cmp (pc_din hu (pv 1) (pe_fld (pv 0) rfl))) (pss_cons (ps_ddel (pe_fld (pv 0) rfl) (pv 1))
    (pss_one ps_retN)) pss_nil)
    (pss_cons (ps_expr (pe_meth (pv 0) M_wearP.c M_wearP.m M_wearP.G (hr.mono (by decide)) M_wearP.b .nil pass0 (pa_cons (pe_lst (pa_cons (pv 1) pa_nil)) pa_nil)))
    (pss_one (ps_ddel (pe_fld (pe_fld (pv 0) rfl) rfl) (pv 1)))))), ?_⟩
  have hst := C.hst
  have hm0 := C.B.hm
  rw [← C.B.am] at hst
  refine ⟨_, rfl, i, rfl, _, rfl, ?_⟩
  refine ifB (fun h => by cases h) (fun _ => ?_)
  refine ⟨_, rfl, a.st, a.dk, _, rfl, hst, kN_stands_at, _, rfl, a.st, a.dk, a.A.m, a.A.dm, a.hd, a.er, a.A.w, a.A.s, i, x.hard, x.b.sw, rfl, hst, C.hhd, hm0, C.B.hs, _, rfl, ?_⟩
  refine ifN (fun h => ke fun z => ?_) (fun h => ?_)
  · rcases z with z | z
    · rw [decide_eq_true z] at h; cases h
    · rw [decide_eq_true z, Bool.or_true] at h; cases h
  have hi : i ∈ x.hard ∨ i ∈ x.b.sw := by
    by_cases z : i ∈ x.hard
    · exact .inl z
    · rw [decide_eq_false z] at h
      exact .inr (of_decide_eq_true (by simpa using h))
  have k := k hi
  unfold liftM at k
  refine ⟨_, rfl, _, rfl, a.st, CK, a.dk, _, _, rfl, hst, T.cK, T.nK_hard, kF_hard, a.hd, _, rfl, DGet.k (k := Sum.inl i) C.hhd, _, rfl, ?_⟩
  rw [swD_some]
  refine ifB (fun h1 => ?_) (fun h1 => ?_)
  · rw [if_pos (of_decide_eq_true h1)] at k
    refine ⟨_, rfl, a.st, CK, a.dk, _, _, rfl, hst, T.cK, T.nK_hard, kF_hard, _, rfl, a.hd, swD x.hard, Sum.inl i, rfl, C.hhd, rfl, (by rw [swD_some]; exact h1), ?_⟩
    rw [swD_drop]
    obtain ⟨C1, F1⟩ := C.hards (hs := x.hard.filter fun z => decide (z ≠ i))
    exact k _ F1 C1
  · have n1 := of_decide_eq_false h1
    rw [if_neg n1] at k
    have hsw : i ∈ x.b.sw := hi.resolve_left n1
    refine ⟨_, rfl, a.st, a.dk, _, rfl, hst, kN_wear_pages, _, rfl, (by show 1 ≤ sizeLine; decide), fun l nl => ?_⟩
    have r1 := same_upd' (o := .lst [V.int i]) nl
    have hl : upd H l (.lst [V.int i]) l = some (.lst ([i].map V.int)) := upd_same
    have C0 := C.same r1
    have nle : l ≠ a.er := fun z => by rw [z, C.her] at nl; cases nl
    generalize upd H l (.lst [V.int i]) = G1 at *
    refine ⟨a.st, a.dk, _, a.hd, a.er, l, x.wear, [i], rfl, r1 _ _ hst, C0.her, hw, hl, nle, fun z hz => by rw [List.mem_singleton.mp hz]; exact mk.2.1 i (List.mem_append_right _ hsw), (by show 1 ≤ 1000; decide), fun H1 kp he => ?_⟩
    obtain ⟨C1, fr1⟩ := C0.worn kp he
    have fr := (Fr.of_same (F := FtP p a) r1).trans fr1
    have hst1 := C1.hst
    have hm1 := C1.B.hm
    rw [← C1.B.am] at hst1
    refine ⟨_, rfl, a.st, CK, a.dk, _, _, rfl, hst1, T.cK, T.nK_memory, kF_memory, a.A.m, CM, a.A.dm, _, _, rfl, hm1, T.cM, T.n_swapped, mF_s, _, rfl, a.A.s, swD x.b.sw, Sum.inl i, rfl, C1.B.hs, rfl, (by rw [swD_some]; exact decide_eq_true hsw), ?_⟩
    rw [swD_drop]
    have B1 := C1.B.swp (sw := x.b.sw.filter fun z => decide (z ≠ i))
    obtain ⟨C2, F2⟩ := C1.boardB B1 (Fr.upd (.inr (.inr (.inr (.inr (.inr (.inl rfl))))))) rfl
    exact k _ (fr.trans F2) { C2 with }
abbrev sMunmX : Stmt := inClass (topS 97) 12
def scMunmXN : List Str := ["self", "address"]
theorem scMunmX : FnScope scMunmXN ["self", "address"] (defScope sMunmX) := ⟨rfl, rfl, rfl, by decide +kernel, rfl, by decide +kernel, by decide +kernel⟩
theorem ok_MunmX {f : Addr} {fd : FuncData} {fM_liftX : Addr} {dM_liftX : FuncData} (F : Fun K "unmark" "Probe.unmark" sMunmX f fd) (T : Ty K mg CB CM CP CK CW CF CH CC CI CS)
    (M_liftX : CalX P w K mg base CK 3 "lift" ["self", "address"] (spLiftX CB CM CP CK CW CF CH CC CI CL) fM_liftX dM_liftX)
    (TM : Tm K mg CN CL CT CO) : FnOk P w K mg base (L2.CX P w) 4 f fd ["self", "address"] (spUnmX CB CM CP CK CW CF CH CC CI CL) := by
  refine F.okX scMunmX (fun vs H Q E h => by obtain ⟨_, _, _, _, _, rfl, _⟩ := h; rfl) (fun cdv A outer s H vs Q E hr h => ?_)
  have hu := hu_of hr
  obtain ⟨S, F_, p, x, i, rfl, Y, mk, k, ke⟩ := h
  obtain ⟨⟨a, T0, D0, ma_, sa_, rfl, C⟩, N⟩ := Y
  obtain ⟨sv, tv, dv, hpb, hz⟩ := C.B.hp
  refine ⟨_, (pss_one (ps_expr (pe_meth (pe_fld (pv 0) rfl) M_liftX.c M_liftX.m M_liftX.G (hr.mono (by decide)) M_liftX.b .nil (E := E) (passes_call (W := fun cls d _ H => E cls d H) (takes_of rfl rfl rfl rfl) (fun _ _ _ _ h => h)) (pa_cons (pv 1) pa_nil)))), ?_⟩
  refine ⟨_, rfl, p, CP, a.dx, _, _, rfl, C.hp, T.cP, T.nP_standing, pF_standing, a.st, a.dk, _, rfl, C.hst, kN_lift, _, rfl, S, p, a, _, i, rfl, C, N.we, mk, fun hi H' f' C' => ?_, ke⟩
  have Z : liftM i ((x.mas ma_ sa_).tvd T0 D0) = ((liftM i x).mas ma_ sa_).tvd T0 D0 := by
    unfold liftM
    by_cases z : i ∈ x.hard
    · rw [if_pos z, if_pos (show i ∈ ((x.mas ma_ sa_).tvd T0 D0).hard from z)]
      rfl
    · rw [if_neg z, if_neg (show i ∉ ((x.mas ma_ sa_).tvd T0 D0).hard from z)]
      rfl
  rw [Z] at C'
  exact k hi _ _ f' ⟨⟨a, T0, D0, ma_, sa_, rfl, C'⟩, N.lifted⟩
abbrev sMlftA : Stmt := inClass (topS 81) 5
def scMlftAN : List Str := ["self"]
theorem scMlftA : FnScope scMlftAN ["self"] (defScope sMlftA) := ⟨rfl, rfl, rfl, by decide +kernel, rfl, by decide +kernel, by decide +kernel⟩
theorem ok_MlftA {f : Addr} {fd : FuncData} {fM_wearP : Addr} {dM_wearP : FuncData} (F : Fun K "lift_all" "Marks.lift_all" sMlftA f fd) (T : Ty K mg CB CM CP CK CW CF CH CC CI CS)
    (M_wearP : CalM P w K mg base CK 1 "wear_pages" ["self", "addresses"] (spWearP CK) fM_wearP dM_wearP) : FnOk P w K mg base CX0 2 f fd ["self"] (spLftAll CB CM CP CK CW CF CH CC CI) := by
  refine F.ok scMlftA (fun vs H Q E h => by obtain ⟨_, _, _, _, rfl, _⟩ := h; rfl) (fun cdv A outer s H vs Q E hr h => ?_)
  have hu := hu_of hr
  have z_list := T.z_list
  obtain ⟨S, p, a, x, rfl, C, hw, mk, k⟩ := h
  refine ⟨_, (pss_cons (ps_expr (pe_meth (pv 0) M_wearP.c M_wearP.m M_wearP.G (hr.mono (by decide)) M_wearP.b .nil pass0 (pa_cons (pe_callTy (call_list_dK rfl) (by rfl) z_list (by decide +kernel) (pa_cons (pe_fld (pe_fld (pv 0) rfl) rfl) pa_nil)) pa_nil)))
    (pss_cons (ps_fld (pe_fld (pv 0) rfl) pe_dnewK rfl)
    (pss_one (ps_fld (pv 0) pe_dnewK rfl)))), ?_⟩
  have hst := C.hst
  have hm0 := C.B.hm
  have hs0 := C.B.hs
  rw [← C.B.am] at hst
  refine ⟨_, rfl, a.st, a.dk, _, rfl, hst, kN_wear_pages, _, rfl, a.st, CK, a.dk, _, _, rfl, hst, T.cK, T.nK_memory, kF_memory, a.A.m, CM, a.A.dm, _, _, rfl, hm0, T.cM, T.n_swapped, mF_s, a.A.s, _, rfl, hs0, fun l nl => ?_⟩
  rw [show (swD x.b.sw).map (fun kv => kV kv.1) = x.b.sw.map V.int from by unfold swD; rw [List.map_map]; rfl]
  have r1 := same_upd' (o := .lst (x.b.sw.map V.int)) nl
  have hl : upd H l (.lst (x.b.sw.map V.int)) l = some (.lst (x.b.sw.map V.int)) := upd_same
  have C0 := C.same r1
  have nle : l ≠ a.er := fun z => by rw [z, C.her] at nl; cases nl
  generalize upd H l (.lst (x.b.sw.map V.int)) = G1 at *
  refine ⟨a.st, a.dk, _, a.hd, a.er, l, x.wear, x.b.sw, rfl, r1 _ _ hst, C0.her, hw, hl, nle, fun z hz => mk.2.1 z (List.mem_append_right _ hz), by have := mk.2.2; omega, fun H1 kp he => ?_⟩
  obtain ⟨C1, fr1⟩ := C0.worn kp he
  have fr := (Fr.of_same (F := FtP p a) r1).trans fr1
  have hst1 := C1.hst
  have hm1 := C1.B.hm
  rw [← C1.B.am] at hst1
  intro q nq
  have r2 := same_upd' (o := .dK []) nq
  refine ⟨_, rfl, a.st, CK, a.dk, _, _, rfl, r2 _ _ hst1, T.cK, T.nK_memory, kF_memory, a.A.m, CM, a.A.dm, _, rfl, r2 _ _ hm1, T.cM, T.n_swapped, (by show 2 < 1000; decide), ?_⟩
  rw [mP_s]
  have B1 := Bp.newS C1.B nq
  obtain ⟨C2, f2⟩ := C1.boardB B1 (Bp.newS_fr C1.B nq) rfl
  have hst2 := C2.hst
  generalize upd (upd H1 q (.dK [])) a.A.m (.ins CM a.A.dm (mmF a.A.w q)) = H2 at *
  intro q2 nq2
  have r3 := same_upd' (o := .dK []) nq2
  have q2s : q2 ≠ a.st := fun z => by
    have e : H2 a.st = some _ := hst2
    rw [← z, nq2] at e
    cases e
  refine ⟨_, rfl, a.st, CK, a.dk, _, rfl, r3 _ _ hst2, T.cK, T.nK_hard, (by show 3 < 1000; decide), ?_⟩
  rw [kP_hard]
  obtain ⟨C3, f3⟩ := C2.newHd (H' := upd (upd H2 q2 (.dK [])) a.st (.ins CK a.dk (mkF x.b.ma q2 a.er))) (q := q2) (fun b o n e => by rw [upd_ne n]; exact r3 _ _ e) nq2 upd_same (by rw [upd_ne q2s]; exact upd_same)
  exact k _ _ ((fr.trans f2).trans f3) { C3 with }
abbrev sMclrA : Stmt := inClass (topS 97) 13
def scMclrAN : List Str := ["self"]
theorem scMclrA : FnScope scMclrAN ["self"] (defScope sMclrA) := ⟨rfl, rfl, rfl, by decide +kernel, rfl, by decide +kernel, by decide +kernel⟩
theorem ok_MclrA {f : Addr} {fd : FuncData} {fM_lftA : Addr} {dM_lftA : FuncData} (F : Fun K "clear_marks" "Probe.clear_marks" sMclrA f fd) (T : Ty K mg CB CM CP CK CW CF CH CC CI CS)
    (M_lftA : CalM P w K mg base CK 2 "lift_all" ["self"] (spLftAll CB CM CP CK CW CF CH CC CI) fM_lftA dM_lftA) : FnOk P w K mg base CX0 3 f fd ["self"] (spClrA CB CM CP CK CW CF CH CC CI) := by
  refine F.ok scMclrA (fun vs H Q E h => by obtain ⟨_, _, _, _, rfl, _⟩ := h; rfl) (fun cdv A outer s H vs Q E hr h => ?_)
  have hu := hu_of hr
  obtain ⟨S, F_, p, x, rfl, Y, mk, k⟩ := h
  obtain ⟨⟨a, T0, D0, ma_, sa_, rfl, C⟩, N⟩ := Y
  obtain ⟨sv, tv, dv, hpb, hz⟩ := C.B.hp
  refine ⟨_, (pss_one (ps_expr (pe_meth0 (pe_fld (pv 0) rfl) M_lftA.c M_lftA.m M_lftA.G (hr.mono (by decide)) M_lftA.b .nil pass0))), ?_⟩
  refine ⟨_, rfl, p, CP, a.dx, _, _, rfl, C.hp, T.cP, T.nP_standing, pF_standing, a.st, a.dk, _, rfl, C.hst, kN_lift_all, S, p, a, _, rfl, C, N.we, mk, fun H' a' f' C' => ?_⟩
  exact k _ _ f' ⟨⟨a', T0, D0, ma_, sa_, rfl, { C' with }⟩, N.liftedA⟩
end
end Bh

/-! The wells. -/
namespace Bh
open PySem PySem.Spec PyProof.Rows L2
theorem can_ints : ∀ ns : List Int, PyData.canLayAll0 (ns.map PyData.int) = true
  | [] => rfl
  | n :: r => by
    show (PyData.canLay0 (.int n) && PyData.canLayAll0 (r.map PyData.int)) = true
    rw [can_ints r]
    rfl
def WellAt (H : Hp) (l : Addr) : Prop := ∃ u v t : Int, H l = some (.lst [.int u, .int v, .int t])
/-- all but one cell stands as it stood -/
def But (l : Addr) (H H' : Hp) : Prop := ∀ b o, b ≠ l → H b = some o → H' b = some o
theorem But.refl {l : Addr} {H : Hp} : But l H H := fun _ _ _ e => e
theorem But.trans {l : Addr} {H G J : Hp} (a : But l H G) (b : But l G J) : But l H J := fun c o n e => b c o n (a c o n e)
theorem But.of {l : Addr} {H G : Hp} (s : Same H G) : But l H G := fun c o _ e => s c o e
def spCellAt (K : PySem.W.Frag) : Sp := fun vs H Q _ => ∃ (a : Addr) (ns : List Int) (k : Nat), vs = [.ref a, .int (k : Int)] ∧ SqL K H a (ns.map V.int) ∧ ∀ z : Int, Q (.int z) H
def spWell : Sp := fun vs H Q _ => ∃ c : Int, vs = [.int c] ∧ ∀ H' l, Same H H' → H l = none → WellAt H' l → Q (.ref l) H'
def spDraw : Sp := fun vs H Q _ => ∃ (l : Addr) (W : Int), vs = [.ref l, .int W] ∧ WellAt H l ∧ 0 < W ∧ W ≤ 70000 ∧ ∀ (H' : Hp) (d : Int), But l H H' → WellAt H' l → 0 ≤ d → d < W → Q (.int d) H'
def spOne : Sp := fun vs H Q _ => ∃ (l a : Addr) (xs : List V), vs = [.ref l, .ref a] ∧ WellAt H l ∧ a ≠ l ∧ H a = some (.lst xs) ∧ xs ≠ [] ∧ xs.length ≤ 1000 ∧ ∀ (H' : Hp) (x : V), But l H H' → WellAt H' l → x ∈ xs → Q x H'
theorem joinZ {Goal : Prop} {I : Hp → Int → Prop} (R : Hp → Int → Prop) (body : (∀ G' z, I G' z → R G' z) → Goal) (key : ∀ G' z, I G' z → R G' z) : Goal := body key
theorem in_ints (z : Int) : ∀ ys : List Int, inV (.int z) (ys.map V.int) = decide (z ∈ ys)
  | [] => rfl
  | y :: ys => by
    have ih := in_ints z ys
    unfold inV at ih ⊢
    rw [List.map_cons, List.any_cons, ih]
    show ((y == z) || decide (z ∈ ys)) = decide (z ∈ y :: ys)
    by_cases e : y = z
    · subst e
      simp
    · have e2 : ¬ z = y := fun q => e q.symm
      have : (y == z) = false := by simpa using e
      rw [this]
      simp [e2]
theorem wok_app {a b : List Int} (h1 : WordsOk a) (h2 : WordsOk b) : WordsOk (a ++ b) := fun z hz => by
  rcases List.mem_append.mp hz with h | h
  · exact h1 z h
  · exact h2 z h
theorem rd_ok {ws : List Int} (h : WordsOk ws) {i : Int} (h0 : 0 ≤ i) (h1 : i < ws.length) : 0 ≤ rd ws i ∧ rd ws i ≤ 65535 := by
  unfold rd
  rw [List.getD_eq_getElem?_getD, List.getElem?_eq_getElem (show i.toNat < ws.length by omega)]
  exact h _ (List.getElem_mem _)
theorem opsL {v : V} (h : v ∈ rgV 0 24 ++ ([1, 1, 1, 1, 3, 3, 3, 2, 4, 12, 19] : List Int).map V.int) : ∃ z : Int, v = .int z ∧ 0 ≤ z ∧ z ≤ 23 := by
  rcases List.mem_append.mp h with h | h
  · unfold rgV at h
    obtain ⟨k, hk, rfl⟩ := List.mem_map.mp h
    have hk : k < 24 := List.mem_range.mp hk
    exact ⟨_, rfl, by omega, by omega⟩
  · obtain ⟨z, hz, rfl⟩ := List.mem_map.mp h
    simp only [List.mem_cons, List.not_mem_nil, or_false] at hz
    exact ⟨z, rfl, by omega, by omega⟩
theorem intsL {v : V} {ns : List Int} {lo hi : Int} (h : v ∈ ns.map V.int) (b : ∀ z ∈ ns, lo ≤ z ∧ z ≤ hi) : ∃ z : Int, v = .int z ∧ lo ≤ z ∧ z ≤ hi := by
  obtain ⟨z, hz, rfl⟩ := List.mem_map.mp h
  exact ⟨z, rfl, b z hz⟩
theorem hszL {n : Nat} (h : n ≤ 90000) : n < sizeLine := by
  have : (100000 : Nat) ≤ sizeLine := by decide
  omega
theorem lastI {ws : List Int} (h : 0 < ws.length) : ∃ z, z ∈ ws ∧ atI (ws.map V.int) (-1) = some (.int z) := by
  have hn : ws ≠ [] := fun e => by rw [e] at h; exact absurd h (by decide)
  refine ⟨ws.getLast hn, List.getLast_mem hn, ?_⟩
  have e : ws.map V.int = (ws.dropLast.map V.int) ++ [V.int (ws.getLast hn)] := by
    rw [← List.map_singleton, ← List.map_append, List.dropLast_concat_getLast hn]
  rw [e]
  exact atI_last _ _

section
variable {P : Program} {w : World} {K : PySem.W.Frag} {mg : Str → Option Value} {base : Heap} {CB CM CP CK CW CF CH CC CI CS CO CQ : Addr}
abbrev sLcell : Stmt := topS 99
def scLcellN : List Str := ["_law_script", "_law_k"]
theorem scLcell : FnScope scLcellN ["_law_script", "_law_k"] (defScope sLcell) := ⟨rfl, rfl, rfl, by decide +kernel, rfl, by decide +kernel, by decide +kernel⟩
theorem ok_Lcell {f : Addr} {fd : FuncData} (F : Fun K "_law_cell_at" "_law_cell_at" sLcell f fd) (T : Ty K mg CB CM CP CK CW CF CH CC CI CS) : FnOk P w K mg base CX0 1 f fd ["_law_script", "_law_k"] (spCellAt K) := by
  refine F.ok scLcell (fun vs H Q E h => by obtain ⟨_, _, _, rfl, _⟩ := h; rfl) (fun cdv A outer s H vs Q E hr h => ?_)
  have hu := hu_of hr
  have z_len := T.z_len
  obtain ⟨a, ns, k, rfl, hS, q⟩ := h
  refine ⟨_, (pss_cons (ps_if (pt_cmpR op_lt (pv 1) (pe_callB call_len_seq (by rfl) z_len PySem.boot_len (pa_cons (pv 0) pa_nil)) (nomark _)) (pss_one (ps_ret (pe_ix ix_list (pv 0) (pv 1) (fun _ _ => rfl)))) pss_nil)
    (pss_one (ps_ret pe_int))), ?_⟩
  refine ⟨_, rfl, _, rfl, a, _, rfl, .inl hS, _, _, rfl, rfl, _, rfl, ifB (fun h => ?_) (fun _ => q 0)⟩
  have h := of_decide_eq_true h
  rw [List.length_map] at h
  exact ⟨_, rfl, _, rfl, a, _, _, _, rfl, rfl, hS, atI_rd (m := ns) (i := (k : Int)) (by omega) (by omega), q _⟩
abbrev sLwell : Stmt := topS 100
def scLwellN : List Str := ["_law_cell"]
theorem scLwell : FnScope scLwellN ["_law_cell"] (defScope sLwell) := ⟨rfl, rfl, rfl, by decide +kernel, rfl, by decide +kernel, by decide +kernel⟩
theorem ok_Lwell {f : Addr} {fd : FuncData} (F : Fun K "_law_well" "_law_well" sLwell f fd) (T : Ty K mg CB CM CP CK CW CF CH CC CI CS) : FnOk P w K mg base CX0 1 f fd ["_law_cell"] (spWell) := by
  refine F.ok scLwell (fun vs H Q E h => by obtain ⟨_, rfl, _⟩ := h; rfl) (fun cdv A outer s H vs Q E hr h => ?_)
  have hu := hu_of hr
  have z_int := T.z_int
  obtain ⟨c, rfl, q⟩ := h
  refine ⟨_, (pss_one (ps_ret (pe_lst (pa_cons (pe_op op_mul (pv 0) (pe_callTy call_int1 (by rfl) z_int (by decide +kernel) (pa_cons (pe_cmpR op_ge (pv 0) (pe_op op_pow pe_int pe_int) (nomark _)) pa_nil))) (pa_cons (pe_op op_mod (pv 0) pe_int) (pa_cons pe_int pa_nil)))))), ?_⟩
  refine ⟨_, rfl, _, rfl, _, _, rfl, rfl, ⟨by decide, by decide, by decide⟩, _, _, rfl, rfl, .inr ⟨_, rfl, ?_⟩⟩
  refine ⟨_, _, rfl, rfl, .inr ⟨by split <;> decide, by split <;> decide⟩, _, rfl, _, _, rfl, rfl, (by show (0 : Int) < 2147483647; decide), (by show 3 ≤ sizeLine; decide), fun l nl => ?_⟩
  exact q _ l (same_upd' nl) nl ⟨_, _, _, upd_same⟩
abbrev sLdraw : Stmt := topS 101
def scLdrawN : List Str := ["_law_well_here", "_law_wide", "_law_found", "_law_number"]
theorem scLdraw : FnScope scLdrawN ["_law_well_here", "_law_wide"] (defScope sLdraw) := ⟨rfl, rfl, rfl, by decide +kernel, rfl, by decide +kernel, by decide +kernel⟩
theorem ok_Ldraw {f : Addr} {fd : FuncData} (F : Fun K "_law_draw" "_law_draw" sLdraw f fd) (T : Ty K mg CB CM CP CK CW CF CH CC CI CS) : FnOk P w K mg base CX0 1 f fd ["_law_well_here", "_law_wide"] (spDraw) := by
  refine F.ok scLdraw (fun vs H Q E h => by obtain ⟨_, _, rfl, _⟩ := h; rfl) (fun cdv A outer s H vs Q E hr h => ?_)
  have hu := hu_of hr
  obtain ⟨l, W, rfl, hw, W0, W1, q⟩ := h
  refine ⟨_, (pss_cons (ps_if (pt_cmpR op_gt (pe_ix ix_list (pv 0) pe_int (fun _ _ => rfl)) pe_int (nomark _)) (pss_cons (ps_set (i := 2) scLdraw.nd rfl (.inl rfl) (pe_op op_mod (pe_ix ix_list (pv 0) pe_int (fun _ _ => rfl)) (pv 1)))
    (pss_cons (ps_asg (pe_op op_fdiv (pe_ix ix_list (pv 0) pe_int (fun _ _ => rfl)) (pv 1)) (pg_sub (pv 0) pe_int set_list))
    (pss_one (ps_ret (pv 2))))) pss_nil)
    (pss_cons (ps_asg (pe_op op_add (pe_ix ix_list (pv 0) pe_int (fun _ _ => rfl)) pe_int) (pg_sub (pv 0) pe_int set_list))
    (pss_cons (ps_set (i := 3) scLdraw.nd rfl (.inl rfl) (pe_op op_mod (pe_op op_mul (pe_op op_add (pe_op op_add (pe_ix ix_list (pv 0) pe_int (fun _ _ => rfl)) (pe_op op_mul pe_int (pe_ix ix_list (pv 0) pe_int (fun _ _ => rfl)))) pe_int) pe_int) pe_int))
    (pss_cons (ps_set (i := 3) scLdraw.nd rfl (.inl rfl) (pe_op op_mod (pe_op op_mul (pv 3) (pe_op op_add (pe_op op_fdiv (pv 3) pe_int) pe_int)) pe_int))
    (pss_one (ps_ret (pe_op op_mod (pe_op op_mod (pe_op op_mul (pv 3) (pe_op op_add (pe_op op_fdiv (pv 3) pe_int) pe_int)) pe_int) (pv 1)))))))), ?_⟩
  obtain ⟨u, v, t, hl⟩ := hw
  refine ⟨_, rfl, l, _, 0, _, rfl, rfl, SqL.of hl, atI_nat (j := 0) rfl, _, _, rfl, rfl, _, rfl, ifB (fun _ => ?_) (fun _ => ?_)⟩
  · refine ⟨_, rfl, l, _, 0, _, rfl, rfl, SqL.of hl, atI_nat (j := 0) rfl, _, rfl, _, _, rfl, rfl, W0, ?_⟩
    refine ⟨_, rfl, l, _, 0, _, rfl, rfl, SqL.of hl, atI_nat (j := 0) rfl, _, rfl, _, _, rfl, rfl, ⟨W0, by omega⟩, _, rfl, l, _, _, _, rfl, rfl, hl, ixN_in (by decide) (by show (0 : Int) < 3; decide), ?_⟩
    exact ⟨_, rfl, q _ _ (fun b o n e => by rw [upd_ne n]; exact e) ⟨_, _, _, upd_same⟩ (Int.emod_nonneg u (by omega)) (Int.emod_lt_of_pos u W0)⟩
  refine ⟨_, rfl, l, _, 2, _, rfl, rfl, SqL.of hl, atI_nat (j := 2) rfl, _, _, rfl, rfl, _, rfl, l, _, _, _, rfl, rfl, hl, ixN_in (by decide) (by show (2 : Int) < 3; decide), ?_⟩
  have hl2 : upd H l (.lst ([V.int u, V.int v, V.int t].set (2 : Int).toNat (V.int (t + 1)))) l = some (.lst [.int u, .int v, .int (t + 1)]) := upd_same
  have k2 : But l H (upd H l (.lst ([V.int u, V.int v, V.int t].set (2 : Int).toNat (V.int (t + 1))))) := fun b o n e => by rw [upd_ne n]; exact e
  generalize upd H l (.lst ([V.int u, V.int v, V.int t].set (2 : Int).toNat (V.int (t + 1)))) = G2 at *
  refine ⟨_, rfl, l, _, 1, _, rfl, rfl, SqL.of hl2, atI_nat (j := 1) rfl, _, rfl, l, _, 2, _, rfl, rfl, SqL.of hl2, atI_nat (j := 2) rfl, _, _, rfl, rfl, .inl ⟨by decide, by decide⟩, _, _, rfl, rfl, _, _, rfl, rfl, _, _, rfl, rfl, .inr ⟨by decide, by decide⟩, _, _, rfl, rfl, (by show (0 : Int) < 2147483647; decide), ?_⟩
  have a0 := Int.emod_nonneg ((v + 7919 * (t + 1) + 1) * 48271) (show (2147483647 : Int) ≠ 0 by decide)
  have a1 := Int.emod_lt_of_pos ((v + 7919 * (t + 1) + 1) * 48271) (show (0 : Int) < 2147483647 by decide)
  refine ⟨_, rfl, _, rfl, _, _, rfl, rfl, ⟨by decide, by decide⟩, _, _, rfl, rfl, _, _, rfl, rfl, .inl ⟨by omega, by omega⟩, _, _, rfl, rfl, (by show (0 : Int) < 2147483647; decide), ?_⟩
  have b0 := Int.emod_nonneg (((v + 7919 * (t + 1) + 1) * 48271 % 2147483647) * (((v + 7919 * (t + 1) + 1) * 48271 % 2147483647) / 1009 + 69621)) (show (2147483647 : Int) ≠ 0 by decide)
  have b1 := Int.emod_lt_of_pos (((v + 7919 * (t + 1) + 1) * 48271 % 2147483647) * (((v + 7919 * (t + 1) + 1) * 48271 % 2147483647) / 1009 + 69621)) (show (0 : Int) < 2147483647 by decide)
  generalize ((v + 7919 * (t + 1) + 1) * 48271 % 2147483647) * (((v + 7919 * (t + 1) + 1) * 48271 % 2147483647) / 1009 + 69621) % 2147483647 = z at *
  refine ⟨_, rfl, _, rfl, _, _, rfl, rfl, ⟨by decide, by decide⟩, _, _, rfl, rfl, _, _, rfl, rfl, .inl ⟨by omega, by omega⟩, _, _, rfl, rfl, (by show (0 : Int) < 2147483399; decide), _, rfl, _, _, rfl, rfl, W0, ?_⟩
  exact q _ _ k2 ⟨_, _, _, hl2⟩ (Int.emod_nonneg _ (by omega)) (Int.emod_lt_of_pos _ W0)
abbrev sLone : Stmt := topS 102
def scLoneN : List Str := ["_law_well_here", "_law_some"]
theorem scLone : FnScope scLoneN ["_law_well_here", "_law_some"] (defScope sLone) := ⟨rfl, rfl, rfl, by decide +kernel, rfl, by decide +kernel, by decide +kernel⟩
theorem ok_Lone {f : Addr} {fd : FuncData} {fL_draw : Addr} {dL_draw : FuncData} (F : Fun K "_law_one" "_law_one" sLone f fd) (T : Ty K mg CB CM CP CK CW CF CH CC CI CS)
    (L_draw : CalF P w K mg base 1 "_law_draw" ["_law_well_here", "_law_wide"] (spDraw) fL_draw dL_draw) : FnOk P w K mg base CX0 2 f fd ["_law_well_here", "_law_some"] (spOne) := by
  refine F.ok scLone (fun vs H Q E h => by obtain ⟨_, _, _, rfl, _⟩ := h; rfl) (fun cdv A outer s H vs Q E hr h => ?_)
  have hu := hu_of hr
  have z_len := T.z_len
  obtain ⟨l, a, xs, rfl, hw, na, ha, hx, hx2, q⟩ := h
  refine ⟨_, (pss_one (ps_ret (pe_ix ix_list (pv 1) (pe_call L_draw.G (hr.mono (by decide)) (by rfl) L_draw.g L_draw.kp L_draw.b .nil pass0 (pa_cons (pv 0) (pa_cons (pe_callB call_len_seq (by rfl) z_len PySem.boot_len (pa_cons (pv 1) pa_nil)) pa_nil))) (fun _ _ => rfl)))), ?_⟩
  refine ⟨_, rfl, _, rfl, _, rfl, a, _, rfl, .inl (SqL.of ha), l, _, rfl, hw, ?_, ?_, fun H' d k hw' d0 d1 => ?_⟩
  · have : 0 < xs.length := List.length_pos_iff.mpr hx
    omega
  · omega
  have hd : d.toNat < xs.length := by omega
  have ea : atI xs d = some xs[d.toNat] := by
    have h := atI_nat (xs := xs) (List.getElem?_eq_getElem hd)
    rwa [show ((d.toNat : Nat) : Int) = d by omega] at h
  exact ⟨a, _, _, _, rfl, rfl, SqL.of (k _ _ na ha), ea, q _ _ k hw' (List.getElem_mem hd)⟩
end
end Bh

/-! The law's own probe. -/
namespace Bh
open PySem PySem.Spec PyProof.Rows L2
section
variable {X : Cx}
/-- d.update(e) -/
def rDUpd : V → List V → Hp → VK → Prop := fun x vs H Q => ∃ (a b : Addr) (ks ls : List (Key × V)), x = .ref a ∧ vs = [.ref b] ∧ a ≠ b ∧ H a = some (.dK ks) ∧ H b = some (.dK ls) ∧ ks.length + ls.length ≤ sizeLine ∧ Q .non (upd H a (.dK (mergeK ks ls)))
theorem mtd_update : MtR X "dict.update" rDUpd := by
  intro pins s σ H x vs v us Q I rx rv h
  obtain ⟨a, b, ks, ls, rfl, rfl, hab, ha, hb, hsz, q⟩ := h
  cases rx
  cases rv with
  | cons r1 rr =>
    cases rr
    cases r1
    obtain ⟨z1, d1, va, ra, da⟩ := dk_of I.hok ha
    obtain ⟨z2, d2, vb, rb, db⟩ := dk_of I.hok hb
    refine call_meetsIn PySem.F.slot_dict_update da.typeIs PySem.F.entry_dict_update (PySem.F.args_dict_update_2 _ _) (meets_dict_update (mixKind X.prog X.w) a b hab d2) ⟨va, vb, da, db, by rw [← ra.length, ← rb.length]; exact hsz, fun h' da' db' hs => ?_⟩
    have he : ∃ q, h'.get? a = some q := let ⟨q, _, _, hq, _⟩ := da'; ⟨q, hq⟩
    exact ⟨.non, _, d_write (t' := s.toks) I (by rw [ha]; exact True.intro) hs he (dk_new (Nat.le_trans (length_mergeK ls ks) hsz) d1 (KV.merge rb ra) da'), rfl, q⟩
end
def lbD (m ln se so to : Addr) : List (Key × V) := [(Sum.inr "m", .ref m), (Sum.inr "line", .ref ln), (Sum.inr "a", .int 0), (Sum.inr "b", .int 0), (Sum.inr "pc", .int 0), (Sum.inr "sp", .int 767), (Sum.inr "zero", .bl false), (Sum.inr "lets", .bl false), (Sum.inr "asleep", .bl false), (Sum.inr "beat", .int 0), (Sum.inr "stop", .non), (Sum.inr "sent", .ref se), (Sum.inr "soft", .ref so), (Sum.inr "touched", .ref to)]
def spLBrd : Sp := fun vs H Q _ => ∃ (im li : Addr) (ns : List Int), vs = [.ref im, .ref li] ∧ H im = some (.lst (ns.map V.int)) ∧ ns.length ≤ 512 ∧ H li = some (.lst []) ∧
  ∀ (H' : Hp) (d m ln se so to : Addr), Same H H' → H' d = some (.dK (lbD m ln se so to)) → H' m = some (.lst ((memOf ns).map V.int)) → H' se = some (.lst []) → H' so = some (.dK []) → H so = none → H m = none → H se = none → H d = none → Q (.ref d) H'
section
variable {P : Program} {w : World} {K : PySem.W.Frag} {mg : Str → Option Value} {base : Heap} {CB CM CP CK CW CF CH CC CI CS CN CL : Addr}
abbrev sLbrd : Stmt := topS 103
def scLbrdN : List Str := ["_law_image", "_law_line", "_law_b"]
theorem scLbrd : FnScope scLbrdN ["_law_image", "_law_line"] (defScope sLbrd) := ⟨rfl, rfl, rfl, by decide +kernel, rfl, by decide +kernel, by decide +kernel⟩
theorem ok_Lbrd {f : Addr} {fd : FuncData} (F : Fun K "_law_board" "_law_board" sLbrd f fd) (T : Ty K mg CB CM CP CK CW CF CH CC CI CS)
    (z_dict : mg "dict" = none) : FnOk P w K mg base CX0 1 f fd ["_law_image", "_law_line"] (spLBrd) := by
  refine F.ok scLbrd (fun vs H Q E h => by obtain ⟨_, _, _, rfl, _⟩ := h; rfl) (fun cdv A outer s H vs Q E hr h => ?_)
  have hu := hu_of hr
  have z_len := T.z_len
  have z_list := T.z_list
  obtain ⟨im, li, ns, rfl, him, hl, hli, q⟩ := h
  refine ⟨_, (pss_cons (ps_set (i := 2) scLbrd.nd rfl (.inl rfl) (pe_disp (pps_cons pe_str (pe_op op_cat (pe_op op_cat (pe_callTy call_list_of (by rfl) z_list (by decide +kernel) (pa_cons (pv 0) pa_nil)) (pe_op op_rep (pe_lst (pa_cons pe_int pa_nil)) (pe_op op_sub pe_int (pe_callB call_len_seq (by rfl) z_len PySem.boot_len (pa_cons (pv 0) pa_nil))))) (pe_op op_rep (pe_lst (pa_cons pe_int pa_nil)) pe_int)) (pps_cons pe_str (pe_callTy (call_dictP rfl) (by rfl) z_dict (by decide +kernel) (pa_cons (pv 1) pa_nil)) (pps_cons pe_str pe_int (pps_cons pe_str pe_int (pps_cons pe_str pe_int pps_nil))))) rfl rfl (by intro h; cases h) (by decide)))
    (pss_cons (ps_expr (pe_bm PySem.F.plainAttrs_dict PySem.F.slot_dict_update PySem.F.type_dict_update mtd_update (pv 2) (pa_cons (pe_disp (pps_cons pe_str pe_int (pps_cons pe_str pe_bl (pps_cons pe_str pe_bl (pps_cons pe_str pe_bl (pps_cons pe_str pe_int (pps_cons pe_str pe_non (pps_cons pe_str (pe_lst pa_nil) pps_nil))))))) rfl rfl (by intro h; cases h) (by decide)) pa_nil)))
    (pss_cons (ps_dput hu (pv 2) pe_str pe_dnewK rfl)
    (pss_cons (ps_dput hu (pv 2) pe_str (pe_lst pa_nil) rfl)
    (pss_one (ps_ret (pv 2))))))), ?_⟩
  intro d nd
  have sm := same_upd' (o := .dK []) nd
  have hd : upd H d (.dK []) d = some (.dK []) := upd_same
  have him := sm _ _ him
  have hli := sm _ _ hli
  generalize upd H d (.dK []) = G0 at *
  refine ⟨_, rfl, im, _, rfl, .inl (SqL.of him), fun l1 n1 => ?_⟩
  have r1 := same_upd' (o := .lst (ns.map V.int)) n1
  have h1 : upd G0 l1 (.lst (ns.map V.int)) l1 = some (.lst (ns.map V.int)) := upd_same
  have hd := r1 _ _ hd
  have him := r1 _ _ him
  have hli := r1 _ _ hli
  have sm := sm.trans r1
  generalize upd G0 l1 (.lst (ns.map V.int)) = G1 at *
  refine ⟨(by show 1 ≤ sizeLine; decide), fun l2 n2 => ?_⟩
  have r2 := same_upd' (o := .lst [.int 65535]) n2
  have h2 : upd G1 l2 (.lst [.int 65535]) l2 = some (.lst [.int 65535]) := upd_same
  have hd := r2 _ _ hd
  have him := r2 _ _ him
  have hli := r2 _ _ hli
  have h1 := r2 _ _ h1
  have sm := sm.trans r2
  generalize upd G1 l2 (.lst [.int 65535]) = G2 at *
  refine ⟨_, rfl, im, _, rfl, .inl (SqL.of him), _, _, rfl, rfl, l2, _, _, rfl, rfl, h2, ?_, ?_, ?_, fun l3 n3 => ?_⟩
  · rw [List.length_map]; omega
  · rw [List.length_map]; omega
  · rw [List.length_map, List.length_singleton]; exact hsz (by omega)
  have e2 : (List.replicate (512 - ((ns.map V.int).length : Int)).toNat [V.int 65535]).flatten = (List.replicate (512 - ns.length) (65535 : Int)).map V.int := by
    rw [List.length_map, show (512 - (ns.length : Int)).toNat = 512 - ns.length by omega]
    exact flat_rep _ _
  rw [e2]
  have r3 := same_upd' (o := .lst ((List.replicate (512 - ns.length) (65535 : Int)).map V.int)) n3
  have h3 : upd G2 l3 (.lst ((List.replicate (512 - ns.length) (65535 : Int)).map V.int)) l3 = some (.lst ((List.replicate (512 - ns.length) (65535 : Int)).map V.int)) := upd_same
  have hd := r3 _ _ hd
  have hli := r3 _ _ hli
  have h1 := r3 _ _ h1
  have sm := sm.trans r3
  generalize upd G2 l3 (.lst ((List.replicate (512 - ns.length) (65535 : Int)).map V.int)) = G3 at *
  refine ⟨l1, l3, _, _, rfl, rfl, h1, h3, ?_, fun l4 n4 => ?_⟩
  · rw [List.length_map, List.length_map, List.length_replicate]; exact hsz (by omega)
  have r4 := same_upd' (o := .lst (ns.map V.int ++ (List.replicate (512 - ns.length) (65535 : Int)).map V.int)) n4
  have h4 : upd G3 l4 (.lst (ns.map V.int ++ (List.replicate (512 - ns.length) (65535 : Int)).map V.int)) l4 = some (.lst (ns.map V.int ++ (List.replicate (512 - ns.length) (65535 : Int)).map V.int)) := upd_same
  have hd := r4 _ _ hd
  have hli := r4 _ _ hli
  have sm := sm.trans r4
  generalize upd G3 l4 (.lst (ns.map V.int ++ (List.replicate (512 - ns.length) (65535 : Int)).map V.int)) = G4 at *
  refine ⟨(by show 1 ≤ sizeLine; decide), fun l5 n5 => ?_⟩
  have r5 := same_upd' (o := .lst [.int 0]) n5
  have h5 : upd G4 l5 (.lst [.int 0]) l5 = some (.lst [.int 0]) := upd_same
  have hd := r5 _ _ hd
  have hli := r5 _ _ hli
  have h4 := r5 _ _ h4
  have sm := sm.trans r5
  generalize upd G4 l5 (.lst [.int 0]) = G5 at *
  refine ⟨l5, _, _, rfl, rfl, h5, by decide, by decide, (by show 1 * 262 ≤ sizeLine; decide), fun l6 n6 => ?_⟩
  have e4 : (List.replicate (262 : Int).toNat [V.int 0]).flatten = (List.replicate 262 (0 : Int)).map V.int := flat_rep 262 0
  rw [e4]
  have r6 := same_upd' (o := .lst ((List.replicate 262 (0 : Int)).map V.int)) n6
  have h6 : upd G5 l6 (.lst ((List.replicate 262 (0 : Int)).map V.int)) l6 = some (.lst ((List.replicate 262 (0 : Int)).map V.int)) := upd_same
  have hd := r6 _ _ hd
  have hli := r6 _ _ hli
  have h4 := r6 _ _ h4
  have sm := sm.trans r6
  generalize upd G5 l6 (.lst ((List.replicate 262 (0 : Int)).map V.int)) = G6 at *
  refine ⟨l4, l6, _, _, rfl, rfl, h4, h6, ?_, fun l7 n7 => ?_⟩
  · rw [List.length_append, List.length_map, List.length_map, List.length_map, List.length_replicate, List.length_replicate]; exact hsz (by omega)
  have f7 : H l7 = none := sm.free n7
  have n7d : l7 ≠ d := (ne_of_none hd n7).symm
  have em : ns.map V.int ++ (List.replicate (512 - ns.length) (65535 : Int)).map V.int ++ (List.replicate 262 (0 : Int)).map V.int = (memOf ns).map V.int := by
    unfold memOf
    rw [List.map_append, List.map_append]
  rw [em]
  have r7 := same_upd' (o := .lst ((memOf ns).map V.int)) n7
  have h7 : upd G6 l7 (.lst ((memOf ns).map V.int)) l7 = some (.lst ((memOf ns).map V.int)) := upd_same
  have hd := r7 _ _ hd
  have hli := r7 _ _ hli
  have sm := sm.trans r7
  generalize upd G6 l7 (.lst ((memOf ns).map V.int)) = G7 at *
  refine ⟨_, rfl, li, [], [], rfl, SqL.of hli, .nil, fun l8 n8 => ?_⟩
  rw [show mergeK [] ([] : List (Key × V)) = [] from rfl]
  have r8 := same_upd' (o := .dK []) n8
  have h8 : upd G7 l8 (.dK []) l8 = some (.dK []) := upd_same
  have hd := r8 _ _ hd
  have h7 := r8 _ _ h7
  have sm := sm.trans r8
  generalize upd G7 l8 (.dK []) = G8 at *
  refine ⟨hd, [((Sum.inr "m" : Key), V.ref l7), (Sum.inr "line", .ref l8), (Sum.inr "a", .int 0), (Sum.inr "b", .int 0), (Sum.inr "pc", .int 0)], rfl, (by show 5 ≤ 15; decide), ?_⟩
  have em8 : mergeK [] ([((Sum.inr "m" : Key), V.ref l7), (Sum.inr "line", .ref l8), (Sum.inr "a", .int 0), (Sum.inr "b", .int 0), (Sum.inr "pc", .int 0)] : List (Key × V)) = [((Sum.inr "m" : Key), V.ref l7), (Sum.inr "line", .ref l8), (Sum.inr "a", .int 0), (Sum.inr "b", .int 0), (Sum.inr "pc", .int 0)] := by kernel_rfl
  rw [em8]
  have h7 : upd G8 d (.dK [((Sum.inr "m" : Key), V.ref l7), (Sum.inr "line", .ref l8), (Sum.inr "a", .int 0), (Sum.inr "b", .int 0), (Sum.inr "pc", .int 0)]) l7 = some (.lst ((memOf ns).map V.int)) := by rw [upd_ne n7d]; exact h7
  have h9 : upd G8 d (.dK [((Sum.inr "m" : Key), V.ref l7), (Sum.inr "line", .ref l8), (Sum.inr "a", .int 0), (Sum.inr "b", .int 0), (Sum.inr "pc", .int 0)]) d = some (.dK [((Sum.inr "m" : Key), V.ref l7), (Sum.inr "line", .ref l8), (Sum.inr "a", .int 0), (Sum.inr "b", .int 0), (Sum.inr "pc", .int 0)]) := upd_same
  have fd := nd
  have sm := same_of (o := .dK [((Sum.inr "m" : Key), V.ref l7), (Sum.inr "line", .ref l8), (Sum.inr "a", .int 0), (Sum.inr "b", .int 0), (Sum.inr "pc", .int 0)]) sm nd
  generalize upd G8 d (.dK [((Sum.inr "m" : Key), V.ref l7), (Sum.inr "line", .ref l8), (Sum.inr "a", .int 0), (Sum.inr "b", .int 0), (Sum.inr "pc", .int 0)]) = G9 at *
  refine ⟨_, rfl, .inr (.inr (.inl ⟨rfl, .inl ⟨_, h9⟩⟩)), ?_⟩
  intro e ne_
  have sm0 := sm
  have nde : d ≠ e := ne_of_none h9 ne_
  have r10 := same_upd' (o := .dK []) ne_
  have h10 : upd G9 e (.dK []) e = some (.dK []) := upd_same
  have h9 := r10 _ _ h9
  have h7 := r10 _ _ h7
  have sm := sm.trans r10
  generalize upd G9 e (.dK []) = G10 at *
  refine ⟨Nat.zero_le _, fun se nse => ?_⟩
  have fse : H se = none := sm.free nse
  have r11 := same_upd' (o := .lst []) nse
  have hse : upd G10 se (.lst []) se = some (.lst []) := upd_same
  have h10 := r11 _ _ h10
  have h9 := r11 _ _ h9
  have h7 := r11 _ _ h7
  have sm := sm.trans r11
  generalize upd G10 se (.lst []) = G11 at *
  refine ⟨h10, [((Sum.inr "sp" : Key), V.int 767), (Sum.inr "zero", .bl false), (Sum.inr "lets", .bl false), (Sum.inr "asleep", .bl false), (Sum.inr "beat", .int 0), (Sum.inr "stop", .non), (Sum.inr "sent", .ref se)], rfl, (by show 7 ≤ 15; decide), ?_⟩
  have em2 : mergeK [] ([((Sum.inr "sp" : Key), V.int 767), (Sum.inr "zero", .bl false), (Sum.inr "lets", .bl false), (Sum.inr "asleep", .bl false), (Sum.inr "beat", .int 0), (Sum.inr "stop", .non), (Sum.inr "sent", .ref se)] : List (Key × V)) = [((Sum.inr "sp" : Key), V.int 767), (Sum.inr "zero", .bl false), (Sum.inr "lets", .bl false), (Sum.inr "asleep", .bl false), (Sum.inr "beat", .int 0), (Sum.inr "stop", .non), (Sum.inr "sent", .ref se)] := by kernel_rfl
  rw [em2]
  have k12 : ∀ b o, b ≠ e → G11 b = some o → upd G11 e (.dK [((Sum.inr "sp" : Key), V.int 767), (Sum.inr "zero", .bl false), (Sum.inr "lets", .bl false), (Sum.inr "asleep", .bl false), (Sum.inr "beat", .int 0), (Sum.inr "stop", .non), (Sum.inr "sent", .ref se)]) b = some o := fun b o n x => by rw [upd_ne n]; exact x
  have h9 := k12 _ _ nde h9
  have h7 := k12 _ _ (ne_of h7 h10 (by intro z; cases z)) h7
  have hse := k12 _ _ (ne_of hse h10 (by intro z; cases z)) hse
  have h10' : upd G11 e (.dK [((Sum.inr "sp" : Key), V.int 767), (Sum.inr "zero", .bl false), (Sum.inr "lets", .bl false), (Sum.inr "asleep", .bl false), (Sum.inr "beat", .int 0), (Sum.inr "stop", .non), (Sum.inr "sent", .ref se)]) e = some (.dK [((Sum.inr "sp" : Key), V.int 767), (Sum.inr "zero", .bl false), (Sum.inr "lets", .bl false), (Sum.inr "asleep", .bl false), (Sum.inr "beat", .int 0), (Sum.inr "stop", .non), (Sum.inr "sent", .ref se)]) := upd_same
  have fe : H e = none := sm0.free ne_
  have sm := same_of (o := .dK [((Sum.inr "sp" : Key), V.int 767), (Sum.inr "zero", .bl false), (Sum.inr "lets", .bl false), (Sum.inr "asleep", .bl false), (Sum.inr "beat", .int 0), (Sum.inr "stop", .non), (Sum.inr "sent", .ref se)]) sm fe
  generalize upd G11 e (.dK [((Sum.inr "sp" : Key), V.int 767), (Sum.inr "zero", .bl false), (Sum.inr "lets", .bl false), (Sum.inr "asleep", .bl false), (Sum.inr "beat", .int 0), (Sum.inr "stop", .non), (Sum.inr "sent", .ref se)]) = G12 at *
  refine ⟨d, e, _, _, rfl, rfl, nde, h9, h10', (by show 5 + 7 ≤ sizeLine; decide), ?_⟩
  have em3 : mergeK ([((Sum.inr "m" : Key), V.ref l7), (Sum.inr "line", .ref l8), (Sum.inr "a", .int 0), (Sum.inr "b", .int 0), (Sum.inr "pc", .int 0)] : List (Key × V)) [((Sum.inr "sp" : Key), V.int 767), (Sum.inr "zero", .bl false), (Sum.inr "lets", .bl false), (Sum.inr "asleep", .bl false), (Sum.inr "beat", .int 0), (Sum.inr "stop", .non), (Sum.inr "sent", .ref se)] = [((Sum.inr "m" : Key), V.ref l7), (Sum.inr "line", .ref l8), (Sum.inr "a", .int 0), (Sum.inr "b", .int 0), (Sum.inr "pc", .int 0)] ++ [((Sum.inr "sp" : Key), V.int 767), (Sum.inr "zero", .bl false), (Sum.inr "lets", .bl false), (Sum.inr "asleep", .bl false), (Sum.inr "beat", .int 0), (Sum.inr "stop", .non), (Sum.inr "sent", .ref se)] := by kernel_rfl
  rw [em3]
  have k13 : ∀ b o, b ≠ d → G12 b = some o → upd G12 d (.dK ([((Sum.inr "m" : Key), V.ref l7), (Sum.inr "line", .ref l8), (Sum.inr "a", .int 0), (Sum.inr "b", .int 0), (Sum.inr "pc", .int 0)] ++ [((Sum.inr "sp" : Key), V.int 767), (Sum.inr "zero", .bl false), (Sum.inr "lets", .bl false), (Sum.inr "asleep", .bl false), (Sum.inr "beat", .int 0), (Sum.inr "stop", .non), (Sum.inr "sent", .ref se)])) b = some o := fun b o n x => by rw [upd_ne n]; exact x
  have h7 := k13 _ _ (ne_of h7 h9 (by intro z; cases z)) h7
  have hse := k13 _ _ (ne_of hse h9 (by intro z; cases z)) hse
  have h9' : upd G12 d (.dK ([((Sum.inr "m" : Key), V.ref l7), (Sum.inr "line", .ref l8), (Sum.inr "a", .int 0), (Sum.inr "b", .int 0), (Sum.inr "pc", .int 0)] ++ [((Sum.inr "sp" : Key), V.int 767), (Sum.inr "zero", .bl false), (Sum.inr "lets", .bl false), (Sum.inr "asleep", .bl false), (Sum.inr "beat", .int 0), (Sum.inr "stop", .non), (Sum.inr "sent", .ref se)])) d = some (.dK ([((Sum.inr "m" : Key), V.ref l7), (Sum.inr "line", .ref l8), (Sum.inr "a", .int 0), (Sum.inr "b", .int 0), (Sum.inr "pc", .int 0)] ++ [((Sum.inr "sp" : Key), V.int 767), (Sum.inr "zero", .bl false), (Sum.inr "lets", .bl false), (Sum.inr "asleep", .bl false), (Sum.inr "beat", .int 0), (Sum.inr "stop", .non), (Sum.inr "sent", .ref se)])) := upd_same
  have sm := same_of (o := .dK ([((Sum.inr "m" : Key), V.ref l7), (Sum.inr "line", .ref l8), (Sum.inr "a", .int 0), (Sum.inr "b", .int 0), (Sum.inr "pc", .int 0)] ++ [((Sum.inr "sp" : Key), V.int 767), (Sum.inr "zero", .bl false), (Sum.inr "lets", .bl false), (Sum.inr "asleep", .bl false), (Sum.inr "beat", .int 0), (Sum.inr "stop", .non), (Sum.inr "sent", .ref se)])) sm fd
  generalize upd G12 d (.dK ([((Sum.inr "m" : Key), V.ref l7), (Sum.inr "line", .ref l8), (Sum.inr "a", .int 0), (Sum.inr "b", .int 0), (Sum.inr "pc", .int 0)] ++ [((Sum.inr "sp" : Key), V.int 767), (Sum.inr "zero", .bl false), (Sum.inr "lets", .bl false), (Sum.inr "asleep", .bl false), (Sum.inr "beat", .int 0), (Sum.inr "stop", .non), (Sum.inr "sent", .ref se)])) = G13 at *
  intro so nso
  have fso : H so = none := sm.free nso
  have r14 := same_upd' (o := .dK []) nso
  have hso : upd G13 so (.dK []) so = some (.dK []) := upd_same
  have nds : d ≠ so := ne_of_none h9' nso
  have h9' := r14 _ _ h9'
  have h7 := r14 _ _ h7
  have hse := r14 _ _ hse
  have sm := sm.trans r14
  generalize upd G13 so (.dK []) = G14 at *
  refine ⟨_, rfl, d, _, rfl, DPut.k (k := Sum.inr "soft") h9' (by show 12 < sizeLine; decide), ?_⟩
  have e15 : putK ([((Sum.inr "m" : Key), V.ref l7), (Sum.inr "line", .ref l8), (Sum.inr "a", .int 0), (Sum.inr "b", .int 0), (Sum.inr "pc", .int 0)] ++ [((Sum.inr "sp" : Key), V.int 767), (Sum.inr "zero", .bl false), (Sum.inr "lets", .bl false), (Sum.inr "asleep", .bl false), (Sum.inr "beat", .int 0), (Sum.inr "stop", .non), (Sum.inr "sent", .ref se)]) (Sum.inr "soft") (V.ref so) = [((Sum.inr "m" : Key), V.ref l7), (Sum.inr "line", .ref l8), (Sum.inr "a", .int 0), (Sum.inr "b", .int 0), (Sum.inr "pc", .int 0)] ++ [((Sum.inr "sp" : Key), V.int 767), (Sum.inr "zero", .bl false), (Sum.inr "lets", .bl false), (Sum.inr "asleep", .bl false), (Sum.inr "beat", .int 0), (Sum.inr "stop", .non), (Sum.inr "sent", .ref se)] ++ [((Sum.inr "soft" : Key), V.ref so)] := by kernel_rfl
  rw [e15]
  have k15 : ∀ b o, b ≠ d → G14 b = some o → upd G14 d (.dK ([((Sum.inr "m" : Key), V.ref l7), (Sum.inr "line", .ref l8), (Sum.inr "a", .int 0), (Sum.inr "b", .int 0), (Sum.inr "pc", .int 0)] ++ [((Sum.inr "sp" : Key), V.int 767), (Sum.inr "zero", .bl false), (Sum.inr "lets", .bl false), (Sum.inr "asleep", .bl false), (Sum.inr "beat", .int 0), (Sum.inr "stop", .non), (Sum.inr "sent", .ref se)] ++ [((Sum.inr "soft" : Key), V.ref so)])) b = some o := fun b o n x => by rw [upd_ne n]; exact x
  have h7 := k15 _ _ (ne_of h7 h9' (by intro z; cases z)) h7
  have hse := k15 _ _ (ne_of hse h9' (by intro z; cases z)) hse
  have hso := k15 _ _ nds.symm hso
  have h15 : upd G14 d (.dK ([((Sum.inr "m" : Key), V.ref l7), (Sum.inr "line", .ref l8), (Sum.inr "a", .int 0), (Sum.inr "b", .int 0), (Sum.inr "pc", .int 0)] ++ [((Sum.inr "sp" : Key), V.int 767), (Sum.inr "zero", .bl false), (Sum.inr "lets", .bl false), (Sum.inr "asleep", .bl false), (Sum.inr "beat", .int 0), (Sum.inr "stop", .non), (Sum.inr "sent", .ref se)] ++ [((Sum.inr "soft" : Key), V.ref so)])) d = some (.dK ([((Sum.inr "m" : Key), V.ref l7), (Sum.inr "line", .ref l8), (Sum.inr "a", .int 0), (Sum.inr "b", .int 0), (Sum.inr "pc", .int 0)] ++ [((Sum.inr "sp" : Key), V.int 767), (Sum.inr "zero", .bl false), (Sum.inr "lets", .bl false), (Sum.inr "asleep", .bl false), (Sum.inr "beat", .int 0), (Sum.inr "stop", .non), (Sum.inr "sent", .ref se)] ++ [((Sum.inr "soft" : Key), V.ref so)])) := upd_same
  have sm := same_of (o := .dK ([((Sum.inr "m" : Key), V.ref l7), (Sum.inr "line", .ref l8), (Sum.inr "a", .int 0), (Sum.inr "b", .int 0), (Sum.inr "pc", .int 0)] ++ [((Sum.inr "sp" : Key), V.int 767), (Sum.inr "zero", .bl false), (Sum.inr "lets", .bl false), (Sum.inr "asleep", .bl false), (Sum.inr "beat", .int 0), (Sum.inr "stop", .non), (Sum.inr "sent", .ref se)] ++ [((Sum.inr "soft" : Key), V.ref so)])) sm fd
  generalize upd G14 d (.dK ([((Sum.inr "m" : Key), V.ref l7), (Sum.inr "line", .ref l8), (Sum.inr "a", .int 0), (Sum.inr "b", .int 0), (Sum.inr "pc", .int 0)] ++ [((Sum.inr "sp" : Key), V.int 767), (Sum.inr "zero", .bl false), (Sum.inr "lets", .bl false), (Sum.inr "asleep", .bl false), (Sum.inr "beat", .int 0), (Sum.inr "stop", .non), (Sum.inr "sent", .ref se)] ++ [((Sum.inr "soft" : Key), V.ref so)])) = G15 at *
  refine ⟨Nat.zero_le _, fun to nto => ?_⟩
  have r16 := same_upd' (o := .lst []) nto
  have h15 := r16 _ _ h15
  have h7 := r16 _ _ h7
  have hse := r16 _ _ hse
  have hso := r16 _ _ hso
  have sm := sm.trans r16
  generalize upd G15 to (.lst []) = G16 at *
  refine ⟨_, rfl, d, _, rfl, DPut.k (k := Sum.inr "touched") h15 (by show 13 < sizeLine; decide), ?_⟩
  have e17 : putK ([((Sum.inr "m" : Key), V.ref l7), (Sum.inr "line", .ref l8), (Sum.inr "a", .int 0), (Sum.inr "b", .int 0), (Sum.inr "pc", .int 0)] ++ [((Sum.inr "sp" : Key), V.int 767), (Sum.inr "zero", .bl false), (Sum.inr "lets", .bl false), (Sum.inr "asleep", .bl false), (Sum.inr "beat", .int 0), (Sum.inr "stop", .non), (Sum.inr "sent", .ref se)] ++ [((Sum.inr "soft" : Key), V.ref so)]) (Sum.inr "touched") (V.ref to) = lbD l7 l8 se so to := by kernel_rfl
  rw [e17]
  have k17 : ∀ b o, b ≠ d → G16 b = some o → upd G16 d (.dK (lbD l7 l8 se so to)) b = some o := fun b o n x => by rw [upd_ne n]; exact x
  refine ⟨_, rfl, q _ d l7 l8 se so to (same_of sm fd) upd_same (k17 _ _ (ne_of h7 h15 (by intro z; cases z)) h7) (k17 _ _ (ne_of hse h15 (by intro z; cases z)) hse) (k17 _ _ nds.symm hso) fso f7 fse fd⟩
end
end Bh

/-! The law's own probe. -/
namespace Bh
open PySem PySem.Spec PyProof.Rows L2
def lpD (b hd lw wo : Addr) : List (Key × V) := [(Sum.inr "b", .ref b), (Sum.inr "hard", .ref hd), (Sum.inr "windows", .ref lw), (Sum.inr "worn", .ref wo), (Sum.inr "gone", .int 0)]
/-- the law's own probe, but the list of its windows -/
structure LpAt (H : Hp) (d b m ln se so to hd lw wo : Addr) (ns : List Int) : Prop where
  hd_ : H d = some (.dK (lpD b hd lw wo))
  hb : H b = some (.dK (lbD m ln se so to))
  hm : H m = some (.lst ((memOf ns).map V.int))
  hse : H se = some (.lst [])
  hso : H so = some (.dK [])
  hhd : H hd = some (.dK [])
  hwo : H wo = some (.lst ((List.replicate 16 (0 : Int)).map V.int))
def spLPrb : Sp := fun vs H Q _ => ∃ (im li : Addr) (ns : List Int), vs = [.ref im, .ref li] ∧ H im = some (.lst (ns.map V.int)) ∧ ns.length ≤ 512 ∧ H li = some (.lst []) ∧
  ∀ (H' : Hp) (d b m ln se so to hd lw wo : Addr), Same H H' → LpAt H' d b m ln se so to hd lw wo ns → H' lw = some (.lst [.non, .non]) → H lw = none → m ≠ lw → se ≠ lw → wo ≠ lw → m ≠ wo → se ≠ wo → so ≠ hd → H so = none → H hd = none → H wo = none → H d = none → H b = none → H m = none → H se = none → Q (.ref d) H'
section
variable {P : Program} {w : World} {K : PySem.W.Frag} {mg : Str → Option Value} {base : Heap} {CB CM CP CK CW CF CH CC CI CS CN CL : Addr}
abbrev sLprb : Stmt := topS 104
def scLprbN : List Str := ["_law_image", "_law_line"]
theorem scLprb : FnScope scLprbN ["_law_image", "_law_line"] (defScope sLprb) := ⟨rfl, rfl, rfl, by decide +kernel, rfl, by decide +kernel, by decide +kernel⟩
theorem ok_Lprb {f : Addr} {fd : FuncData} {fL_brd : Addr} {dL_brd : FuncData} (F : Fun K "_law_probe" "_law_probe" sLprb f fd) (T : Ty K mg CB CM CP CK CW CF CH CC CI CS)
    (L_brd : CalF P w K mg base 1 "_law_board" ["_law_image", "_law_line"] (spLBrd) fL_brd dL_brd) : FnOk P w K mg base CX0 2 f fd ["_law_image", "_law_line"] (spLPrb) := by
  refine F.ok scLprb (fun vs H Q E h => by obtain ⟨_, _, _, rfl, _⟩ := h; rfl) (fun cdv A outer s H vs Q E hr h => ?_)
  have hu := hu_of hr
  obtain ⟨im, li, ns, rfl, him, hl, hli, q⟩ := h
  refine ⟨_, (pss_one (ps_ret (pe_disp (pps_cons pe_str (pe_call L_brd.G (hr.mono (by decide)) (by rfl) L_brd.g L_brd.kp L_brd.b .nil pass0 (pa_cons (pv 0) (pa_cons (pv 1) pa_nil))) (pps_cons pe_str pe_dnewK (pps_cons pe_str (pe_lst (pa_cons pe_non (pa_cons pe_non pa_nil))) (pps_cons pe_str (pe_op op_rep (pe_lst (pa_cons pe_int pa_nil)) pe_int) (pps_cons pe_str pe_int pps_nil))))) rfl rfl (by intro h; cases h) (by decide)))), ?_⟩
  intro d nd
  have sm := same_upd' (o := .dK []) nd
  have hd : upd H d (.dK []) d = some (.dK []) := upd_same
  have him := sm _ _ him
  have hli := sm _ _ hli
  generalize upd H d (.dK []) = G0 at *
  refine ⟨_, rfl, _, rfl, im, li, ns, rfl, him, hl, hli, fun G1 b m ln se so to s1 hb hm hse hso fso fm_ fse_ fb_ => ?_⟩
  have fm0 : H m = none := sm.free fm_
  have fse0 : H se = none := sm.free fse_
  have fb0 : H b = none := sm.free fb_
  have fso0 : H so = none := sm.free fso
  have nsd : so ≠ d := (ne_of_none hd fso).symm
  have sm := sm.trans s1
  have hd := s1 _ _ hd
  intro hh nhh
  have r2 := same_upd' (o := .dK []) nhh
  have hhh : upd G1 hh (.dK []) hh = some (.dK []) := upd_same
  have fhh : H hh = none := sm.free nhh
  have nsh : so ≠ hh := ne_of_none hso nhh
  have ndh : d ≠ hh := ne_of_none hd nhh
  have nbh : b ≠ hh := ne_of_none hb nhh
  have bigger : Same G1 (upd G1 hh (.dK [])) := r2
  have hd := r2 _ _ hd
  have hb := r2 _ _ hb
  have hm := r2 _ _ hm
  have hse := r2 _ _ hse
  have hso := r2 _ _ hso
  have sm := sm.trans r2
  generalize upd G1 hh (.dK []) = G2 at *
  refine ⟨(by show 2 ≤ sizeLine; decide), fun lw nlw => ?_⟩
  have flw : H lw = none := sm.free nlw
  have mlw : m ≠ lw := ne_of_none hm nlw
  have slw : se ≠ lw := ne_of_none hse nlw
  have r3 := same_upd' (o := .lst [V.non, V.non]) nlw
  have hlw : upd G2 lw (.lst [V.non, V.non]) lw = some (.lst [V.non, V.non]) := upd_same
  have hd := r3 _ _ hd
  have hb := r3 _ _ hb
  have hm := r3 _ _ hm
  have hse := r3 _ _ hse
  have hso := r3 _ _ hso
  have hhh := r3 _ _ hhh
  have sm := sm.trans r3
  generalize upd G2 lw (.lst [V.non, V.non]) = G3 at *
  refine ⟨(by show 1 ≤ sizeLine; decide), fun l4 n4 => ?_⟩
  have r4 := same_upd' (o := .lst [V.int 0]) n4
  have h4 : upd G3 l4 (.lst [V.int 0]) l4 = some (.lst [V.int 0]) := upd_same
  refine ⟨l4, _, _, rfl, rfl, h4, by decide, by decide, (by show 1 * 16 ≤ sizeLine; decide), fun wo nwo => ?_⟩
  rw [flat_r16]
  have nwl : wo ≠ lw := (ne_of_none (r4 _ _ hlw) nwo).symm
  have nmw : m ≠ wo := ne_of_none (r4 _ _ hm) nwo
  have nsw_ : se ≠ wo := ne_of_none (r4 _ _ hse) nwo
  have fwo : H wo = none := (sm.trans r4).free nwo
  have r5 := r4.trans (same_upd' (o := .lst ((List.replicate 16 (0 : Int)).map V.int)) nwo)
  have hwo : upd (upd G3 l4 (.lst [V.int 0])) wo (.lst ((List.replicate 16 (0 : Int)).map V.int)) wo = some (.lst ((List.replicate 16 (0 : Int)).map V.int)) := upd_same
  have hd := r5 _ _ hd
  have hb := r5 _ _ hb
  have hm := r5 _ _ hm
  have hse := r5 _ _ hse
  have hso := r5 _ _ hso
  have hhh := r5 _ _ hhh
  have hlw := r5 _ _ hlw
  have sm := sm.trans r5
  generalize upd (upd G3 l4 (.lst [V.int 0])) wo (.lst ((List.replicate 16 (0 : Int)).map V.int)) = G5 at *
  refine ⟨hd, [((Sum.inr "b" : Key), V.ref b), (Sum.inr "hard", .ref hh), (Sum.inr "windows", .ref lw), (Sum.inr "worn", .ref wo), (Sum.inr "gone", .int 0)], rfl, (by show 5 ≤ 15; decide), ?_⟩
  have em8 : mergeK [] ([((Sum.inr "b" : Key), V.ref b), (Sum.inr "hard", .ref hh), (Sum.inr "windows", .ref lw), (Sum.inr "worn", .ref wo), (Sum.inr "gone", .int 0)] : List (Key × V)) = lpD b hh lw wo := by kernel_rfl
  rw [em8]
  have k6 : ∀ a o, a ≠ d → G5 a = some o → upd G5 d (.dK (lpD b hh lw wo)) a = some o := fun a o n x => by rw [upd_ne n]; exact x
  have nbd : b ≠ d := fun z => by
    rw [z, hd] at hb
    have q := HO.dK.inj (Option.some.inj hb)
    cases q
  exact q _ d b m ln se so to hh lw wo (same_of sm nd) ⟨upd_same, k6 _ _ nbd hb, k6 _ _ (ne_of hm hd (by intro z; cases z)) hm, k6 _ _ (ne_of hse hd (by intro z; cases z)) hse, k6 _ _ nsd hso, k6 _ _ ndh.symm hhh, k6 _ _ (ne_of hwo hd (by intro z; cases z)) hwo⟩ (k6 _ _ (ne_of hlw hd (by intro z; cases z)) hlw) flw mlw slw nwl nmw nsw_ nsh fso0 fhh fwo nd fb0 fm0 fse0
end
end Bh

/-! What is told, as data. -/
namespace Bh
open PySem PySem.Spec PyProof.Rows L2
theorem dep_ints : ∀ ns : List Int, PyData.depthAll (ns.map PyData.int) ≤ 1
  | [] => by decide
  | n :: r => by
    have ih := dep_ints r
    show max (PyData.depth (.int n)) (PyData.depthAll (r.map PyData.int)) ≤ 1
    exact Nat.max_le.mpr ⟨Nat.zero_le _, ih⟩
theorem dp_ints {K : PySem.W.Frag} {H : Hp} : ∀ ns : List Int, DpAll K H (ns.map V.int) (ns.map PyData.int)
  | [] => .nil
  | n :: r => .cons (.int n) (dp_ints r)
theorem shaped_ints (ns : List Int) : SeqAt.shaped (.list (ns.map PyData.int)) = true := by
  show (PyData.canLayAll0 (ns.map PyData.int) && decide (PyData.depthAll (ns.map PyData.int) + 1 ≤ 64)) = true
  rw [can_ints, decide_eq_true (by have := dep_ints ns; omega)]
  rfl
theorem cut_mem (ns : List Int) (lo hi : Option Int) : ∃ ms : List Int, cutV (ns.map V.int) lo hi = ms.map V.int ∧ ms.length ≤ ns.length ∧ ∀ z ∈ ms, z ∈ ns := by
  unfold cutV
  rw [← List.map_drop, ← List.map_take]
  refine ⟨_, rfl, ?_, fun z h => List.mem_of_mem_drop (List.mem_of_mem_take h)⟩
  rw [List.length_take, List.length_drop]
  omega
theorem tup_up {K : PySem.W.Frag} {H H' : Hp} {a : Addr} {xs : List V} (e : Same H H') (h : SqT K H a xs) : SqT K H' a xs := by
  rcases h with (h | ⟨o, h⟩) | h
  · exact .inl (.inl (e _ _ h))
  · exact .inl (.inr ⟨o, e _ _ h⟩)
  · exact .inr h
mutual
theorem dp_up {K : PySem.W.Frag} {H H' : Hp} (s : Same H H') : ∀ (d : PyData) (v : V), Dp K H v d → Dp K H' v d
  | .none, _, h => by cases h; exact .non
  | .bool b, _, h => by cases h; exact .bl b
  | .int i, _, h => by cases h; exact .int i
  | .str x, _, h => by cases h; exact .str x
  | .list ds, _, h => by
    cases h with
    | lst hs ha => exact .lst (s.seq hs) (dp_upAll s ds _ ha)
  | .tuple ds, _, h => by
    cases h with
    | tup hs ha => exact .tup (tup_up s hs) (dp_upAll s ds _ ha)
  | .dict _, _, h => by cases h
theorem dp_upAll {K : PySem.W.Frag} {H H' : Hp} (s : Same H H') : ∀ (ds : List PyData) (vs : List V), DpAll K H vs ds → DpAll K H' vs ds
  | [], _, h => by cases h; exact .nil
  | d :: ds, _, h => by
    cases h with
    | cons h1 h2 => exact .cons (dp_up s d _ h1) (dp_upAll s ds _ h2)
end
def t2D (u : Int × Int) : PyData := .tuple [.int u.1, .int u.2]
def t3D (u : Int × Int × Str) : PyData := .tuple [.int u.1, .int u.2.1, .str u.2.2]
def hsD (u : Int × Str × Int) : PyData := .tuple [.int u.1, .str u.2.1, .int u.2.2]
def stopD : Option (Str × List Int) → PyData
  | none => .none
  | some r => .tuple (.str r.1 :: r.2.map PyData.int)
def regsV (x : Bd) : List V := [.int x.a, .int x.b, .int x.pc, .int x.sp, .bl x.zero, .bl x.lets, .bl x.asleep, .int x.beat]
def regsD (x : Bd) : List PyData := [.int x.a, .int x.b, .int x.pc, .int x.sp, .bool x.zero, .bool x.lets, .bool x.asleep, .int x.beat]
theorem dp_snoc {K : PySem.W.Frag} {H : Hp} {v : V} {d : PyData} (hd : Dp K H v d) : ∀ {vs : List V} {ds : List PyData}, DpAll K H vs ds → DpAll K H (vs ++ [v]) (ds ++ [d])
  | _, [], h => by cases h; exact .cons hd .nil
  | _, _ :: _, h => by
    cases h with
    | cons h1 h2 => exact .cons h1 (dp_snoc hd h2)
theorem dp_regs {K : PySem.W.Frag} {H : Hp} (x : Bd) : DpAll K H (regsV x) (regsD x) := .cons (.int _) (.cons (.int _) (.cons (.int _) (.cons (.int _) (.cons (.bl _) (.cons (.bl _) (.cons (.bl _) (.cons (.int _) .nil)))))))
theorem dp_t2 {K : PySem.W.Frag} {H : Hp} : ∀ {us : List V} {ls : List (Int × Int)}, TupsAt H us ls → DpAll K H us (ls.map t2D)
  | _, _, .nil => .nil
  | _, _, .cons h r => by
    obtain ⟨t, rfl, e⟩ := h
    exact .cons (.tup (SqT.of e) (.cons (.int _) (.cons (.int _) .nil))) (dp_t2 r)
theorem dp_t3 {K : PySem.W.Frag} {H : Hp} : ∀ {us : List V} {ls : List (Int × Int × Str)}, T3At H us ls → DpAll K H us (ls.map t3D)
  | _, _, .nil => .nil
  | _, _, .cons h r => by
    obtain ⟨t, rfl, e⟩ := h
    exact .cons (.tup (SqT.of e) (.cons (.int _) (.cons (.int _) (.cons (.str _) .nil)))) (dp_t3 r)
theorem dp_hs {K : PySem.W.Frag} {H : Hp} : ∀ {us : List V} {ls : List (Int × Str × Int)}, HtAt H us ls → DpAll K H us (ls.map hsD)
  | _, _, .nil => .nil
  | _, _, .cons h r => by
    obtain ⟨t, rfl, e⟩ := h
    exact .cons (.tup (SqT.of e) (.cons (.int _) (.cons (.str _) (.cons (.int _) .nil)))) (dp_hs r)
theorem dp_stop {K : PySem.W.Frag} {H : Hp} {v : V} : ∀ {s : Option (Str × List Int)}, StopAt H v s → Dp K H v (stopD s)
  | none, h => by
    obtain rfl : v = .non := h
    exact .non
  | some r, h => by
    obtain ⟨q, rfl, e⟩ := h
    exact .tup (SqT.of e) (.cons (.str _) (dp_ints r.2))
theorem pl_ints : ∀ ns : List Int, PyData.plainAll (ns.map PyData.int) = true
  | [] => rfl
  | n :: r => by
    show (PyData.plain (.int n) && PyData.plainAll (r.map PyData.int)) = true
    rw [pl_ints r]
    rfl
theorem pl_t2 : ∀ l : List (Int × Int), PyData.plainAll (l.map t2D) = true
  | [] => rfl
  | u :: r => by
    show (PyData.plain (t2D u) && PyData.plainAll (r.map t2D)) = true
    rw [pl_t2 r]
    rfl
theorem pl_t3 : ∀ l : List (Int × Int × Str), PyData.plainAll (l.map t3D) = true
  | [] => rfl
  | u :: r => by
    show (PyData.plain (t3D u) && PyData.plainAll (r.map t3D)) = true
    rw [pl_t3 r]
    rfl
theorem pl_hs : ∀ l : List (Int × Str × Int), PyData.plainAll (l.map hsD) = true
  | [] => rfl
  | u :: r => by
    show (PyData.plain (hsD u) && PyData.plainAll (r.map hsD)) = true
    rw [pl_hs r]
    rfl
theorem pl_L {l : List PyData} (h : PyData.plainAll l = true) : PyData.plain (.list l) = true := h
theorem pl_cons {d : PyData} {l : List PyData} (h1 : PyData.plain d = true) (h2 : PyData.plainAll l = true) : PyData.plainAll (d :: l) = true := by
  show (PyData.plain d && PyData.plainAll l) = true
  rw [h1, h2]
  rfl
theorem dep_L {l : List PyData} (h : PyData.depthAll l ≤ 4) : PyData.depth (.list l) ≤ 5 := by
  show PyData.depthAll l + 1 ≤ 5
  omega
theorem dep_cons {d : PyData} {l : List PyData} (h1 : PyData.depth d ≤ 5) (h2 : PyData.depthAll l ≤ 5) : PyData.depthAll (d :: l) ≤ 5 := Nat.max_le.mpr ⟨h1, h2⟩
theorem dep_ints5 (ns : List Int) : PyData.depthAll (ns.map PyData.int) ≤ 4 := by
  have := dep_ints ns
  omega
/-- x != y, data with any texts -/
def rNeP (K : PySem.W.Frag) : R2 := fun x y H Q => ∃ d e, Dp K H x d ∧ Dp K H y e ∧ d.plain = true ∧ e.plain = true ∧ d.depth ≤ 60 ∧ Q (.bl (!PyData.eqv d e)) H
theorem op_neP {X : Cx} (hu : X.A.units + 64 < cLine) : OpR X (compareOp .NotEq) (rNeP X.K) := by
  intro pins s σ H x y v u Q I rx ry h
  obtain ⟨d, e, hd, he, pd, pe, dd, q⟩ := h
  obtain ⟨as, r1⟩ := Dp.reads I d x v hd rx
  obtain ⟨bs, r2⟩ := Dp.reads I e y u he ry
  refine PySem.SeqAt.ne_plain r1 r2 pd pe ?_ ⟨.bl _, H, I, rfl, q⟩
  omega
/-- x == y, data with any texts -/
def rEqP (K : PySem.W.Frag) : R2 := fun x y H Q => ∃ d e, Dp K H x d ∧ Dp K H y e ∧ d.plain = true ∧ e.plain = true ∧ d.depth ≤ 60 ∧ Q (.bl (PyData.eqv d e)) H
theorem op_eqP {X : Cx} (hu : X.A.units + 64 < cLine) : OpR X (compareOp .Eq) (rEqP X.K) := by
  intro pins s σ H x y v u Q I rx ry h
  obtain ⟨d, e, hd, he, pd, pe, dd, q⟩ := h
  obtain ⟨as, r1⟩ := Dp.reads I d x v hd rx
  obtain ⟨bs, r2⟩ := Dp.reads I e y u he ry
  refine PySem.SeqAt.eq_plain r1 r2 pd pe ?_ ⟨.bl _, H, I, rfl, q⟩
  omega
theorem dep_t2 : ∀ l : List (Int × Int), PyData.depthAll (l.map t2D) ≤ 4
  | [] => by decide
  | u :: r => by
    have ih := dep_t2 r
    show max (PyData.depth (t2D u)) (PyData.depthAll (r.map t2D)) ≤ 4
    exact Nat.max_le.mpr ⟨by show PyData.depthAll ([u.1, u.2].map PyData.int) + 1 ≤ 4; have := dep_ints [u.1, u.2]; omega, ih⟩
theorem dep_t3 : ∀ l : List (Int × Int × Str), PyData.depthAll (l.map t3D) ≤ 4
  | [] => by decide
  | u :: r => by
    have ih := dep_t3 r
    show max (PyData.depth (t3D u)) (PyData.depthAll (r.map t3D)) ≤ 4
    refine Nat.max_le.mpr ⟨?_, ih⟩
    show 0 + 1 ≤ 4
    decide
theorem dep_hs : ∀ l : List (Int × Str × Int), PyData.depthAll (l.map hsD) ≤ 4
  | [] => by decide
  | u :: r => by
    have ih := dep_hs r
    show max (PyData.depth (hsD u)) (PyData.depthAll (r.map hsD)) ≤ 4
    refine Nat.max_le.mpr ⟨?_, ih⟩
    show 0 + 1 ≤ 4
    decide
theorem pl_stop (s : Option (Str × List Int)) : PyData.plain (stopD s) = true := by
  cases s with
  | none => rfl
  | some r =>
    show (PyData.plain (.str r.1) && PyData.plainAll (r.2.map PyData.int)) = true
    rw [pl_ints]
    rfl
theorem dep_stop (s : Option (Str × List Int)) : PyData.depth (stopD s) ≤ 5 := by
  cases s with
  | none => exact Nat.zero_le _
  | some r =>
    have := dep_ints r.2
    show max (PyData.depth (.str r.1)) (PyData.depthAll (r.2.map PyData.int)) + 1 ≤ 5
    have : max (PyData.depth (.str r.1)) (PyData.depthAll (r.2.map PyData.int)) ≤ 1 := Nat.max_le.mpr ⟨Nat.zero_le _, this⟩
    omega
theorem PrA.ins {CB CM CP CK CW CF CH CC CI : Addr} {S H : Hp} {F : Addr → Prop} {p : Addr} {x : Pm} (A : PrA CB CM CP CK CW CF CH CC CI S H F p x) : ∃ dx bd st wa fr hi co mi sd g, H p = some (.ins CP dx (prF bd st wa fr hi co mi sd g .non)) := by
  obtain ⟨⟨a, T, D, m, s, rfl, C⟩, _⟩ := A
  exact ⟨_, _, _, _, _, _, _, _, _, _, C.hp⟩
theorem tk_snoc {α : Type} {l : List α} {v : α} {j : Nat} (h : l[j]? = some v) : l.take j ++ [v] = l.take (j + 1) := by
  rw [List.take_succ, h]
  rfl
def czD : Cz → PyData
  | .none => .tuple [.str "turns"]
  | .stop s => stopD (some s)
  | .done => .tuple [.str "done"]
  | .watch r => .tuple [.str "watch", .int (r.1 : Int), .int r.2.2, .str (kS r.2.1)]
  | .mark pc => .tuple [.str "mark", .int pc]
theorem dp_rz {K : PySem.W.Frag} {H : Hp} {v : V} : ∀ {c : Cz}, RzAt H v c → Dp K H v (czD c)
  | .none, ⟨t, e, h⟩ => by rw [e]; exact .tup (SqT.of h) (.cons (.str _) .nil)
  | .done, ⟨t, e, h⟩ => by rw [e]; exact .tup (SqT.of h) (.cons (.str _) .nil)
  | .stop s, h => dp_stop (s := some s) h
  | .watch r, ⟨t, e, h⟩ => by rw [e]; exact .tup (SqT.of h) (.cons (.str _) (.cons (.int _) (.cons (.int _) (.cons (.str _) .nil))))
  | .mark pc, ⟨t, e, h⟩ => by rw [e]; exact .tup (SqT.of h) (.cons (.str _) (.cons (.int _) .nil))
theorem pl_cz (c : Cz) : PyData.plain (czD c) = true := by
  cases c with
  | none => rfl
  | done => rfl
  | stop s => exact pl_stop (some s)
  | watch r => rfl
  | mark pc => rfl
theorem dep_cz (c : Cz) : PyData.depth (czD c) ≤ 5 := by
  cases c with
  | none => show 0 + 1 ≤ 5; decide
  | done => show 0 + 1 ≤ 5; decide
  | stop s => exact dep_stop (some s)
  | watch r => show 0 + 1 ≤ 5; decide
  | mark pc => show 0 + 1 ≤ 5; decide
def goD (c : Cz) : PyData := .tuple [czD c, .list []]
theorem pl_go (c : Cz) : PyData.plain (goD c) = true := by
  show (PyData.plain (czD c) && (PyData.plain (.list []) && true)) = true
  rw [pl_cz]
  rfl
theorem dep_go (c : Cz) : PyData.depth (goD c) ≤ 60 := by
  have := dep_cz c
  show max (PyData.depth (czD c)) (max (PyData.depth (.list [])) 0) + 1 ≤ 60
  have h : max (PyData.depth (czD c)) (max (PyData.depth (.list [])) 0) ≤ 6 := Nat.max_le.mpr ⟨by omega, Nat.max_le.mpr ⟨by show 0 + 1 ≤ 6; decide, by decide⟩⟩
  omega
theorem But.fr {wl : Addr} {H H' : Hp} (b : But wl H H') : Fr (fun q => q = wl) H (fun q => q = wl) H' := ⟨fun c o n e => b c o n e, fun _ z => .inl z⟩
theorem rows_eqv (l : List (Int × Int × Str)) : PyData.eqv (.list (l.map t3D)) (.list []) = l.isEmpty := by
  cases l <;> rfl
theorem T3At.get {H : Hp} : ∀ {us : List V} {ls : List (Int × Int × Str)} {i : Nat} {v : V}, T3At H us ls → us[i]? = some v → ∃ q t, v = .ref q ∧ ls[i]? = some t ∧ H q = some (.tup [.int t.1, .int t.2.1, .str t.2.2])
  | _, _, 0, _, .cons h _, e => by
    obtain ⟨t, rfl, q⟩ := h
    obtain rfl := Option.some.inj e
    exact ⟨t, _, rfl, rfl, q⟩
  | _, _, i + 1, _, .cons _ r, e => T3At.get (i := i) r e
theorem cut_last (us : List V) (v : V) : cutV (us ++ [v]) none (some (-1)) = us := by
  have h1 : (us ++ [v]).length = us.length + 1 := by rw [List.length_append]; rfl
  have h2 : HT.sIx (us ++ [v]).length (us ++ [v]).length (some (-1)) = us.length := by
    rw [h1]
    unfold HT.sIx
    simp
    omega
  have h3 : HT.sIx (us ++ [v]).length 0 none = 0 := rfl
  unfold cutV
  rw [h2, h3, List.drop_zero, Nat.sub_zero]
  exact List.take_left' rfl
end Bh

/-! What is told of both probes. -/
namespace Bh
open PySem PySem.Spec PyProof.Rows L2
section
variable {b hd lw wo m ln se so to : Addr}
theorem lpG_b : valV (lpD b hd lw wo) (Sum.inr "b") = some (.ref b) := by kernel_rfl
theorem lpG_hard : valV (lpD b hd lw wo) (Sum.inr "hard") = some (.ref hd) := by kernel_rfl
theorem lpG_windows : valV (lpD b hd lw wo) (Sum.inr "windows") = some (.ref lw) := by kernel_rfl
theorem lpG_worn : valV (lpD b hd lw wo) (Sum.inr "worn") = some (.ref wo) := by kernel_rfl
theorem lpG_gone : valV (lpD b hd lw wo) (Sum.inr "gone") = some (.int 0) := by kernel_rfl
theorem lbG_m : valV (lbD m ln se so to) (Sum.inr "m") = some (.ref m) := by kernel_rfl
theorem lbG_soft : valV (lbD m ln se so to) (Sum.inr "soft") = some (.ref so) := by kernel_rfl
theorem lbG_stop : valV (lbD m ln se so to) (Sum.inr "stop") = some .non := by kernel_rfl
theorem lbG_sent : valV (lbD m ln se so to) (Sum.inr "sent") = some (.ref se) := by kernel_rfl
end
def nmL : List Str := ["a", "b", "pc", "sp", "zero", "lets", "asleep", "beat"]
def reg0D : List PyData := [.int 0, .int 0, .int 0, .int 767, .bool false, .bool false, .bool false, .int 0]
def reg0V : List V := [.int 0, .int 0, .int 0, .int 767, .bl false, .bl false, .bl false, .int 0]
theorem dp_ints2 {K : PySem.W.Frag} {H : Hp} : ∀ ns : List Int, DpAll K H (ns.map V.int) (ns.map PyData.int)
  | [] => .nil
  | _ :: r => .cons (.int _) (dp_ints2 r)
theorem dp_reg0 {K : PySem.W.Frag} {H : Hp} : DpAll K H reg0V reg0D := .cons (.int _) (.cons (.int _) (.cons (.int _) (.cons (.int _) (.cons (.bl _) (.cons (.bl _) (.cons (.bl _) (.cons (.int _) .nil)))))))
def rwD (r : Int × Str) : PyData := .tuple [.int r.1, .str r.2]
theorem dp_rows {K : PySem.W.Frag} {H : Hp} {us : List V} {rows : List (Int × Str)} (h : Paired (RwAt H) us rows) : DpAll K H us (rows.map rwD) := by
  induction h with
  | nil => exact .nil
  | cons h _ ih =>
    obtain ⟨t, rfl, e⟩ := h
    exact .cons (.tup (SqT.of e) (.cons (.int _) (.cons (.str _) .nil))) ih
def stD (mem : List Int) (out : List (Int × Str)) (we : List Int) : PyData := .list [.list (mem.map PyData.int), .list reg0D, .none, .list [], .int 0, .list (out.map rwD), .list (we.map PyData.int), .list [.none, .none]]
/-- a probe of which no turn has gone -/
structure Rst (x : Pm) (ns : List Int) : Prop where
  m : x.b.mem = memOf ns
  r : regsL x.b = regsL (newBd ns [])
  st : x.b.stop = none
  se : x.b.sent = []
  g : x.gone = 0
  w : x.wat = [none, none]
theorem Rst.mark {x : Pm} {ns : List Int} (R : Rst x ns) {i : Int} {h : Bool} : Rst (markM i h x) ns := by
  unfold markM
  split
  · exact { R with }
  · exact { R with r := R.r }
theorem Rst.lift {x : Pm} {ns : List Int} (R : Rst x ns) {i : Int} : Rst (liftM i x) ns := by
  unfold liftM
  split
  · exact { R with }
  · exact { R with r := R.r }
theorem Rst.liftA {x : Pm} {ns : List Int} (R : Rst x ns) : Rst (liftAM x) ns := { R with r := R.r }
/-- the law's own probe: its marks hs, sw, its pages we -/
structure OwP (H : Hp) (d b m ln se so to hd lw wo : Addr) (ns hs sw we : List Int) : Prop where
  hd_ : H d = some (.dK (lpD b hd lw wo))
  hb : H b = some (.dK (lbD m ln se so to))
  hm : H m = some (.lst ((memOf ns).map V.int))
  hse : H se = some (.lst [])
  hso : H so = some (.dK (swD sw))
  hhd : H hd = some (.dK (swD hs))
  hwo : H wo = some (.lst (we.map V.int))
  hlw : H lw = some (.lst [.non, .non])
  n1 : m ≠ wo
  n2 : se ≠ wo
  n3 : lw ≠ wo
  n4 : so ≠ hd
theorem OwP.same {H H' : Hp} {d b m ln se so to hd lw wo : Addr} {ns hs sw we : List Int} (O : OwP H d b m ln se so to hd lw wo ns hs sw we) (s : Same H H') : OwP H' d b m ln se so to hd lw wo ns hs sw we :=
  { O with hd_ := s _ _ O.hd_, hb := s _ _ O.hb, hm := s _ _ O.hm, hse := s _ _ O.hse, hso := s _ _ O.hso, hhd := s _ _ O.hhd, hwo := s _ _ O.hwo, hlw := s _ _ O.hlw }
theorem wat_none {H : Hp} : ∀ {vs : List V}, WtAt H vs [none, none] → vs = [.non, .non]
  | _, .cons h1 (.cons h2 .nil) => by rw [show _ = V.non from h1, show _ = V.non from h2]
section
variable {b hd lw wo m ln se so to : Addr}
theorem swD_no {l : List Int} {r : List (Key × V)} {k : Str} {v : V} : swD l ≠ (Sum.inr k, v) :: r := by
  intro z
  cases l with
  | nil => cases z
  | cons a l =>
    have q := congrArg Prod.fst (List.cons.inj z).1
    cases q
end
def spLTold (K : PySem.W.Frag) (CB CM CP CK CW CF CH CC CI : Addr) : Sp := fun vs H Q _ => ∃ (S : Hp) (F : Addr → Prop) (p : Addr) (x : Pm) (ns : List Int), vs = [.ref p] ∧ PrA CB CM CP CK CW CF CH CC CI S H F p x ∧ MkOk x ∧ Rst x ns ∧
  ∀ H' l out, Same H H' → SortedR out (rowsL x.hard x.b.sw) → Dp K H' (.ref l) (stD (memOf ns) out x.wear) → Q (.ref l) H'
def spLShown (K : PySem.W.Frag) : Sp := fun vs H Q _ => ∃ (d b m ln se so to hd lw wo : Addr) (ns hs sw we : List Int), vs = [.ref d] ∧ OwP H d b m ln se so to hd lw wo ns hs sw we ∧ hs.length ≤ 2 ∧ sw.length ≤ 768 ∧
  ∀ H' l out, Same H H' → SortedR out (rowsL hs sw) → Dp K H' (.ref l) (stD (memOf ns) out we) → Q (.ref l) H'
section
variable {P : Program} {w : World} {K : PySem.W.Frag} {mg : Str → Option Value} {base : Heap} {CB CM CP CK CW CF CH CC CI CS CN CL CT CO : Addr}
abbrev sLtold : Stmt := topS 106
def scLtoldN : List Str := ["_law_probe_here", "_law_names", "_law_found", "_law_name"]
theorem scLtold : FnScope scLtoldN ["_law_probe_here"] (defScope sLtold) := ⟨rfl, rfl, rfl, by decide +kernel, rfl, by decide +kernel, by decide +kernel⟩
theorem ok_Ltold {f : Addr} {fd : FuncData} {fM_look : Addr} {dM_look : FuncData} {fM_mks : Addr} {dM_mks : FuncData} {fM_out : Addr} {dM_out : FuncData} {fM_reg : Addr} {dM_reg : FuncData} {fM_stp : Addr} {dM_stp : FuncData} {fM_tns : Addr} {dM_tns : FuncData} {fM_wer : Addr} {dM_wer : FuncData} {fM_wts : Addr} {dM_wts : FuncData} (F : Fun K "_law_told" "_law_told" sLtold f fd) (T : Ty K mg CB CM CP CK CW CF CH CC CI CS)
    (M_look : CalM P w K mg base CP 3 "look" ["self", "address", "many"] (spLook CB CM CP CK CW CF CH CC CI) fM_look dM_look)
    (M_mks : CalM P w K mg base CP 2 "marks" ["self"] (spMks CB CM CP CK CW CF CH CC CI) fM_mks dM_mks)
    (M_out : CalM P w K mg base CP 1 "out" ["self"] (spOut CB CM CP CK CW CF CH CC CI) fM_out dM_out)
    (M_reg : CalM P w K mg base CP 1 "register_of" ["self", "name"] (spReg CB CM CP CK CW CF CH CC CI) fM_reg dM_reg)
    (M_stp : CalM P w K mg base CP 1 "stop_told" ["self"] (spStp CB CM CP CK CW CF CH CC CI) fM_stp dM_stp)
    (M_tns : CalM P w K mg base CP 1 "turns" ["self"] (spTurns CB CM CP CK CW CF CH CC CI) fM_tns dM_tns)
    (M_wer : CalM P w K mg base CP 1 "wear" ["self"] (spWer CB CM CP CK CW CF CH CC CI) fM_wer dM_wer)
    (M_wts : CalM P w K mg base CP 1 "watches" ["self"] (spWts CB CM CP CK CW CF CH CC CI) fM_wts dM_wts) : FnOk P w K mg base CX0 4 f fd ["_law_probe_here"] (spLTold K CB CM CP CK CW CF CH CC CI) := by
  refine F.ok scLtold (fun vs H Q E h => by obtain ⟨_, _, _, _, _, rfl, _⟩ := h; rfl) (fun cdv A outer s H vs Q E hr h => ?_)
  have hu := hu_of hr
  obtain ⟨S, F_, p, x, ns, rfl, Y, mk, R, q⟩ := h
  refine ⟨_, (pss_cons (ps_set (i := 1) scLtold.nd rfl (.inl rfl) (pe_lst (pa_cons pe_str (pa_cons pe_str (pa_cons pe_str (pa_cons pe_str (pa_cons pe_str (pa_cons pe_str (pa_cons pe_str (pa_cons pe_str pa_nil))))))))))
    (pss_cons (ps_set (i := 2) scLtold.nd rfl (.inl rfl) (pe_lst (pa_cons (pe_meth (pv 0) M_look.c M_look.m M_look.G (hr.mono (by decide)) M_look.b .nil pass0 (pa_cons pe_int (pa_cons pe_int pa_nil))) (pa_cons (pe_lc (own := [("_law_name", 3)]) (g := gName 3) (tt := tYes) (by rfl) scLtold.nd (pi_list (pv 1)) (blkOk_by (own := [("_law_name", 3)]) (N := scLtoldN) (sc := defScope sLtold) (by decide +kernel)) (fun _ _ _ _ _ => (pg_name (i := 3) scLtold.nd rfl (.inl rfl))) (fun _ _ _ _ _ => pts_nil) (fun _ _ _ _ _ => (pe_meth (pv 0) M_reg.c M_reg.m M_reg.G (hr.mono (by decide)) M_reg.b .nil pass0 (pa_cons (pv 3) pa_nil)))) (pa_cons (pe_meth0 (pv 0) M_stp.c M_stp.m M_stp.G (hr.mono (by decide)) M_stp.b .nil pass0) (pa_cons (pe_meth0 (pv 0) M_out.c M_out.m M_out.G (hr.mono (by decide)) M_out.b .nil pass0) pa_nil))))))
    (pss_one (ps_ret (pe_op op_cat (pv 2) (pe_lst (pa_cons (pe_meth0 (pv 0) M_tns.c M_tns.m M_tns.G (hr.mono (by decide)) M_tns.b .nil pass0) (pa_cons (pe_meth0 (pv 0) M_mks.c M_mks.m M_mks.G (hr.mono (by decide)) M_mks.b .nil pass0) (pa_cons (pe_meth0 (pv 0) M_wer.c M_wer.m M_wer.G (hr.mono (by decide)) M_wer.b .nil pass0) (pa_cons (pe_meth0 (pv 0) M_wts.c M_wts.m M_wts.G (hr.mono (by decide)) M_wts.b .nil pass0) pa_nil)))))))))), ?_⟩
  refine ⟨(by show 8 ≤ sizeLine; decide), fun l1 n1 => ?_⟩
  have Y := Y.same (same_upd' (o := .lst ([V.str "a", V.str "b", V.str "pc", V.str "sp", V.str "zero", V.str "lets", V.str "asleep", V.str "beat"])) n1)
  have r1 := same_upd' (o := .lst ([V.str "a", V.str "b", V.str "pc", V.str "sp", V.str "zero", V.str "lets", V.str "asleep", V.str "beat"])) n1
  have h1 : upd H l1 (.lst ([V.str "a", V.str "b", V.str "pc", V.str "sp", V.str "zero", V.str "lets", V.str "asleep", V.str "beat"])) l1 = some (.lst ([V.str "a", V.str "b", V.str "pc", V.str "sp", V.str "zero", V.str "lets", V.str "asleep", V.str "beat"])) := upd_same
  generalize upd H l1 (.lst ([V.str "a", V.str "b", V.str "pc", V.str "sp", V.str "zero", V.str "lets", V.str "asleep", V.str "beat"])) = G1 at *
  obtain ⟨dx, bd, st, wa, fr, hi, co, mi, sd, gn, hp⟩ := Y.ins
  refine ⟨_, rfl, p, dx, _, rfl, hp, pN_look, S, F_, p, x, rfl, Y, fun G2 la s2 nla hla => ?_⟩
  rw [R.m] at hla
  have Y := Y.same s2
  have hp := s2 _ _ hp
  have h1 := s2 _ _ h1
  refine ⟨_, rfl, l1, rfl, ⟨_, SqL.of h1⟩, fun D nD => ?_⟩
  refine lc_list (K := K) (a := l1) (xs := [V.str "a", V.str "b", V.str "pc", V.str "sp", V.str "zero", V.str "lets", V.str "asleep", V.str "beat"]) (fun i H' => Same G2 H' ∧ H' D = some (.lst (reg0V.take i))) ⟨same_upd' nD, upd_same⟩ (fun i H' _ h => SqL.of (h.1 _ _ h1)) ?_ ?_
  · rintro j v H' hv ⟨sm, hD⟩
    have Y := Y.same sm
    have hp := sm _ _ hp
    have hj : j < 8 := (List.getElem?_eq_some_iff.mp hv).1
    obtain ⟨nm, rv, rfl, hrv, hin⟩ : ∃ nm rv, v = .str nm ∧ reg0V[j]? = some rv ∧ (nm, rv) ∈ regsL x.b := by
      rw [R.r]
      have : j = 0 ∨ j = 1 ∨ j = 2 ∨ j = 3 ∨ j = 4 ∨ j = 5 ∨ j = 6 ∨ j = 7 := by omega
      rcases this with rfl | rfl | rfl | rfl | rfl | rfl | rfl | rfl <;> (cases hv; exact ⟨_, _, rfl, rfl, by simp [regsL, newBd]⟩)
    refine ⟨rfl, ?_⟩
    refine ⟨_, rfl, p, dx, _, rfl, hp, pN_register_of, _, rfl, S, F_, p, x, nm, rv, rfl, Y, hin, ?_⟩
    refine ⟨_, hD, ?_, same_of sm nD, ?_⟩
    · rw [List.length_take]
      exact small1000 (by have : reg0V.length = 8 := rfl; omega)
    · rw [upd_same, tk_snoc hrv]
  rintro G3 ⟨s3, hD⟩
  have hD : G3 D = some (.lst reg0V) := hD
  have Y := Y.same s3
  have hp := s3 _ _ hp
  have hla := s3 _ _ hla
  refine ⟨_, rfl, p, dx, _, rfl, hp, pN_stop_told, S, F_, p, x, rfl, Y, fun sv hsv => ?_⟩
  rw [R.st] at hsv
  have hsv : sv = .non := hsv
  subst hsv
  refine ⟨_, rfl, p, dx, _, rfl, hp, pN_out, S, F_, p, x, rfl, Y, fun G4 lo us s4 nlo hlo hus => ?_⟩
  rw [R.se] at hus
  have hus : us = [] := by cases hus; rfl
  subst hus
  have Y := Y.same s4
  have hp := s4 _ _ hp
  have hla := s4 _ _ hla
  have hD := s4 _ _ hD
  refine ⟨(by show 4 ≤ sizeLine; decide), fun l5 n5 => ?_⟩
  have Y := Y.same (same_upd' (o := .lst [.ref la, .ref D, .non, .ref lo]) n5)
  have r5 := same_upd' (o := .lst [.ref la, .ref D, .non, .ref lo]) n5
  have h5 : upd G4 l5 (.lst [.ref la, .ref D, .non, .ref lo]) l5 = some (.lst [.ref la, .ref D, .non, .ref lo]) := upd_same
  have hp := r5 _ _ hp
  have hla := r5 _ _ hla
  have hD := r5 _ _ hD
  have hlo := r5 _ _ hlo
  generalize upd G4 l5 (.lst [.ref la, .ref D, .non, .ref lo]) = G5 at *
  refine ⟨_, rfl, ?_⟩
  refine ⟨_, rfl, p, dx, _, rfl, hp, pN_turns, S, F_, p, x, rfl, Y, ?_⟩
  rw [R.g]
  refine ⟨_, rfl, p, dx, _, rfl, hp, pN_marks, S, F_, p, x, rfl, Y, mk, fun G6 lm ms out s6 nlm hlm pm so => ?_⟩
  have Y := Y.same s6
  have hp := s6 _ _ hp
  refine ⟨_, rfl, p, dx, _, rfl, hp, pN_wear, S, F_, p, x, rfl, Y, fun G7 le s7 nle hle => ?_⟩
  have Y := Y.same s7
  have hp := s7 _ _ hp
  have hlm := s7 _ _ hlm
  refine ⟨_, rfl, p, dx, _, rfl, hp, pN_watches, S, F_, p, x, rfl, Y, fun G8 lv vs s8 nlv hlv wts => ?_⟩
  rw [R.w] at wts
  have evs : vs = [.non, .non] := wat_none wts
  subst evs
  have hle := s8 _ _ hle
  have hlm := s8 _ _ hlm
  have pm := RwAt.mono (fun t xs e => s8 _ _ (s7 _ _ e)) pm
  have s58 := (s6.trans s7).trans s8
  have hla := s58 _ _ hla
  have hD := s58 _ _ hD
  have hlo := s58 _ _ hlo
  have h5 := s58 _ _ h5
  refine ⟨(by show 4 ≤ sizeLine; decide), fun l9 n9 => ?_⟩
  have r9 := same_upd' (o := .lst [.int 0, .ref lm, .ref le, .ref lv]) n9
  have h9 : upd G8 l9 (.lst [.int 0, .ref lm, .ref le, .ref lv]) l9 = some (.lst [.int 0, .ref lm, .ref le, .ref lv]) := upd_same
  have h5 := r9 _ _ h5
  have hla := r9 _ _ hla
  have hD := r9 _ _ hD
  have hlo := r9 _ _ hlo
  have hlm := r9 _ _ hlm
  have hle := r9 _ _ hle
  have hlv := r9 _ _ hlv
  generalize upd G8 l9 (.lst [.int 0, .ref lm, .ref le, .ref lv]) = G9 at *
  have pm := RwAt.mono (fun t xs e => r9 _ _ e) pm
  refine ⟨l5, l9, _, _, rfl, rfl, h5, h9, (by show 4 + 4 ≤ sizeLine; decide), fun lz nz => ?_⟩
  have rz := same_upd' (o := .lst [.ref la, .ref D, .non, .ref lo, .int 0, .ref lm, .ref le, .ref lv]) nz
  have sall : Same H (upd G9 lz (.lst [.ref la, .ref D, .non, .ref lo, .int 0, .ref lm, .ref le, .ref lv])) := (((((((r1.trans s2).trans s3).trans s4).trans r5).trans s58).trans r9).trans rz)
  refine q _ lz out sall so ?_
  exact .lst (SqL.of upd_same) (.cons (.lst (SqL.of (rz _ _ hla)) (dp_ints2 _)) (.cons (.lst (SqL.of (rz _ _ hD)) dp_reg0) (.cons .non (.cons (.lst (SqL.of (rz _ _ hlo)) .nil) (.cons (.int _) (.cons (.lst (SqL.of (rz _ _ hlm)) (dp_rows (RwAt.mono (fun t xs e => rz _ _ e) pm))) (.cons (.lst (SqL.of (rz _ _ hle)) (dp_ints2 _)) (.cons (.lst (SqL.of (rz _ _ hlv)) (.cons .non (.cons .non .nil))) .nil))))))))
abbrev sLshown : Stmt := topS 105
def scLshownN : List Str := ["_law_p", "_law_b", "_law_marks", "_law_names", "_law_found", "_law_address", "_law_name"]
theorem scLshown : FnScope scLshownN ["_law_p"] (defScope sLshown) := ⟨rfl, rfl, rfl, by decide +kernel, rfl, by decide +kernel, by decide +kernel⟩
theorem ok_Lshown {f : Addr} {fd : FuncData} (F : Fun K "_law_shown" "_law_shown" sLshown f fd) (T : Ty K mg CB CM CP CK CW CF CH CC CI CS)
    (z_sorted : mg "sorted" = none) : FnOk P w K mg base CX0 1 f fd ["_law_p"] (spLShown K) := by
  refine F.ok scLshown (fun vs H Q E h => by obtain ⟨_, _, _, _, _, _, _, _, _, _, _, _, _, _, rfl, _⟩ := h; rfl) (fun cdv A outer s H vs Q E hr h => ?_)
  have hu := hu_of hr
  obtain ⟨d, b, m, ln, se, so, to, hd, lw, wo, ns, hs, sw, we, rfl, L, lhs, lsw, q⟩ := h
  refine ⟨_, (pss_cons (ps_set (i := 1) scLshown.nd rfl (.inr rfl) (pe_dget hu (pv 0) pe_str (fun _ _ => rfl)))
    (pss_cons (ps_set (i := 2) scLshown.nd rfl (.inl rfl) (pe_op op_cat (pe_lock (pe_lc (own := [("_law_address", 5)]) (g := gName 5) (tt := tYes) (by rfl) scLshown.nd (pi_keys (pe_dget hu (pv 0) pe_str (fun _ _ => rfl))) (blkOk_by (own := [("_law_address", 5)]) (N := scLshownN) (sc := defScope sLshown) (by decide +kernel)) (fun _ _ _ _ _ => (pg_name (i := 5) scLshown.nd rfl (.inl rfl))) (fun _ _ _ _ _ => pts_nil) (fun _ _ _ _ _ => (pe_tup (pa_cons (pv 5) (pa_cons pe_str pa_nil)))))) (pe_lock (pe_lc (own := [("_law_address", 5)]) (g := gName 5) (tt := tYes) (by rfl) scLshown.nd (pi_keys (pe_dget hu (pv 1) pe_str (fun _ _ => rfl))) (blkOk_by (own := [("_law_address", 5)]) (N := scLshownN) (sc := defScope sLshown) (by decide +kernel)) (fun _ _ _ _ _ => (pg_name (i := 5) scLshown.nd rfl (.inl rfl))) (fun _ _ _ _ _ => pts_nil) (fun _ _ _ _ _ => (pe_tup (pa_cons (pv 5) (pa_cons pe_str pa_nil))))))))
    (pss_cons (ps_set (i := 3) scLshown.nd rfl (.inl rfl) (pe_lst (pa_cons pe_str (pa_cons pe_str (pa_cons pe_str (pa_cons pe_str (pa_cons pe_str (pa_cons pe_str (pa_cons pe_str (pa_cons pe_str pa_nil))))))))))
    (pss_cons (ps_set (i := 4) scLshown.nd rfl (.inl rfl) (pe_lst (pa_cons (pe_dget hu (pv 1) pe_str (fun _ _ => rfl)) (pa_cons (pe_lc (own := [("_law_name", 6)]) (g := gName 6) (tt := tYes) (by rfl) scLshown.nd (pi_list (pv 3)) (blkOk_by (own := [("_law_name", 6)]) (N := scLshownN) (sc := defScope sLshown) (by decide +kernel)) (fun _ _ _ _ _ => (pg_name (i := 6) scLshown.nd rfl (.inl rfl))) (fun _ _ _ _ _ => pts_nil) (fun _ _ _ _ _ => (pe_dget hu (pv 1) (pv 6) (fun _ _ => rfl)))) (pa_cons (pe_dget hu (pv 1) pe_str (fun _ _ => rfl)) (pa_cons (pe_dget hu (pv 1) pe_str (fun _ _ => rfl)) (pa_cons (pe_dget hu (pv 0) pe_str (fun _ _ => rfl)) (pa_cons (pe_callB cr_sortedIS (by rfl) z_sorted (by decide +kernel) (pa_cons (pv 2) pa_nil)) (pa_cons (pe_dget hu (pv 0) pe_str (fun _ _ => rfl)) pa_nil)))))))))
    (pss_one (ps_ret (pe_op op_cat (pv 4) (pe_lst (pa_cons (pe_dget hu (pv 0) pe_str (fun _ _ => rfl)) pa_nil))))))))), ?_⟩
  obtain ⟨hd_, hb, hm, hse, hso, hhd, hwo, hlw, _, _, _, _⟩ := L
  have ndh : d ≠ hd := fun z => by
    rw [z, hhd] at hd_
    exact swD_no (HO.dK.inj (Option.some.inj hd_))
  have nbs : b ≠ so := fun z => by
    rw [z, hso] at hb
    exact swD_no (HO.dK.inj (Option.some.inj hb))
  refine ⟨_, rfl, d, _, rfl, dg (k := Sum.inr "b") hd_ lpG_b, ?_⟩
  refine ⟨hd, .dK (swD hs), hhd, trivial, fun od => ?_⟩
  refine ⟨_, rfl, d, _, rfl, dg (k := Sum.inr "hard") (by rw [upd_ne ndh]; exact hd_) lpG_hard, hd, od, rfl, .inl ⟨swD hs, upd_same, fun D1 nD1 => ?_⟩⟩
  refine lc_it walk_keys (fun i H' => RowsSt H hd od hs D1 "hard" i H') (rows_start nD1) (fun _ _ _ R => R.hd) ?_ ?_
  · rintro i x Ha Hb hi R ⟨rfl, k_, v_, hk, rfl⟩
    obtain ⟨a_, ha, rfl⟩ := swD_at hk
    refine ⟨rfl, ?_⟩
    refine ⟨_, rfl, (by show 2 ≤ sizeLine; decide), fun T_ nT => ?_⟩
    obtain ⟨acc, e1, e2, R2⟩ := rows_step R ha nT
    exact ⟨acc, e1, by rw [e2, List.length_take]; exact small1000 (by omega), R2⟩
  intro He R
  rw [swD_len] at R
  refine ⟨R.hd, ?_⟩
  obtain ⟨s1, f1, us1, h1, p1⟩ := rows_end R hhd
  generalize upd He hd (.dK (swD hs)) = G1 at *
  have hd_ := s1 _ _ hd_
  have hb := s1 _ _ hb
  have hm := s1 _ _ hm
  have hse := s1 _ _ hse
  have hso := s1 _ _ hso
  have hwo := s1 _ _ hwo
  have hlw := s1 _ _ hlw
  refine ⟨so, .dK (swD sw), hso, trivial, fun od2 => ?_⟩
  refine ⟨_, rfl, b, _, rfl, dg (k := Sum.inr "soft") (by rw [upd_ne nbs]; exact hb) lbG_soft, so, od2, rfl, .inl ⟨swD sw, upd_same, fun D2 nD2 => ?_⟩⟩
  refine lc_it walk_keys (fun i H' => RowsSt G1 so od2 sw D2 "soft" i H') (rows_start nD2) (fun _ _ _ R => R.hd) ?_ ?_
  · rintro i x Ha Hb hi R ⟨rfl, k_, v_, hk, rfl⟩
    obtain ⟨a_, ha, rfl⟩ := swD_at hk
    refine ⟨rfl, ?_⟩
    refine ⟨_, rfl, (by show 2 ≤ sizeLine; decide), fun T_ nT => ?_⟩
    obtain ⟨acc, e1, e2, R2⟩ := rows_step R ha nT
    exact ⟨acc, e1, by rw [e2, List.length_take]; exact small1000 (by omega), R2⟩
  intro He R
  rw [swD_len] at R
  refine ⟨R.hd, ?_⟩
  obtain ⟨s2, f2, us2, h2, p2⟩ := rows_end R hso
  generalize upd He so (.dK (swD sw)) = G2 at *
  have hd_ := s2 _ _ hd_
  have hb := s2 _ _ hb
  have hm := s2 _ _ hm
  have hse := s2 _ _ hse
  have hso := s2 _ _ hso
  have hwo := s2 _ _ hwo
  have hlw := s2 _ _ hlw
  have h1 := s2 _ _ h1
  have l1_ := Paired.length p1
  have l2_ := Paired.length p2
  rw [List.length_map] at l1_ l2_
  have pu := paired_app (RwAt.mono (fun t xs e => s2 _ _ e) p1) p2
  refine ⟨D1, D2, _, _, rfl, rfl, h1, h2, small1000' (by omega), fun l3 n3 => ?_⟩
  have r3 := same_upd' (o := .lst (us1 ++ us2)) n3
  have h3 : upd G2 l3 (.lst (us1 ++ us2)) l3 = some (.lst (us1 ++ us2)) := upd_same
  have hd_ := r3 _ _ hd_
  have hb := r3 _ _ hb
  have hm := r3 _ _ hm
  have hse := r3 _ _ hse
  have hso := r3 _ _ hso
  have hwo := r3 _ _ hwo
  have hlw := r3 _ _ hlw
  generalize upd G2 l3 (.lst (us1 ++ us2)) = G3 at *
  have pu := RwAt.mono (fun t xs e => r3 _ _ e) pu
  refine ⟨(by show 8 ≤ sizeLine; decide), fun l4 n4 => ?_⟩
  have r4 := same_upd' (o := .lst ([V.str "a", V.str "b", V.str "pc", V.str "sp", V.str "zero", V.str "lets", V.str "asleep", V.str "beat"])) n4
  have h4 : upd G3 l4 (.lst ([V.str "a", V.str "b", V.str "pc", V.str "sp", V.str "zero", V.str "lets", V.str "asleep", V.str "beat"])) l4 = some (.lst ([V.str "a", V.str "b", V.str "pc", V.str "sp", V.str "zero", V.str "lets", V.str "asleep", V.str "beat"])) := upd_same
  have hd_ := r4 _ _ hd_
  have hb := r4 _ _ hb
  have hm := r4 _ _ hm
  have hse := r4 _ _ hse
  have hso := r4 _ _ hso
  have hwo := r4 _ _ hwo
  have hlw := r4 _ _ hlw
  have h3 := r4 _ _ h3
  generalize upd G3 l4 (.lst ([V.str "a", V.str "b", V.str "pc", V.str "sp", V.str "zero", V.str "lets", V.str "asleep", V.str "beat"])) = G4 at *
  have pu := RwAt.mono (fun t xs e => r4 _ _ e) pu
  refine ⟨_, rfl, b, _, rfl, dg (k := Sum.inr "m") hb lbG_m, ?_⟩
  refine ⟨_, rfl, l4, rfl, ⟨_, SqL.of h4⟩, fun D nD => ?_⟩
  refine lc_list (K := K) (a := l4) (xs := [V.str "a", V.str "b", V.str "pc", V.str "sp", V.str "zero", V.str "lets", V.str "asleep", V.str "beat"]) (fun i H' => Same G4 H' ∧ H' D = some (.lst (reg0V.take i))) ⟨same_upd' nD, upd_same⟩ (fun i H' _ h => SqL.of (h.1 _ _ h4)) ?_ ?_
  · rintro j v H' hv ⟨sm, hD⟩
    have hb := sm _ _ hb
    have hj : j < 8 := (List.getElem?_eq_some_iff.mp hv).1
    obtain ⟨nm, rv, rfl, hrv, hin⟩ : ∃ nm rv, v = .str nm ∧ reg0V[j]? = some rv ∧ valV (lbD m ln se so to) (Sum.inr nm) = some rv := by
      have : j = 0 ∨ j = 1 ∨ j = 2 ∨ j = 3 ∨ j = 4 ∨ j = 5 ∨ j = 6 ∨ j = 7 := by omega
      rcases this with rfl | rfl | rfl | rfl | rfl | rfl | rfl | rfl <;> (cases hv; exact ⟨_, _, rfl, rfl, by kernel_rfl⟩)
    refine ⟨rfl, ?_⟩
    refine ⟨_, rfl, _, rfl, b, _, rfl, dg (k := Sum.inr nm) hb hin, ?_⟩
    refine ⟨_, hD, ?_, same_of sm nD, ?_⟩
    · rw [List.length_take]
      exact small1000 (by have : reg0V.length = 8 := rfl; omega)
    · rw [upd_same, tk_snoc hrv]
  rintro G5 ⟨s5, hD⟩
  have hD : G5 D = some (.lst reg0V) := hD
  have hd_ := s5 _ _ hd_
  have hb := s5 _ _ hb
  have hm := s5 _ _ hm
  have hse := s5 _ _ hse
  have hso := s5 _ _ hso
  have hwo := s5 _ _ hwo
  have hlw := s5 _ _ hlw
  have h3 := s5 _ _ h3
  have pu := RwAt.mono (fun t xs e => s5 _ _ e) pu
  refine ⟨_, rfl, b, _, rfl, dg (k := Sum.inr "stop") hb lbG_stop, ?_⟩
  refine ⟨_, rfl, b, _, rfl, dg (k := Sum.inr "sent") hb lbG_sent, ?_⟩
  refine ⟨_, rfl, d, _, rfl, dg (k := Sum.inr "gone") hd_ lpG_gone, ?_⟩
  obtain ⟨er_, fr_⟩ := rw_of pu
  refine ⟨_, rfl, l3, us1 ++ us2, rwOf G5, rfl, SqL.of h3, fr_, fun ys l6 perm srt n6 => ?_⟩
  have py : Paired (RwAt G5) ys (ys.map (rwOf G5)) := rw_pair ys fun v hv => fr_ v (perm.mem_iff.mp hv)
  have so_ : SortedR (ys.map (rwOf G5)) (rowsL hs sw) := ⟨by
    have z := perm.map (rwOf G5)
    rw [er_] at z
    exact z, by
    rw [List.pairwise_map]
    exact srt⟩
  have r6 := same_upd' (o := .lst ys) n6
  have h6 : upd G5 l6 (.lst ys) l6 = some (.lst ys) := upd_same
  have hd_ := r6 _ _ hd_
  have hb := r6 _ _ hb
  have hm := r6 _ _ hm
  have hse := r6 _ _ hse
  have hso := r6 _ _ hso
  have hwo := r6 _ _ hwo
  have hlw := r6 _ _ hlw
  have hD := r6 _ _ hD
  generalize upd G5 l6 (.lst ys) = G6 at *
  have py := RwAt.mono (fun t xs e => r6 _ _ e) py
  generalize ys.map (rwOf G5) = out at *
  refine ⟨_, rfl, d, _, rfl, dg (k := Sum.inr "worn") hd_ lpG_worn, ?_⟩
  refine ⟨(by show 7 ≤ sizeLine; decide), fun l7 n7 => ?_⟩
  have r7 := same_upd' (o := .lst [.ref m, .ref D, .non, .ref se, .int 0, .ref l6, .ref wo]) n7
  have h7 : upd G6 l7 (.lst [.ref m, .ref D, .non, .ref se, .int 0, .ref l6, .ref wo]) l7 = some (.lst [.ref m, .ref D, .non, .ref se, .int 0, .ref l6, .ref wo]) := upd_same
  have hd_ := r7 _ _ hd_
  have hb := r7 _ _ hb
  have hm := r7 _ _ hm
  have hse := r7 _ _ hse
  have hso := r7 _ _ hso
  have hwo := r7 _ _ hwo
  have hlw := r7 _ _ hlw
  have hD := r7 _ _ hD
  have h6 := r7 _ _ h6
  generalize upd G6 l7 (.lst [.ref m, .ref D, .non, .ref se, .int 0, .ref l6, .ref wo]) = G7 at *
  have py := RwAt.mono (fun t xs e => r7 _ _ e) py
  refine ⟨_, rfl, ?_⟩
  refine ⟨_, rfl, d, _, rfl, dg (k := Sum.inr "windows") hd_ lpG_windows, ?_⟩
  refine ⟨(by show 1 ≤ sizeLine; decide), fun l8 n8 => ?_⟩
  have r8 := same_upd' (o := .lst [.ref lw]) n8
  have h8 : upd G7 l8 (.lst [.ref lw]) l8 = some (.lst [.ref lw]) := upd_same
  have hd_ := r8 _ _ hd_
  have hb := r8 _ _ hb
  have hm := r8 _ _ hm
  have hse := r8 _ _ hse
  have hso := r8 _ _ hso
  have hwo := r8 _ _ hwo
  have hlw := r8 _ _ hlw
  have hD := r8 _ _ hD
  have h6 := r8 _ _ h6
  have h7 := r8 _ _ h7
  generalize upd G7 l8 (.lst [.ref lw]) = G8 at *
  have py := RwAt.mono (fun t xs e => r8 _ _ e) py
  refine ⟨l7, l8, _, _, rfl, rfl, h7, h8, (by show 7 + 1 ≤ sizeLine; decide), fun lz nz => ?_⟩
  have rz := same_upd' (o := .lst [.ref m, .ref D, .non, .ref se, .int 0, .ref l6, .ref wo, .ref lw]) nz
  have sall : Same H (upd G8 lz (.lst [.ref m, .ref D, .non, .ref se, .int 0, .ref l6, .ref wo, .ref lw])) := ((((((((s1.trans s2).trans r3).trans r4).trans s5).trans r6).trans r7).trans r8).trans rz)
  refine q _ lz out sall so_ ?_
  exact .lst (SqL.of upd_same) (.cons (.lst (SqL.of (rz _ _ hm)) (dp_ints2 _)) (.cons (.lst (SqL.of (rz _ _ hD)) dp_reg0) (.cons .non (.cons (.lst (SqL.of (rz _ _ hse)) .nil) (.cons (.int _) (.cons (.lst (SqL.of (rz _ _ h6)) (dp_rows (RwAt.mono (fun t xs e => rz _ _ e) py))) (.cons (.lst (SqL.of (rz _ _ hwo)) (dp_ints2 _)) (.cons (.lst (SqL.of (rz _ _ hlw)) (.cons .non (.cons .non .nil))) .nil))))))))
end
end Bh

/-! Marks of the law's own. -/
namespace Bh
open PySem PySem.Spec PyProof.Rows L2
theorem flat_ints : ∀ ps : List Int, (ps.map V.int).all flatV = true
  | [] => rfl
  | p :: ps => by
    rw [List.map_cons, List.all_cons, flat_ints ps]
    rfl
theorem swD_val {q : Int} {l : List Int} (h : q ∈ l) : valV (swD l) (Sum.inl q) = some (.bl true) := by
  have e := swD_some q l
  rw [decide_eq_true h] at e
  obtain ⟨v, e⟩ := Option.isSome_iff_exists.mp e
  rw [e]
  unfold valV at e
  obtain ⟨kv, h1, h2⟩ := Option.map_eq_some_iff.mp e
  obtain ⟨i, _, e3⟩ := List.mem_map.mp (List.mem_of_find?_eq_some h1)
  rw [← e3] at h2
  rw [← h2]
inductive Act where
  | mark (i : Int) (h : Bool)
  | unm (i : Int)
  | clr
inductive Out where
  | word | taken | many | none | told
def Act.vs : Act → List V
  | .mark i h => [.str "mark", .int i, .bl h]
  | .unm i => [.str "unmark", .int i]
  | .clr => [.str "clear"]
def ActAt (H : Hp) (t : Addr) (a : Act) : Prop := H t = some (.tup a.vs)
def outA (a : Act) (hs sw : List Int) : Out := match a with
  | .mark i h => match layR i h hs sw with
    | .word => .word
    | .taken => .taken
    | .many => .many
    | .told => .told
  | .unm i => if i ∈ hs ∨ i ∈ sw then .told else .none
  | .clr => .told
def Out.vs : Out → List V
  | .word => [.str "word"]
  | .taken => [.str "taken"]
  | .many => [.str "many"]
  | .none => [.str "none"]
  | .told => [.str "told", .non]
def Out.ds : Out → List PyData
  | .word => [.str "word"]
  | .taken => [.str "taken"]
  | .many => [.str "many"]
  | .none => [.str "none"]
  | .told => [.str "told", .none]
theorem dp_out {K : PySem.W.Frag} {H : Hp} : ∀ o : Out, DpAll K H o.vs o.ds
  | .word => .cons (.str _) .nil
  | .taken => .cons (.str _) .nil
  | .many => .cons (.str _) .nil
  | .none => .cons (.str _) .nil
  | .told => .cons (.str _) (.cons .non .nil)
/-- the marks and pages behind an act -/
def nxt (a : Act) (hs sw we : List Int) : List Int × List Int × List Int := match a with
  | .mark i h => if layR i h hs sw = .told then (if h = true then (hs ++ [i], sw, we) else (hs, sw ++ [i], we)) else (hs, sw, we)
  | .unm i => if i ∈ hs then (hs.filter fun a => decide (a ≠ i), sw, we) else if i ∈ sw then (hs, sw.filter fun a => decide (a ≠ i), wearM we [i]) else (hs, sw, we)
  | .clr => ([], [], wearM we sw)
def actM (a : Act) (x : Pm) : Pm := match a with
  | .mark i h => if layR i h x.hard x.b.sw = .told then markM i h x else x
  | .unm i => if i ∈ x.hard ∨ i ∈ x.b.sw then liftM i x else x
  | .clr => liftAM x
theorem actM_nxt (a : Act) (x : Pm) : ((actM a x).hard, (actM a x).b.sw, (actM a x).wear) = nxt a x.hard x.b.sw x.wear := by
  cases a with
  | mark i h =>
    have ea : actM (.mark i h) x = if layR i h x.hard x.b.sw = .told then markM i h x else x := rfl
    have en : nxt (.mark i h) x.hard x.b.sw x.wear = if layR i h x.hard x.b.sw = .told then (if h = true then (x.hard ++ [i], x.b.sw, x.wear) else (x.hard, x.b.sw ++ [i], x.wear)) else (x.hard, x.b.sw, x.wear) := rfl
    rw [ea, en]
    by_cases e : layR i h x.hard x.b.sw = .told
    · rw [if_pos e, if_pos e]
      cases h <;> rfl
    · rw [if_neg e, if_neg e]
  | unm i =>
    have ea : actM (.unm i) x = if i ∈ x.hard ∨ i ∈ x.b.sw then liftM i x else x := rfl
    have en : nxt (.unm i) x.hard x.b.sw x.wear = if i ∈ x.hard then (x.hard.filter fun a => decide (a ≠ i), x.b.sw, x.wear) else if i ∈ x.b.sw then (x.hard, x.b.sw.filter fun a => decide (a ≠ i), wearM x.wear [i]) else (x.hard, x.b.sw, x.wear) := rfl
    rw [ea, en]
    unfold liftM
    by_cases e : i ∈ x.hard
    · have z : i ∈ x.hard ∨ i ∈ x.b.sw := .inl e
      rw [if_pos z, if_pos e, if_pos e]
    · by_cases e2 : i ∈ x.b.sw
      · have z : i ∈ x.hard ∨ i ∈ x.b.sw := .inr e2
        rw [if_pos z, if_neg e, if_neg e, if_pos e2]
      · have z : ¬ (i ∈ x.hard ∨ i ∈ x.b.sw) := fun z => z.elim e e2
        rw [if_neg z, if_neg e, if_neg e2]
  | clr => rfl
/-- what is left when words are given back -/
def gone (sw as : List Int) : List Int := as.foldl (fun s i => s.filter fun a => decide (a ≠ i)) sw
theorem gone_mem : ∀ (as sw : List Int) (a : Int), a ∈ gone sw as ↔ a ∈ sw ∧ a ∉ as
  | [], sw, a => ⟨fun h => ⟨h, List.not_mem_nil⟩, fun h => h.1⟩
  | i :: as, sw, a => by
    show a ∈ gone (sw.filter fun a => decide (a ≠ i)) as ↔ _
    rw [gone_mem as _ a, List.mem_filter, decide_eq_true_iff, List.mem_cons]
    constructor
    · rintro ⟨⟨h1, h2⟩, h3⟩
      exact ⟨h1, fun z => z.elim h2 h3⟩
    · rintro ⟨h1, h2⟩
      exact ⟨⟨h1, fun z => h2 (.inl z)⟩, fun z => h2 (.inr z)⟩
theorem gone_all (sw : List Int) : gone sw sw = [] := List.eq_nil_iff_forall_not_mem.mpr fun a h => ((gone_mem sw sw a).mp h).2 ((gone_mem sw sw a).mp h).1
theorem gone_snoc (sw as : List Int) (i : Int) : gone sw (as ++ [i]) = (gone sw as).filter fun a => decide (a ≠ i) := by
  unfold gone
  rw [List.foldl_append]
  rfl
def spGiv : Sp := fun vs H Q _ => ∃ (d b m ln se so to hd lw wo l : Addr) (ns hs sw we as : List Int), vs = [.ref d, .ref l] ∧ OwP H d b m ln se so to hd lw wo ns hs sw we ∧ H l = some (.lst (as.map V.int)) ∧ l ≠ wo ∧ as.Nodup ∧ (∀ a ∈ as, a ∈ sw ∧ 0 ≤ a ∧ a ≤ 767) ∧ as.length ≤ 768 ∧ we.length = 16 ∧
  ∀ H', (∀ c o, c ≠ so → c ≠ wo → H c = some o → H' c = some o) → OwP H' d b m ln se so to hd lw wo ns hs (gone sw as) (wearM we as) → Q .non H'
/-- pages gathered so far -/
structure PgL (as : List Int) (i : Nat) (ps : List Int) : Prop where
  nd : ps.Nodup
  l : ps.length ≤ 16
  mem : ∀ p, p ∈ ps ↔ ∃ a ∈ as.take i, a < 512 ∧ a / 32 = p
theorem PgL.zero {as : List Int} : PgL as 0 [] := ⟨List.nodup_nil, by decide, fun p => ⟨fun z => (by cases z), fun ⟨a, z, _⟩ => (by cases z)⟩⟩
theorem PgL.skip {as ps : List Int} {i : Nat} {a : Int} (P : PgL as i ps) (ha : as[i]? = some a) (h : ¬ a < 512 ∨ a / 32 ∈ ps) : PgL as (i + 1) ps := by
  refine ⟨P.nd, P.l, fun p => (P.mem p).trans ?_⟩
  rw [List.take_succ, ha]
  constructor
  · rintro ⟨b, hb, e⟩
    exact ⟨b, List.mem_append_left _ hb, e⟩
  · rintro ⟨b, hb, e1, e2⟩
    rcases List.mem_append.mp hb with z | z
    · exact ⟨b, z, e1, e2⟩
    · have eb : b = a := by simpa using z
      subst eb
      rcases h with h | h
      · exact absurd e1 h
      · rw [e2] at h
        exact (P.mem p).mp h
theorem PgL.add {as ps : List Int} {i : Nat} {a : Int} (P : PgL as i ps) (ha : as[i]? = some a) (h : a < 512) (n : a / 32 ∉ ps) (hr : ∀ b ∈ as, 0 ≤ b ∧ b ≤ 767) : PgL as (i + 1) (ps ++ [a / 32]) := by
  have nd2 : (ps ++ [a / 32]).Nodup := by
    rw [List.nodup_append]
    exact ⟨P.nd, by simp, fun x hx y hy => by
      have : y = a / 32 := by simpa using hy
      rw [this]
      exact fun z => n (z ▸ hx)⟩
  have mem : ∀ p, p ∈ ps ++ [a / 32] ↔ ∃ b ∈ as.take (i + 1), b < 512 ∧ b / 32 = p := fun p => by
    rw [List.take_succ, ha]
    constructor
    · intro z
      rcases List.mem_append.mp z with z | z
      · obtain ⟨b, hb, e⟩ := (P.mem p).mp z
        exact ⟨b, List.mem_append_left _ hb, e⟩
      · have : p = a / 32 := by simpa using z
        exact ⟨a, List.mem_append_right _ (List.mem_singleton.mpr rfl), h, this.symm⟩
    · rintro ⟨b, hb, e1, e2⟩
      rcases List.mem_append.mp hb with z | z
      · exact List.mem_append_left _ ((P.mem p).mpr ⟨b, z, e1, e2⟩)
      · have : b = a := by simpa using z
        subst this
        exact List.mem_append_right _ (List.mem_singleton.mpr e2.symm)
  refine ⟨nd2, few_len 16 _ nd2 fun x hx => ?_, mem⟩
  obtain ⟨b, hb, e1, e2⟩ := (mem x).mp hx
  have := hr b (List.mem_of_mem_take hb)
  omega
def spLOwn : Sp := fun vs H Q _ => ∃ (d b m ln se so to hd lw wo t : Addr) (ns hs sw we : List Int) (a : Act), vs = [.ref d, .ref b, .ref t] ∧ OwP H d b m ln se so to hd lw wo ns hs sw we ∧ (hs ++ sw).Nodup ∧ (∀ a ∈ hs ++ sw, 0 ≤ a ∧ a ≤ 767) ∧ sw.length ≤ 768 ∧ hs.length ≤ 2 ∧ we.length = 16 ∧ ActAt H t a ∧
  ∀ H' l hd', (∀ c o, c ≠ d → c ≠ so → c ≠ hd → c ≠ wo → H c = some o → H' c = some o) → (hd' = hd ∨ H hd' = none) → OwP H' d b m ln se so to hd' lw wo ns (nxt a hs sw we).1 (nxt a hs sw we).2.1 (nxt a hs sw we).2.2 → H' l = some (.tup (outA a hs sw).vs) → Q (.ref l) H'
section
variable {P : Program} {w : World} {K : PySem.W.Frag} {mg : Str → Option Value} {base : Heap} {CB CM CP CK CW CF CH CC CI CS CN CL CT CO : Addr}
abbrev sLgiv : Stmt := topS 107
def scLgivN : List Str := ["_law_p", "_law_addresses", "_law_pages", "_law_address", "_law_page"]
theorem scLgiv : FnScope scLgivN ["_law_p", "_law_addresses"] (defScope sLgiv) := ⟨rfl, rfl, rfl, by decide +kernel, rfl, by decide +kernel, by decide +kernel⟩
theorem ok_Lgiv {f : Addr} {fd : FuncData} (F : Fun K "_law_given_back" "_law_given_back" sLgiv f fd) (T : Ty K mg CB CM CP CK CW CF CH CC CI CS) : FnOk P w K mg base CX0 1 f fd ["_law_p", "_law_addresses"] (spGiv) := by
  refine F.ok scLgiv (fun vs H Q E h => by obtain ⟨_, _, _, _, _, _, _, _, _, _, _, _, _, _, _, _, rfl, _⟩ := h; rfl) (fun cdv A outer s H vs Q E hr h => ?_)
  have hu := hu_of hr
  obtain ⟨d, b, m, ln, se, so, to, hd, lw, wo, l, ns, hs, sw, we, as, rfl, O1, hl, nl, nd, ha, la, lw_, k⟩ := h
  refine ⟨_, (pss_cons (ps_set (i := 2) scLgiv.nd rfl (.inl rfl) (pe_lst pa_nil))
    (pss_cons (ps_for PassesOwn.never rfl (pi_list (pv 1)) (pg_name (i := 3) scLgiv.nd rfl (.inl rfl))
      (pss_cons (ps_expr (pe_dpop1 (pe_dget hu (pe_dget hu (pv 0) pe_str (fun _ _ => rfl)) pe_str (fun _ _ => rfl)) (pv 3) ⟨rfl, rfl, rfl, rfl⟩))
    (pss_one (ps_if (PW.pt (pw_and (pt_cmpR op_lt (pv 3) pe_int (nomark _)) (pw_and1 (pt_cmpR op_notIn_seq (pe_op op_fdiv (pv 3) pe_int) (pv 2) (by rfl))))) (pss_one (ps_expr (pe_bm PySem.F.plainAttrs_list PySem.F.slot_list_append PySem.F.type_list_append mt_append (pv 2) (pa_cons (pe_op op_fdiv (pv 3) pe_int) pa_nil)))) pss_nil))))
    (pss_one (ps_for PassesOwn.never rfl (pi_list (pv 2)) (pg_name (i := 4) scLgiv.nd rfl (.inl rfl))
      (pss_one (ps_asg (pe_op op_add (pe_ix ix_list (pe_dget hu (pv 0) pe_str (fun _ _ => rfl)) (pv 4) (fun _ _ => rfl)) pe_int) (pg_sub (pe_dget hu (pv 0) pe_str (fun _ _ => rfl)) (pv 4) set_list))))))), ?_⟩
  have nls : l ≠ so := ne_of hl O1.hso (by intro z; cases z)
  have nds : d ≠ so := fun z => by
    have e := O1.hd_
    rw [z, O1.hso] at e
    exact swD_no (HO.dK.inj (Option.some.inj e))
  have nbs : b ≠ so := fun z => by
    have e := O1.hb
    rw [z, O1.hso] at e
    exact swD_no (HO.dK.inj (Option.some.inj e))
  have nsw_ : so ≠ wo := ne_of O1.hso O1.hwo (by intro z; cases z)
  refine ⟨Nat.zero_le _, fun pg npg => ?_⟩
  have r1 := same_upd' (o := .lst []) npg
  have npd : d ≠ pg := ne_of_none O1.hd_ npg
  have npb : b ≠ pg := ne_of_none O1.hb npg
  have npl : l ≠ pg := ne_of_none hl npg
  have nps : so ≠ pg := ne_of_none O1.hso npg
  have npw : wo ≠ pg := ne_of_none O1.hwo npg
  have O2 := O1.same r1
  have hl := r1 _ _ hl
  have hpg : upd H pg (.lst []) pg = some (.lst (([] : List Int).map V.int)) := upd_same
  generalize upd H pg (.lst []) = G1 at *
  refine ⟨_, rfl, l, rfl, ⟨_, SqL.of hl⟩, ?_⟩
  refine for_list (K := K) (a := l) (xs := as.map V.int) (fun i σ H' => ∃ (y3 : Option V) (ps : List Int), σ = [some (.ref d), some (.ref l), some (.ref pg), y3, none] ∧ (∀ c o, c ≠ so → c ≠ pg → G1 c = some o → H' c = some o) ∧ H' so = some (.dK (swD (gone sw (as.take i)))) ∧ H' pg = some (.lst (ps.map V.int)) ∧ PgL as i ps) ⟨none, [], rfl, fun c o _ _ e => e, O2.hso, hpg, PgL.zero⟩ (fun i σ H' _ h => by
    obtain ⟨_, _, _, kp, _⟩ := h
    exact SqL.of (kp _ _ nls npl hl)) ?_ ?_
  · rintro i v σ H' hv ⟨y3, ps, rfl, kp, hso, hpg, P⟩
    rw [List.getElem?_map] at hv
    obtain ⟨q_, hqi, rfl⟩ : ∃ q_, as[i]? = some q_ ∧ v = .int q_ := by
      cases e : as[i]? with
      | none => rw [e] at hv; cases hv
      | some q_ => rw [e] at hv; cases hv; exact ⟨q_, rfl, rfl⟩
    obtain ⟨qs, q0, q1⟩ := ha q_ (List.mem_of_getElem? hqi)
    have hd_ := kp _ _ nds npd O2.hd_
    have hb := kp _ _ nbs npb O2.hb
    have hin : q_ ∈ gone sw (as.take i) := (gone_mem _ _ _).mpr ⟨qs, fun z => by
      obtain ⟨j, hj⟩ := List.mem_iff_getElem?.mp z
      rw [List.getElem?_take] at hj
      split at hj
      · rename_i hjk
        obtain ⟨h1, h2⟩ := List.getElem?_eq_some_iff.mp hj
        obtain ⟨h3, h4⟩ := List.getElem?_eq_some_iff.mp hqi
        exact absurd (h2.trans h4.symm) (List.pairwise_iff_getElem.mp nd j i h1 h3 hjk)
      · cases hj⟩
    refine ⟨_, rfl, d, _, rfl, dg (k := Sum.inr "b") hd_ lpG_b, b, _, rfl, dg (k := Sum.inr "soft") hb lbG_soft, so, rfl, .inl ⟨_, .inl hso⟩, _, rfl, swD (gone sw (as.take i)), Sum.inl q_, .bl true, hso, rfl, swD_val hin, ?_⟩
    rw [swD_drop]
    have hso2 : upd H' so (.dK (swD ((gone sw (as.take i)).filter fun a => decide (a ≠ q_)))) so = some (.dK (swD (gone sw (as.take (i + 1))))) := by
      rw [upd_same, List.take_succ, hqi]
      show _ = some (HO.dK (swD (gone sw (as.take i ++ [q_]))))
      rw [gone_snoc]
    have hpg2 : upd H' so (.dK (swD ((gone sw (as.take i)).filter fun a => decide (a ≠ q_)))) pg = some (.lst (ps.map V.int)) := by rw [upd_ne nps.symm]; exact hpg
    have kp2 : ∀ c o, c ≠ so → c ≠ pg → G1 c = some o → upd H' so (.dK (swD ((gone sw (as.take i)).filter fun a => decide (a ≠ q_)))) c = some o := fun c o n1 n2 e => by rw [upd_ne n1]; exact kp c o n1 n2 e
    generalize upd H' so (.dK (swD ((gone sw (as.take i)).filter fun a => decide (a ≠ q_)))) = H2 at *
    refine ⟨_, rfl, _, _, rfl, rfl, _, rfl, ifB (fun h1 => ?_) (fun h1 => ⟨_, _, rfl, kp2, hso2, hpg2, P.skip hqi (.inl (of_decide_eq_false h1))⟩)⟩
    refine ⟨_, rfl, _, _, rfl, rfl, ⟨by decide, by decide⟩, _, rfl, pg, _, rfl, .inl (SqL.of hpg2), rfl, flat_ints _, _, rfl, ?_⟩
    rw [show ∀ z : Bool, (if true = true then !z else z) = !z from fun _ => rfl, in_ints]
    refine ifN (fun h2 => ?_) (fun h2 => ⟨_, _, rfl, kp2, hso2, hpg2, P.skip hqi (.inr (of_decide_eq_true h2))⟩)
    have h2 := of_decide_eq_false h2
    refine ⟨_, rfl, .inl ⟨rfl, _, SqL.of hpg2⟩, _, rfl, _, _, rfl, rfl, ⟨by decide, by decide⟩, pg, _, _, rfl, rfl, hpg2, by rw [List.length_map]; exact small1000 (by have := P.l; omega), ?_⟩
    refine ⟨_, ps ++ [q_ / 32], rfl, fun c o n1 n2 e => by rw [upd_ne n2]; exact kp2 c o n1 n2 e, by rw [upd_ne nps]; exact hso2, by rw [upd_same, List.map_append]; rfl, P.add hqi (of_decide_eq_true h1) h2 fun b hb => (ha b hb).2⟩
  rintro σ H2 ⟨y3, ps, rfl, kp, hso, hpg, P⟩
  rw [List.length_map, List.take_length] at hso
  rw [List.length_map] at P
  have mem := P.mem
  rw [List.take_length] at mem
  have hrp : ∀ q, q ∈ ps → 0 ≤ q ∧ q < 16 := fun q hq => by
    obtain ⟨b, hb, e1, e2⟩ := (mem q).mp hq
    have := (ha b hb).2
    omega
  have nws : wo ≠ so := nsw_.symm
  have hwo := kp _ _ nws npw O2.hwo
  refine ⟨_, rfl, pg, rfl, ⟨_, SqL.of hpg⟩, ?_⟩
  refine for_list (K := K) (a := pg) (xs := ps.map V.int) (fun i σ H' => ∃ (y4 : Option V), σ = [some (.ref d), some (.ref l), some (.ref pg), y3, y4] ∧ (∀ c o, c ≠ wo → H2 c = some o → H' c = some o) ∧ H' wo = some (.lst ((bumpL we (ps.take i)).map V.int))) ⟨none, rfl, fun c o _ e => e, hwo⟩ (fun i σ H' _ h => by
    obtain ⟨_, _, kq, _⟩ := h
    exact SqL.of (kq _ _ npw.symm hpg)) ?_ ?_
  · rintro i v σ H' hv ⟨y4, rfl, kq, hw2⟩
    rw [List.getElem?_map] at hv
    obtain ⟨q_, hqi, rfl⟩ : ∃ q_, ps[i]? = some q_ ∧ v = .int q_ := by
      cases e : ps[i]? with
      | none => rw [e] at hv; cases hv
      | some q_ => rw [e] at hv; cases hv; exact ⟨q_, rfl, rfl⟩
    have hq := hrp q_ (List.mem_of_getElem? hqi)
    have ndw : d ≠ wo := ne_of O1.hd_ O1.hwo (by intro z; cases z)
    have hd_ := kq _ _ ndw (kp _ _ nds npd O2.hd_)
    have hlb : (bumpL we (ps.take i)).length = 16 := (bumpL_len _ _).trans lw_
    have hat : atI ((bumpL we (ps.take i)).map V.int) q_ = some (.int ((bumpL we (ps.take i)).getD q_.toNat 0)) := by
      have z := atI_nat (xs := (bumpL we (ps.take i)).map V.int) (j := q_.toNat) (v := .int ((bumpL we (ps.take i)).getD q_.toNat 0)) (by
        rw [List.getElem?_map, List.getD_eq_getElem?_getD, List.getElem?_eq_getElem (by omega)]
        rfl)
      rwa [show ((q_.toNat : Nat) : Int) = q_ by omega] at z
    refine ⟨_, rfl, d, _, rfl, dg (k := Sum.inr "worn") hd_ lpG_worn, _, rfl, wo, _, _, _, rfl, rfl, SqL.of hw2, hat, _, _, rfl, rfl, _, rfl, d, _, rfl, dg (k := Sum.inr "worn") hd_ lpG_worn, _, rfl, wo, _, _, _, rfl, rfl, hw2, ixN_in hq.1 (by rw [List.length_map]; omega), ?_⟩
    refine ⟨_, rfl, fun c o n e => by rw [upd_ne n]; exact kq c o n e, ?_⟩
    rw [upd_same, List.take_succ, hqi]
    show some (HO.lst _) = some (HO.lst ((bumpL we (ps.take i ++ [q_])).map V.int))
    rw [bumpL_snoc, List.map_set]
  rintro σ H3 ⟨y4, rfl, kq, hw2⟩
  rw [List.length_map, List.take_length, bump_wear P.nd lw_ mem (fun z hz => (ha z hz).2)] at hw2
  have kk : ∀ c o, c ≠ so → c ≠ wo → H c = some o → H3 c = some o := fun c o n1 n2 e => kq _ _ n2 (kp _ _ n1 (fun z => by rw [z, npg] at e; cases e) (r1 _ _ e))
  have dk : ∀ {c : Addr} {kv : List (Key × V)}, H c = some (.dK kv) → c ≠ wo := fun e => ne_of e O1.hwo (by intro z; cases z)
  have ls_ : ∀ {c : Addr} {xs : List V}, H c = some (.lst xs) → c ≠ so := fun e => ne_of e O1.hso (by intro z; cases z)
  exact k _ kk { O1 with
    hd_ := kk _ _ nds (dk O1.hd_) O1.hd_
    hb := kk _ _ nbs (dk O1.hb) O1.hb
    hm := kk _ _ (ls_ O1.hm) O1.n1 O1.hm
    hse := kk _ _ (ls_ O1.hse) O1.n2 O1.hse
    hso := kq _ _ nsw_ hso
    hhd := kk _ _ O1.n4.symm (dk O1.hhd) O1.hhd
    hwo := hw2
    hlw := kk _ _ (ls_ O1.hlw) O1.n3 O1.hlw }
abbrev sLown : Stmt := topS 108
def scLownN : List Str := ["_law_p", "_law_b", "_law_act", "_law_stands", "_law_chosen"]
theorem scLown : FnScope scLownN ["_law_p", "_law_b", "_law_act"] (defScope sLown) := ⟨rfl, rfl, rfl, by decide +kernel, rfl, by decide +kernel, by decide +kernel⟩
theorem ok_Lown {f : Addr} {fd : FuncData} {fL_giv : Addr} {dL_giv : FuncData} (F : Fun K "_law_own_mark" "_law_own_mark" sLown f fd) (T : Ty K mg CB CM CP CK CW CF CH CC CI CS)
    (L_giv : CalF P w K mg base 1 "_law_given_back" ["_law_p", "_law_addresses"] (spGiv) fL_giv dL_giv) : FnOk P w K mg base CX0 2 f fd ["_law_p", "_law_b", "_law_act"] (spLOwn) := by
  refine F.ok scLown (fun vs H Q E h => by obtain ⟨_, _, _, _, _, _, _, _, _, _, _, _, _, _, _, _, rfl, _⟩ := h; rfl) (fun cdv A outer s H vs Q E hr h => ?_)
  have hu := hu_of hr
  have z_int := T.z_int
  have z_len := T.z_len
  have z_list := T.z_list
  obtain ⟨d, b, m, ln, se, so, to, hd, lw, wo, t, ns, hs, sw, we, a, rfl, O1, nd, hr_, lsw, lhs, lwe, ht, q⟩ := h
  refine ⟨_, (pss_cons (ps_if (pt_cmpR op_eq (pe_ix ix_tup (pv 2) pe_int (fun _ _ => rfl)) pe_str (nomark _)) (pss_cons (ps_dput hu (pv 0) pe_str pe_dnewK rfl)
    (pss_cons (ps_expr (pe_call L_giv.G (hr.mono (by decide)) (by rfl) L_giv.g L_giv.kp L_giv.b .nil pass0 (pa_cons (pv 0) (pa_cons (pe_callTy (call_list_dK rfl) (by rfl) z_list (by decide +kernel) (pa_cons (pe_dget hu (pv 1) pe_str (fun _ _ => rfl)) pa_nil)) pa_nil))))
    (pss_one (ps_ret (pe_tup (pa_cons pe_str (pa_cons pe_non pa_nil))))))) pss_nil)
    (pss_cons (ps_set (i := 3) scLown.nd rfl (.inl rfl) (pe_or (pe_cmp (pc_din hu (pe_ix ix_tup (pv 2) pe_int (fun _ _ => rfl)) (pe_dget hu (pv 1) pe_str (fun _ _ => rfl)))) (pe_one (pe_cmp (pc_din hu (pe_ix ix_tup (pv 2) pe_int (fun _ _ => rfl)) (pe_dget hu (pv 0) pe_str (fun _ _ => rfl)))))))
    (pss_cons (ps_if (pt_cmpR op_eq (pe_ix ix_tup (pv 2) pe_int (fun _ _ => rfl)) pe_str (nomark _)) (pss_cons (ps_if (pt_not (pt_val (pv 3))) (pss_one (ps_ret (pe_tup (pa_cons pe_str pa_nil)))) pss_nil)
    (pss_cons (ps_if (pt_cmp (pc_din hu (pe_ix ix_tup (pv 2) pe_int (fun _ _ => rfl)) (pe_dget hu (pv 1) pe_str (fun _ _ => rfl)))) (pss_one (ps_expr (pe_call L_giv.G (hr.mono (by decide)) (by rfl) L_giv.g L_giv.kp L_giv.b .nil pass0 (pa_cons (pv 0) (pa_cons (pe_lst (pa_cons (pe_ix ix_tup (pv 2) pe_int (fun _ _ => rfl)) pa_nil)) pa_nil))))) pss_nil)
    (pss_cons (ps_expr (pe_dpop2 (pe_dget hu (pv 0) pe_str (fun _ _ => rfl)) (pe_ix ix_tup (pv 2) pe_int (fun _ _ => rfl)) pe_non ⟨rfl, rfl, rfl, rfl⟩))
    (pss_one (ps_ret (pe_tup (pa_cons pe_str (pa_cons pe_non pa_nil)))))))) pss_nil)
    (pss_cons (ps_if (PW.pt (pw_or (pt_not (pt_chain op_le op_lt pe_int (pe_ix ix_tup (pv 2) pe_int (fun _ _ => rfl)) pe_int)) (pw_or1 (pt_val (pv 3))))) (pss_one (ps_ret (pe_ix ix_list (pe_lst (pa_cons (pe_tup (pa_cons pe_str pa_nil)) (pa_cons (pe_tup (pa_cons pe_str pa_nil)) pa_nil))) (pe_callTy call_int1 (by rfl) z_int (by decide +kernel) (pa_cons (pv 3) pa_nil)) (fun _ _ => rfl)))) pss_nil)
    (pss_cons (ps_if (PW.pt (pw_and (pt_val (pe_ix ix_tup (pv 2) pe_int (fun _ _ => rfl))) (pw_and1 (pt_cmpR op_eq (pe_callB call_lenD (by rfl) z_len PySem.boot_len (pa_cons (pe_dget hu (pv 0) pe_str (fun _ _ => rfl)) pa_nil)) pe_int (nomark _))))) (pss_one (ps_ret (pe_tup (pa_cons pe_str pa_nil)))) pss_nil)
    (pss_cons (ps_set (i := 4) scLown.nd rfl (.inl rfl) (pe_ix ix_list (pe_lst (pa_cons (pe_dget hu (pv 1) pe_str (fun _ _ => rfl)) (pa_cons (pe_dget hu (pv 0) pe_str (fun _ _ => rfl)) pa_nil))) (pe_callTy call_int1 (by rfl) z_int (by decide +kernel) (pa_cons (pe_ix ix_tup (pv 2) pe_int (fun _ _ => rfl)) pa_nil)) (fun _ _ => rfl)))
    (pss_cons (ps_dput hu (pv 4) (pe_ix ix_tup (pv 2) pe_int (fun _ _ => rfl)) pe_bl rfl)
    (pss_one (ps_ret (pe_tup (pa_cons pe_str (pa_cons pe_non pa_nil)))))))))))), ?_⟩
  obtain ⟨hd_, hb, hm, hse, hso, hhd, hwo, hlw, n1, n2, n3, n4⟩ := id O1
  have nds : d ≠ so := fun z => by
    rw [z, hso] at hd_
    exact swD_no (HO.dK.inj (Option.some.inj hd_))
  have nbs : b ≠ so := fun z => by
    rw [z, hso] at hb
    exact swD_no (HO.dK.inj (Option.some.inj hb))
  have ndh : d ≠ hd := fun z => by
    rw [z, hhd] at hd_
    exact swD_no (HO.dK.inj (Option.some.inj hd_))
  have nbh : b ≠ hd := fun z => by
    rw [z, hhd] at hb
    exact swD_no (HO.dK.inj (Option.some.inj hb))
  have nbd : b ≠ d := fun z => by
    rw [z, hd_] at hb
    have q := HO.dK.inj (Option.some.inj hb)
    cases q
  have dsw : ∀ z ∈ sw, z ∉ hs := fun z h1 h2 => (List.nodup_append.mp nd).2.2 z h2 z h1 rfl
  have ndsw : sw.Nodup := (List.nodup_append.mp nd).2.1
  have dk : ∀ {c : Addr} {kv : List (Key × V)}, H c = some (.dK kv) → c ≠ wo := fun e => ne_of e hwo (by intro z; cases z)
  cases a with
  | clr =>
    have ht : H t = some (.tup [.str "clear"]) := ht
    refine ⟨_, rfl, t, _, 0, _, rfl, rfl, SqT.of ht, atI_nat (j := 0) rfl, rfl, _, rfl, ifB (fun _ => ?_) (fun h => absurd rfl (of_decide_eq_false h))⟩
    intro hd2 nhd2
    have r1 := same_upd' (o := .dK []) nhd2
    refine ⟨_, rfl, d, _, rfl, DPut.k (k := Sum.inr "hard") (r1 _ _ hd_) (by show 5 < sizeLine; decide), ?_⟩
    rw [show putK (lpD b hd lw wo) (Sum.inr "hard") (.ref hd2) = lpD b hd2 lw wo from by kernel_rfl]
    have kd : ∀ c o, c ≠ d → H c = some o → upd (upd H hd2 (.dK [])) d (.dK (lpD b hd2 lw wo)) c = some o := fun c o n e => by rw [upd_ne n]; exact r1 _ _ e
    have nhd : hd2 ≠ d := (ne_of_none hd_ nhd2).symm
    have lsd : ∀ {c : Addr} {xs : List V}, H c = some (.lst xs) → c ≠ d := fun e => ne_of e hd_ (by intro z; cases z)
    have O2 : OwP (upd (upd H hd2 (.dK [])) d (.dK (lpD b hd2 lw wo))) d b m ln se so to hd2 lw wo ns [] sw we :=
      ⟨upd_same, kd _ _ nbd hb, kd _ _ (lsd hm) hm, kd _ _ (lsd hse) hse, kd _ _ nds.symm hso, by rw [upd_ne nhd]; exact upd_same, kd _ _ (lsd hwo) hwo, kd _ _ (lsd hlw) hlw, n1, n2, n3, ne_of_none hso nhd2⟩
    generalize upd (upd H hd2 (.dK [])) d (.dK (lpD b hd2 lw wo)) = G1 at *
    refine ⟨_, rfl, _, rfl, b, _, rfl, dg (k := Sum.inr "soft") O2.hb lbG_soft, so, _, rfl, O2.hso, fun l nl => ?_⟩
    rw [show (swD sw).map (fun kv => kV kv.1) = sw.map V.int from by unfold swD; rw [List.map_map]; rfl]
    have r2 := same_upd' (o := .lst (sw.map V.int)) nl
    have hl : upd G1 l (.lst (sw.map V.int)) l = some (.lst (sw.map V.int)) := upd_same
    have nlw : l ≠ wo := (ne_of_none O2.hwo nl).symm
    have O2 := O2.same r2
    generalize upd G1 l (.lst (sw.map V.int)) = G2 at *
    refine ⟨d, b, m, ln, se, so, to, hd2, lw, wo, l, ns, [], sw, we, sw, rfl, O2, hl, nlw, ndsw, fun z hz => ⟨hz, hr_ z (List.mem_append_right _ hz)⟩, lsw, lwe, fun G3 kk O3 => ?_⟩
    rw [gone_all] at O3
    refine ⟨(by show 2 ≤ sizeLine; decide), fun lz nz => ?_⟩
    have r3 := same_upd' (o := .tup [V.str "told", V.non]) nz
    exact q _ lz hd2 (fun c o e1 e2 e3 e4 e => r3 _ _ (kk _ _ e2 e4 (r2 _ _ (kd _ _ e1 e)))) (.inr nhd2) (O3.same r3) upd_same
  | unm i =>
    have ht : H t = some (.tup [.str "unmark", .int i]) := ht
    refine ⟨_, rfl, t, _, 0, _, rfl, rfl, SqT.of ht, atI_nat (j := 0) rfl, rfl, _, rfl, ifB (fun h => absurd (V.str.inj (of_decide_eq_true h)) (by decide +kernel)) (fun _ => ?_)⟩
    refine ⟨_, rfl, t, _, 1, _, rfl, rfl, SqT.of ht, atI_nat (j := 1) rfl, _, rfl, b, _, rfl, dg (k := Sum.inr "soft") hb lbG_soft, so, _, rfl, DGet.k (k := Sum.inl i) hso, ?_⟩
    rw [swD_some]
    by_cases hi : i ∈ sw
    · have nih := dsw i hi
      have e1 : nxt (.unm i) hs sw we = (hs, sw.filter fun a => decide (a ≠ i), wearM we [i]) := by
        show (if i ∈ hs then _ else if i ∈ sw then _ else _) = _
        rw [if_neg nih, if_pos hi]
      have e2 : outA (.unm i) hs sw = .told := if_pos (.inr hi)
      rw [e1, e2] at q
      rw [decide_eq_true hi]
      refine ⟨_, rfl, ifB (fun _ => ?_) (fun h => by cases h)⟩
      refine ⟨_, rfl, t, _, 0, _, rfl, rfl, SqT.of ht, atI_nat (j := 0) rfl, rfl, _, rfl, ifB (fun _ => ?_) (fun h => absurd rfl (of_decide_eq_false h))⟩
      refine ⟨_, rfl, _, rfl, ifN (fun h => by cases h) (fun _ => ?_)⟩
      refine ⟨_, rfl, t, _, 1, _, rfl, rfl, SqT.of ht, atI_nat (j := 1) rfl, _, rfl, b, _, rfl, dg (k := Sum.inr "soft") hb lbG_soft, so, _, rfl, DGet.k (k := Sum.inl i) hso, ?_⟩
      rw [swD_some, decide_eq_true hi]
      refine ⟨_, rfl, ifB (fun _ => ?_) (fun h => by cases h)⟩
      refine ⟨_, rfl, _, rfl, t, _, 1, _, rfl, rfl, SqT.of ht, atI_nat (j := 1) rfl, (by show 1 ≤ sizeLine; decide), fun l nl => ?_⟩
      have r2 := same_upd' (o := .lst [V.int i]) nl
      have hl : upd H l (.lst [V.int i]) l = some (.lst ([i].map V.int)) := upd_same
      have nlw : l ≠ wo := (ne_of_none hwo nl).symm
      have O2 := O1.same r2
      generalize upd H l (.lst [V.int i]) = G2 at *
      refine ⟨d, b, m, ln, se, so, to, hd, lw, wo, l, ns, hs, sw, we, [i], rfl, O2, hl, nlw, List.nodup_cons.mpr ⟨List.not_mem_nil, List.nodup_nil⟩, fun z hz => by rw [List.mem_singleton.mp hz]; exact ⟨hi, hr_ i (List.mem_append_right _ hi)⟩, (by show 1 ≤ 768; decide), lwe, fun G3 kk O3 => ?_⟩
      have O3 : OwP G3 d b m ln se so to hd lw wo ns hs (sw.filter fun a => decide (a ≠ i)) (wearM we [i]) := O3
      refine ⟨_, rfl, d, _, rfl, dg (k := Sum.inr "hard") O3.hd_ lpG_hard, hd, rfl, .inl ⟨_, .inl O3.hhd⟩, _, rfl, t, _, 1, _, rfl, rfl, SqT.of (kk _ _ (ne_of ht hso (by intro z; cases z)) (ne_of ht hwo (by intro z; cases z)) (r2 _ _ ht)), atI_nat (j := 1) rfl, swD hs, Sum.inl i, O3.hhd, rfl, fun v e => ?_, fun _ => ?_⟩
      · have z := swD_some i hs
        rw [decide_eq_false nih, e] at z
        cases z
      refine ⟨(by show 2 ≤ sizeLine; decide), fun lz nz => ?_⟩
      have r3 := same_upd' (o := .tup [V.str "told", V.non]) nz
      exact q _ lz hd (fun c o e1 e2 e3 e4 e => r3 _ _ (kk _ _ e2 e4 (r2 _ _ e))) (.inl rfl) (O3.same r3) upd_same
    rw [decide_eq_false hi]
    refine ⟨_, rfl, ifB (fun h => by cases h) (fun _ => ?_)⟩
    refine ⟨_, rfl, t, _, 1, _, rfl, rfl, SqT.of ht, atI_nat (j := 1) rfl, _, rfl, d, _, rfl, dg (k := Sum.inr "hard") hd_ lpG_hard, hd, _, rfl, DGet.k (k := Sum.inl i) hhd, ?_⟩
    rw [swD_some]
    refine ⟨_, rfl, t, _, 0, _, rfl, rfl, SqT.of ht, atI_nat (j := 0) rfl, rfl, _, rfl, ifB (fun _ => ?_) (fun h => absurd rfl (of_decide_eq_false h))⟩
    refine ⟨_, rfl, _, rfl, ifN (fun h => ?_) (fun h => ?_)⟩
    · have nh := of_decide_eq_false h
      have e1 : nxt (.unm i) hs sw we = (hs, sw, we) := by
        show (if i ∈ hs then _ else if i ∈ sw then _ else _) = _
        rw [if_neg nh, if_neg hi]
      have e2 : outA (.unm i) hs sw = .none := if_neg (fun z : i ∈ hs ∨ i ∈ sw => z.elim nh hi)
      rw [e1, e2] at q
      refine ⟨(by show 1 ≤ sizeLine; decide), fun lz nz => ?_⟩
      have r3 := same_upd' (o := .tup [V.str "none"]) nz
      exact q _ lz hd (fun c o e1 e2 e3 e4 e => r3 _ _ e) (.inl rfl) (O1.same r3) upd_same
    · have ih := of_decide_eq_true h
      have e1 : nxt (.unm i) hs sw we = (hs.filter fun a => decide (a ≠ i), sw, we) := by
        show (if i ∈ hs then _ else if i ∈ sw then _ else _) = _
        rw [if_pos ih]
      have e2 : outA (.unm i) hs sw = .told := if_pos (.inl ih)
      rw [e1, e2] at q
      refine ⟨_, rfl, t, _, 1, _, rfl, rfl, SqT.of ht, atI_nat (j := 1) rfl, _, rfl, b, _, rfl, dg (k := Sum.inr "soft") hb lbG_soft, so, _, rfl, DGet.k (k := Sum.inl i) hso, ?_⟩
      rw [swD_some, decide_eq_false hi]
      refine ⟨_, rfl, ifB (fun h => by cases h) (fun _ => ?_)⟩
      refine ⟨_, rfl, d, _, rfl, dg (k := Sum.inr "hard") hd_ lpG_hard, hd, rfl, .inl ⟨_, .inl hhd⟩, _, rfl, t, _, 1, _, rfl, rfl, SqT.of ht, atI_nat (j := 1) rfl, swD hs, Sum.inl i, hhd, rfl, fun v e => ?_, fun e => ?_⟩
      · rw [swD_drop]
        have kh : ∀ c o, c ≠ hd → H c = some o → upd H hd (.dK (swD (hs.filter fun a => decide (a ≠ i)))) c = some o := fun c o n e => by rw [upd_ne n]; exact e
        have lsh : ∀ {c : Addr} {xs : List V}, H c = some (.lst xs) → c ≠ hd := fun e => ne_of e hhd (by intro z; cases z)
        have O2 : OwP (upd H hd (.dK (swD (hs.filter fun a => decide (a ≠ i))))) d b m ln se so to hd lw wo ns (hs.filter fun a => decide (a ≠ i)) sw we :=
          ⟨kh _ _ ndh hd_, kh _ _ nbh hb, kh _ _ (lsh hm) hm, kh _ _ (lsh hse) hse, kh _ _ n4 hso, upd_same, kh _ _ (lsh hwo) hwo, kh _ _ (lsh hlw) hlw, n1, n2, n3, n4⟩
        generalize upd H hd (.dK (swD (hs.filter fun a => decide (a ≠ i)))) = G2 at *
        refine ⟨(by show 2 ≤ sizeLine; decide), fun lz nz => ?_⟩
        have r3 := same_upd' (o := .tup [V.str "told", V.non]) nz
        exact q _ lz hd (fun c o e1 e2 e3 e4 e => r3 _ _ (kh _ _ e3 e)) (.inl rfl) (O2.same r3) upd_same
      · have z := swD_val ih
        rw [e] at z
        cases z
  | mark i h_ =>
    have ht : H t = some (.tup [.str "mark", .int i, .bl h_]) := ht
    refine ⟨_, rfl, t, _, 0, _, rfl, rfl, SqT.of ht, atI_nat (j := 0) rfl, rfl, _, rfl, ifB (fun h => absurd (V.str.inj (of_decide_eq_true h)) (by decide +kernel)) (fun _ => ?_)⟩
    refine ⟨_, rfl, t, _, 1, _, rfl, rfl, SqT.of ht, atI_nat (j := 1) rfl, _, rfl, b, _, rfl, dg (k := Sum.inr "soft") hb lbG_soft, so, _, rfl, DGet.k (k := Sum.inl i) hso, ?_⟩
    rw [swD_some]
    by_cases hi : i ∈ sw
    · have hb_ : 0 ≤ i ∧ i ≤ 767 := hr_ i (List.mem_append_right _ hi)
      have el : layR i h_ hs sw = .taken := by
        unfold layR
        rw [if_pos hb_, if_pos (.inr hi)]
      have e1 : nxt (.mark i h_) hs sw we = (hs, sw, we) := by
        show (if layR i h_ hs sw = .told then _ else _) = _
        rw [el]
        rfl
      have e2 : outA (.mark i h_) hs sw = .taken := by
        show (match layR i h_ hs sw with | .word => Out.word | .taken => .taken | .many => .many | .told => .told) = _
        rw [el]
      rw [e1, e2] at q
      rw [decide_eq_true hi]
      refine ⟨_, rfl, ifB (fun _ => ?_) (fun h => by cases h)⟩
      refine ⟨_, rfl, t, _, 0, _, rfl, rfl, SqT.of ht, atI_nat (j := 0) rfl, rfl, _, rfl, ifB (fun h => absurd (V.str.inj (of_decide_eq_true h)) (by decide +kernel)) (fun _ => ?_)⟩
      refine ⟨_, rfl, t, _, 1, _, rfl, rfl, SqT.of ht, atI_nat (j := 1) rfl, _, _, rfl, rfl, _, rfl, ifB (fun _ => ?_) (fun h => absurd hb_.1 (of_decide_eq_false h))⟩
      refine ⟨_, _, rfl, rfl, _, rfl, ifN (fun h => absurd hb_.2 (by have := of_decide_eq_false h; omega)) (fun _ => ?_)⟩
      refine ⟨_, rfl, _, rfl, ifB (fun _ => ?_) (fun h => by cases h)⟩
      refine ⟨(by show 1 ≤ sizeLine; decide), fun l1 nl1 => ?_⟩
      have r1 := same_upd' (o := .tup [V.str "word"]) nl1
      have h1 : upd H l1 (.tup [V.str "word"]) l1 = some (.tup [V.str "word"]) := upd_same
      generalize upd H l1 (.tup [V.str "word"]) = J1 at *
      refine ⟨(by show 1 ≤ sizeLine; decide), fun l2 nl2 => ?_⟩
      have r2 := same_upd' (o := .tup [V.str "taken"]) nl2
      have h2 : upd J1 l2 (.tup [V.str "taken"]) l2 = some (.tup [V.str "taken"]) := upd_same
      have h1 := r2 _ _ h1
      generalize upd J1 l2 (.tup [V.str "taken"]) = J2 at *
      refine ⟨(by show 2 ≤ sizeLine; decide), fun l3 nl3 => ?_⟩
      have r3 := same_upd' (o := .lst [V.ref l1, V.ref l2]) nl3
      have h3 : upd J2 l3 (.lst [V.ref l1, V.ref l2]) l3 = some (.lst [V.ref l1, V.ref l2]) := upd_same
      have h1 := r3 _ _ h1
      have h2 := r3 _ _ h2
      generalize upd J2 l3 (.lst [V.ref l1, V.ref l2]) = J3 at *
      refine ⟨_, rfl, .inr ⟨_, rfl, l3, _, _, _, rfl, rfl, SqL.of h3, atI_nat (j := 1) rfl, ?_⟩⟩
      have r13 := (r1.trans r2).trans r3
      exact q _ l2 hd (fun c o e1 e2 e3 e4 e => r13 _ _ e) (.inl rfl) (O1.same r13) h2
    rw [decide_eq_false hi]
    refine ⟨_, rfl, ifB (fun h => by cases h) (fun _ => ?_)⟩
    refine ⟨_, rfl, t, _, 1, _, rfl, rfl, SqT.of ht, atI_nat (j := 1) rfl, _, rfl, d, _, rfl, dg (k := Sum.inr "hard") hd_ lpG_hard, hd, _, rfl, DGet.k (k := Sum.inl i) hhd, ?_⟩
    rw [swD_some]
    by_cases nh : i ∈ hs
    · have hb_ : 0 ≤ i ∧ i ≤ 767 := hr_ i (List.mem_append_left _ nh)
      have el : layR i h_ hs sw = .taken := by
        unfold layR
        rw [if_pos hb_, if_pos (.inl nh)]
      have e1 : nxt (.mark i h_) hs sw we = (hs, sw, we) := by
        show (if layR i h_ hs sw = .told then _ else _) = _
        rw [el]
        rfl
      have e2 : outA (.mark i h_) hs sw = .taken := by
        show (match layR i h_ hs sw with | .word => Out.word | .taken => .taken | .many => .many | .told => .told) = _
        rw [el]
      rw [e1, e2] at q
      rw [decide_eq_true nh]
      refine ⟨_, rfl, t, _, 0, _, rfl, rfl, SqT.of ht, atI_nat (j := 0) rfl, rfl, _, rfl, ifB (fun h => absurd (V.str.inj (of_decide_eq_true h)) (by decide +kernel)) (fun _ => ?_)⟩
      refine ⟨_, rfl, t, _, 1, _, rfl, rfl, SqT.of ht, atI_nat (j := 1) rfl, _, _, rfl, rfl, _, rfl, ifB (fun _ => ?_) (fun h => absurd hb_.1 (of_decide_eq_false h))⟩
      refine ⟨_, _, rfl, rfl, _, rfl, ifN (fun h => absurd hb_.2 (by have := of_decide_eq_false h; omega)) (fun _ => ?_)⟩
      refine ⟨_, rfl, _, rfl, ifB (fun _ => ?_) (fun h => by cases h)⟩
      refine ⟨(by show 1 ≤ sizeLine; decide), fun l1 nl1 => ?_⟩
      have r1 := same_upd' (o := .tup [V.str "word"]) nl1
      have h1 : upd H l1 (.tup [V.str "word"]) l1 = some (.tup [V.str "word"]) := upd_same
      generalize upd H l1 (.tup [V.str "word"]) = J1 at *
      refine ⟨(by show 1 ≤ sizeLine; decide), fun l2 nl2 => ?_⟩
      have r2 := same_upd' (o := .tup [V.str "taken"]) nl2
      have h2 : upd J1 l2 (.tup [V.str "taken"]) l2 = some (.tup [V.str "taken"]) := upd_same
      have h1 := r2 _ _ h1
      generalize upd J1 l2 (.tup [V.str "taken"]) = J2 at *
      refine ⟨(by show 2 ≤ sizeLine; decide), fun l3 nl3 => ?_⟩
      have r3 := same_upd' (o := .lst [V.ref l1, V.ref l2]) nl3
      have h3 : upd J2 l3 (.lst [V.ref l1, V.ref l2]) l3 = some (.lst [V.ref l1, V.ref l2]) := upd_same
      have h1 := r3 _ _ h1
      have h2 := r3 _ _ h2
      generalize upd J2 l3 (.lst [V.ref l1, V.ref l2]) = J3 at *
      refine ⟨_, rfl, .inr ⟨_, rfl, l3, _, _, _, rfl, rfl, SqL.of h3, atI_nat (j := 1) rfl, ?_⟩⟩
      have r13 := (r1.trans r2).trans r3
      exact q _ l2 hd (fun c o e1 e2 e3 e4 e => r13 _ _ e) (.inl rfl) (O1.same r13) h2
    rw [decide_eq_false nh]
    refine ⟨_, rfl, t, _, 0, _, rfl, rfl, SqT.of ht, atI_nat (j := 0) rfl, rfl, _, rfl, ifB (fun h => absurd (V.str.inj (of_decide_eq_true h)) (by decide +kernel)) (fun _ => ?_)⟩
    by_cases hb_ : 0 ≤ i ∧ i ≤ 767
    · skip
      refine ⟨_, rfl, t, _, 1, _, rfl, rfl, SqT.of ht, atI_nat (j := 1) rfl, _, _, rfl, rfl, _, rfl, ifB (fun _ => ?_) (fun h => absurd hb_.1 (of_decide_eq_false h))⟩
      refine ⟨_, _, rfl, rfl, _, rfl, ifN (fun h => absurd hb_.2 (by have := of_decide_eq_false h; omega)) (fun _ => ?_)⟩
      refine ⟨_, rfl, _, rfl, ifB (fun h => by cases h) (fun _ => ?_)⟩
      have nn : ¬ (i ∈ hs ∨ i ∈ sw) := fun z => z.elim nh hi
      refine ⟨_, rfl, t, _, 2, _, rfl, rfl, SqT.of ht, atI_nat (j := 2) rfl, _, rfl, ?_⟩
      cases h_ with
      | false =>
        refine ifB (fun h => by cases h) (fun _ => ?_)
        have el : layR i false hs sw = .told := by
          unfold layR
          rw [if_pos hb_, if_neg nn, if_neg (fun z => by cases z.1)]
        have e1 : nxt (.mark i false) hs sw we = (hs, sw ++ [i], we) := by
          show (if layR i false hs sw = .told then _ else _) = _
          rw [el]
          rfl
        have e2 : outA (.mark i false) hs sw = .told := by
          show (match layR i false hs sw with | .word => Out.word | .taken => .taken | .many => .many | .told => .told) = _
          rw [el]
        rw [e1, e2] at q
        refine ⟨_, rfl, b, _, rfl, dg (k := Sum.inr "soft") hb lbG_soft, _, rfl, d, _, rfl, dg (k := Sum.inr "hard") hd_ lpG_hard, (by show 2 ≤ sizeLine; decide), fun l1 nl1 => ?_⟩
        have r1 := same_upd' (o := .lst [V.ref so, V.ref hd]) nl1
        have h1 : upd H l1 (.lst [V.ref so, V.ref hd]) l1 = some (.lst [V.ref so, V.ref hd]) := upd_same
        have O2 := O1.same r1
        have ht := r1 _ _ ht
        generalize upd H l1 (.lst [V.ref so, V.ref hd]) = J1 at *
        obtain ⟨hd_, hb, hm, hse, hso, hhd, hwo, hlw, n1, n2, n3, n4⟩ := id O2
        refine ⟨_, rfl, t, _, 2, _, rfl, rfl, SqT.of ht, atI_nat (j := 2) rfl, .inr ⟨_, rfl, l1, _, _, _, rfl, rfl, SqL.of h1, atI_nat (j := 0) rfl, ?_⟩⟩
        refine ⟨_, rfl, _, rfl, t, _, 1, _, rfl, rfl, SqT.of ht, atI_nat (j := 1) rfl, so, _, rfl, DPut.k (k := Sum.inl i) hso (by rw [swD_len]; exact Nat.lt_of_le_of_lt (show (sw : List Int).length ≤ 768 by omega) (by decide)), ?_⟩
        rw [swD_put hi]
        have kh : ∀ c o, c ≠ so → J1 c = some o → upd J1 so (.dK (swD (sw ++ [i]))) c = some o := fun c o n e => by rw [upd_ne n]; exact e
        have lsh : ∀ {c : Addr} {xs : List V}, J1 c = some (.lst xs) → c ≠ so := fun e => ne_of e hso (by intro z; cases z)
        have O3 : OwP (upd J1 so (.dK (swD (sw ++ [i])))) d b m ln se so to hd lw wo ns hs (sw ++ [i]) we :=
          ⟨kh _ _ nds hd_, kh _ _ nbs hb, kh _ _ (lsh hm) hm, kh _ _ (lsh hse) hse, upd_same, kh _ _ n4.symm hhd, kh _ _ (lsh hwo) hwo, kh _ _ (lsh hlw) hlw, n1, n2, n3, n4⟩
        generalize upd J1 so (.dK (swD (sw ++ [i]))) = J2 at *
        refine ⟨(by show 2 ≤ sizeLine; decide), fun lz nz => ?_⟩
        have r3 := same_upd' (o := .tup [V.str "told", V.non]) nz
        exact q _ lz hd (fun c o e1 e2 e3 e4 e => r3 _ _ (kh _ _ e2 (r1 _ _ e))) (.inl rfl) (O3.same r3) upd_same
      | true =>
        refine ifB (fun _ => ?_) (fun h => by cases h)
        refine ⟨_, rfl, d, _, rfl, dg (k := Sum.inr "hard") hd_ lpG_hard, hd, _, rfl, hhd, ?_⟩
        rw [swD_len]
        refine ⟨rfl, _, rfl, ifB (fun h => ?_) (fun h => ?_)⟩
        · have h2 := V.int.inj (of_decide_eq_true h)
          have el : layR i true hs sw = .many := by
            unfold layR
            rw [if_pos hb_, if_neg nn, if_pos ⟨rfl, by omega⟩]
          have e1 : nxt (.mark i true) hs sw we = (hs, sw, we) := by
            show (if layR i true hs sw = .told then _ else _) = _
            rw [el]
            rfl
          have e2 : outA (.mark i true) hs sw = .many := by
            show (match layR i true hs sw with | .word => Out.word | .taken => .taken | .many => .many | .told => .told) = _
            rw [el]
          rw [e1, e2] at q
          refine ⟨(by show 1 ≤ sizeLine; decide), fun lz nz => ?_⟩
          have r3 := same_upd' (o := .tup [V.str "many"]) nz
          exact q _ lz hd (fun c o e1 e2 e3 e4 e => r3 _ _ e) (.inl rfl) (O1.same r3) upd_same
        · have h2 : ¬ (hs.length : Int) = 2 := fun z => of_decide_eq_false h (congrArg V.int z)
          have el : layR i true hs sw = .told := by
            unfold layR
            rw [if_pos hb_, if_neg nn, if_neg (fun z => h2 (by omega))]
          have e1 : nxt (.mark i true) hs sw we = (hs ++ [i], sw, we) := by
            show (if layR i true hs sw = .told then _ else _) = _
            rw [el]
            rfl
          have e2 : outA (.mark i true) hs sw = .told := by
            show (match layR i true hs sw with | .word => Out.word | .taken => .taken | .many => .many | .told => .told) = _
            rw [el]
          rw [e1, e2] at q
          refine ⟨_, rfl, b, _, rfl, dg (k := Sum.inr "soft") hb lbG_soft, _, rfl, d, _, rfl, dg (k := Sum.inr "hard") hd_ lpG_hard, (by show 2 ≤ sizeLine; decide), fun l1 nl1 => ?_⟩
          have r1 := same_upd' (o := .lst [V.ref so, V.ref hd]) nl1
          have h1 : upd H l1 (.lst [V.ref so, V.ref hd]) l1 = some (.lst [V.ref so, V.ref hd]) := upd_same
          have O2 := O1.same r1
          have ht := r1 _ _ ht
          generalize upd H l1 (.lst [V.ref so, V.ref hd]) = J1 at *
          obtain ⟨hd_, hb, hm, hse, hso, hhd, hwo, hlw, n1, n2, n3, n4⟩ := id O2
          refine ⟨_, rfl, t, _, 2, _, rfl, rfl, SqT.of ht, atI_nat (j := 2) rfl, .inr ⟨_, rfl, l1, _, _, _, rfl, rfl, SqL.of h1, atI_nat (j := 1) rfl, ?_⟩⟩
          refine ⟨_, rfl, _, rfl, t, _, 1, _, rfl, rfl, SqT.of ht, atI_nat (j := 1) rfl, hd, _, rfl, DPut.k (k := Sum.inl i) hhd (by rw [swD_len]; exact Nat.lt_of_le_of_lt (show (hs : List Int).length ≤ 768 by omega) (by decide)), ?_⟩
          rw [swD_put nh]
          have kh : ∀ c o, c ≠ hd → J1 c = some o → upd J1 hd (.dK (swD (hs ++ [i]))) c = some o := fun c o n e => by rw [upd_ne n]; exact e
          have lsh : ∀ {c : Addr} {xs : List V}, J1 c = some (.lst xs) → c ≠ hd := fun e => ne_of e hhd (by intro z; cases z)
          have O3 : OwP (upd J1 hd (.dK (swD (hs ++ [i])))) d b m ln se so to hd lw wo ns (hs ++ [i]) sw we :=
            ⟨kh _ _ ndh hd_, kh _ _ nbh hb, kh _ _ (lsh hm) hm, kh _ _ (lsh hse) hse, kh _ _ n4 hso, upd_same, kh _ _ (lsh hwo) hwo, kh _ _ (lsh hlw) hlw, n1, n2, n3, n4⟩
          generalize upd J1 hd (.dK (swD (hs ++ [i]))) = J2 at *
          refine ⟨(by show 2 ≤ sizeLine; decide), fun lz nz => ?_⟩
          have r3 := same_upd' (o := .tup [V.str "told", V.non]) nz
          exact q _ lz hd (fun c o e1 e2 e3 e4 e => r3 _ _ (kh _ _ e3 (r1 _ _ e))) (.inl rfl) (O3.same r3) upd_same
    · have el : layR i h_ hs sw = .word := by
        unfold layR
        rw [if_neg hb_]
      have e1 : nxt (.mark i h_) hs sw we = (hs, sw, we) := by
        show (if layR i h_ hs sw = .told then _ else _) = _
        rw [el]
        rfl
      have e2 : outA (.mark i h_) hs sw = .word := by
        show (match layR i h_ hs sw with | .word => Out.word | .taken => .taken | .many => .many | .told => .told) = _
        rw [el]
      rw [e1, e2] at q
      refine ⟨_, rfl, t, _, 1, _, rfl, rfl, SqT.of ht, atI_nat (j := 1) rfl, _, _, rfl, rfl, _, rfl, ifB (fun h0 => ?_) (fun h0 => ⟨_, rfl, ?_⟩)⟩
      · refine ⟨_, _, rfl, rfl, _, rfl, ifN (fun _ => ?_) (fun h => absurd ⟨of_decide_eq_true h0, by have := of_decide_eq_true h; omega⟩ hb_)⟩
        refine ⟨(by show 1 ≤ sizeLine; decide), fun l1 nl1 => ?_⟩
        have r1 := same_upd' (o := .tup [V.str "word"]) nl1
        have h1 : upd H l1 (.tup [V.str "word"]) l1 = some (.tup [V.str "word"]) := upd_same
        generalize upd H l1 (.tup [V.str "word"]) = J1 at *
        refine ⟨(by show 1 ≤ sizeLine; decide), fun l2 nl2 => ?_⟩
        have r2 := same_upd' (o := .tup [V.str "taken"]) nl2
        have h2 : upd J1 l2 (.tup [V.str "taken"]) l2 = some (.tup [V.str "taken"]) := upd_same
        have h1 := r2 _ _ h1
        generalize upd J1 l2 (.tup [V.str "taken"]) = J2 at *
        refine ⟨(by show 2 ≤ sizeLine; decide), fun l3 nl3 => ?_⟩
        have r3 := same_upd' (o := .lst [V.ref l1, V.ref l2]) nl3
        have h3 : upd J2 l3 (.lst [V.ref l1, V.ref l2]) l3 = some (.lst [V.ref l1, V.ref l2]) := upd_same
        have h1 := r3 _ _ h1
        have h2 := r3 _ _ h2
        generalize upd J2 l3 (.lst [V.ref l1, V.ref l2]) = J3 at *
        refine ⟨_, rfl, .inr ⟨_, rfl, l3, _, _, _, rfl, rfl, SqL.of h3, atI_nat (j := 0) rfl, ?_⟩⟩
        have r13 := (r1.trans r2).trans r3
        exact q _ l1 hd (fun c o e1 e2 e3 e4 e => r13 _ _ e) (.inl rfl) (O1.same r13) h1
      · refine ifN (fun _ => ?_) (fun h => by cases h)
        refine ⟨(by show 1 ≤ sizeLine; decide), fun l1 nl1 => ?_⟩
        have r1 := same_upd' (o := .tup [V.str "word"]) nl1
        have h1 : upd H l1 (.tup [V.str "word"]) l1 = some (.tup [V.str "word"]) := upd_same
        generalize upd H l1 (.tup [V.str "word"]) = J1 at *
        refine ⟨(by show 1 ≤ sizeLine; decide), fun l2 nl2 => ?_⟩
        have r2 := same_upd' (o := .tup [V.str "taken"]) nl2
        have h2 : upd J1 l2 (.tup [V.str "taken"]) l2 = some (.tup [V.str "taken"]) := upd_same
        have h1 := r2 _ _ h1
        generalize upd J1 l2 (.tup [V.str "taken"]) = J2 at *
        refine ⟨(by show 2 ≤ sizeLine; decide), fun l3 nl3 => ?_⟩
        have r3 := same_upd' (o := .lst [V.ref l1, V.ref l2]) nl3
        have h3 : upd J2 l3 (.lst [V.ref l1, V.ref l2]) l3 = some (.lst [V.ref l1, V.ref l2]) := upd_same
        have h1 := r3 _ _ h1
        have h2 := r3 _ _ h2
        generalize upd J2 l3 (.lst [V.ref l1, V.ref l2]) = J3 at *
        refine ⟨_, rfl, .inr ⟨_, rfl, l3, _, _, _, rfl, rfl, SqL.of h3, atI_nat (j := 0) rfl, ?_⟩⟩
        have r13 := (r1.trans r2).trans r3
        exact q _ l1 hd (fun c o e1 e2 e3 e4 e => r13 _ _ e) (.inl rfl) (O1.same r13) h1
end
end Bh

/-! An act asked of the program, and what it says. -/
namespace Bh
open PySem PySem.Spec PyProof.Rows L2
section
variable {X : Cx}
/-- how often a thing stands in a list -/
def rCntD (K : PySem.W.Frag) : V → List V → Hp → VK → Prop := fun x xs H Q => ∃ (p : Addr) (y : V) (d : PyData) (vs : List V) (ds : List PyData), x = .ref p ∧ xs = [y] ∧ SqL K H p vs ∧ DpAll K H vs ds ∧ Dp K H y d ∧ PyData.plainAll ds = true ∧ d.plain = true ∧ d.depth ≤ 64 ∧ Q (.int (ds.countP fun z => PyData.eqv z d : Nat)) H
theorem mt_lcountD (hu : X.A.units + 65 < cLine) : MtR X "list.count" (rCntD X.K) := by
  intro pins s σ H x xs v us Q I rx rxs h
  obtain ⟨p, y, d, vs, ds, rfl, rfl, hs, hds, hy, pl, pd, dd, q⟩ := h
  cases rx
  cases rxs with
  | cons ry rt =>
    rename_i uy ut
    cases rt
    obtain ⟨bs, r1⟩ := Dp.reads I d y uy hy ry
    obtain ⟨its, rv, ⟨o, n, ho, hc, hdn, hdt⟩, hlen⟩ := I.list hs
    obtain ⟨as, h4⟩ := Dp.readsAll I ds _ its hds rv
    have hroom : X.A.units + 1 + min (PyData.depthAll ds) d.depth < cLine := by
      have := Nat.min_le_right (PyData.depthAll ds) d.depth
      omega
    exact SeqAt.count_list_data (vs := its.toArray) ⟨o, ho, hc, n, hdt⟩ (by simpa using h4) r1 pl pd hroom ⟨.int _, H, I.tok _, ⟨s.toks, rfl⟩, q⟩
theorem room65 {k : Nat} {A : Around} (r : Room k A) : A.units + 65 < cLine := by
  have := r.un
  omega
/-- isinstance(e, c), e any error that has no dict of its own -/
def rIsN (K : PySem.W.Frag) (a : Addr) (cls : Value) (d : Option Addr) : List V → Hp → VK → Prop := fun xs H Q => ∃ D, cls = .ref D ∧ d = none ∧ ExcC K D ∧ rIsE K D a xs H Q
theorem call_isN {a : Addr} {oe : Obj} {cls : Value} {d : Option Addr} {pn : List (Addr × Obj)} (hz : Zc cls d oe) (hf : ∃ vs, oe.data = .fields vs) : CallR (X.suite a ((a, oe) :: pn)) (.builtin "isinstance") (rIsN X.K a cls d) := by
  intro pins s σ H xs us Q I r h
  obtain ⟨D, rfl, rfl, C, h⟩ := h
  exact call_isE C hz hf pins s σ H xs us Q I r h
/-! the same with the written part named, for use within an except suite -/
theorem call_isNK {K : PySem.W.Frag} {a : Addr} {oe : Obj} {cls : Value} {d : Option Addr} {pn : List (Addr × Obj)} (hK : X.K = K) (hz : Zc cls d oe) (hf : ∃ vs, oe.data = .fields vs) : CallR (X.suite a ((a, oe) :: pn)) (.builtin "isinstance") (rIsN K a cls d) := by
  subst hK
  exact call_isN hz hf
theorem mt_lcountDK {K : PySem.W.Frag} (hK : X.K = K) (hu : X.A.units + 65 < cLine) : MtR X "list.count" (rCntD K) := by
  subst hK
  exact mt_lcountD hu
theorem mt_indexK {K : PySem.W.Frag} (hK : X.K = K) : MtR X "list.index" (rIndex K) := by
  subst hK
  exact mt_index
theorem op_notInK {K : PySem.W.Frag} (hK : X.K = K) : OpR X (compareOp .NotIn) (rIn K true) := by
  subst hK
  exact op_notIn_seq
theorem pe_bmK {K : PySem.W.Frag} {e : Expr} {T : String} {r : V → List V → Hp → VK → Prop} {to : TE} {t : TA} (hK : X.K = K) (h : PE X e (tBM X.K T r to t)) : PE X e (tBM K T r to t) := by
  subst hK
  exact h
end
/-- what the law asks of the classes of refusals -/
structure Tg (K : PySem.W.Frag) (mg : Str → Option Value) (CN CL CT CO CR CE : Addr) : Prop where
  gR : mg "Barred" = some (.ref CR)
  gE : mg "BoardError" = some (.ref CE)
  exN : ExcC K CN
  exT : ExcC K CT
  exO : ExcC K CO
  exL : ExcC K CL
  kNN : PySem.W.kitOne K (.ref CN) (.ref CN) = some true
  kNT : PySem.W.kitOne K (.ref CN) (.ref CT) = some false
  kNO : PySem.W.kitOne K (.ref CN) (.ref CO) = some false
  kNL : PySem.W.kitOne K (.ref CN) (.ref CL) = some false
  kNR : PySem.W.kitOne K (.ref CN) (.ref CR) = some false
  kTN : PySem.W.kitOne K (.ref CT) (.ref CN) = some false
  kTT : PySem.W.kitOne K (.ref CT) (.ref CT) = some true
  kTO : PySem.W.kitOne K (.ref CT) (.ref CO) = some false
  kTL : PySem.W.kitOne K (.ref CT) (.ref CL) = some false
  kTR : PySem.W.kitOne K (.ref CT) (.ref CR) = some false
  kON : PySem.W.kitOne K (.ref CO) (.ref CN) = some false
  kOT : PySem.W.kitOne K (.ref CO) (.ref CT) = some false
  kOO : PySem.W.kitOne K (.ref CO) (.ref CO) = some true
  kOL : PySem.W.kitOne K (.ref CO) (.ref CL) = some false
  kOR : PySem.W.kitOne K (.ref CO) (.ref CR) = some false
  kLN : PySem.W.kitOne K (.ref CL) (.ref CN) = some false
  kLT : PySem.W.kitOne K (.ref CL) (.ref CT) = some false
  kLO : PySem.W.kitOne K (.ref CL) (.ref CO) = some false
  kLL : PySem.W.kitOne K (.ref CL) (.ref CL) = some true
  kLR : PySem.W.kitOne K (.ref CL) (.ref CR) = some false
  eN : PySem.W.exmOne K (.ref CN) (.ref CE) = some true
  eT : PySem.W.exmOne K (.ref CT) (.ref CE) = some true
  eO : PySem.W.exmOne K (.ref CO) (.ref CE) = some true
  eL : PySem.W.exmOne K (.ref CL) (.ref CE) = some true
theorem out_told {a : Act} {x : Pm} (h : outA a x.hard x.b.sw ≠ .told) : actM a x = x := by
  cases a with
  | mark i h_ =>
    have ea : actM (.mark i h_) x = if layR i h_ x.hard x.b.sw = .told then markM i h_ x else x := rfl
    rw [ea]
    by_cases e : layR i h_ x.hard x.b.sw = .told
    · refine absurd ?_ h
      show (match layR i h_ x.hard x.b.sw with | .word => Out.word | .taken => .taken | .many => .many | .told => .told) = _
      rw [e]
    · rw [if_neg e]
  | unm i =>
    have ea : actM (.unm i) x = if i ∈ x.hard ∨ i ∈ x.b.sw then liftM i x else x := rfl
    rw [ea]
    by_cases e : i ∈ x.hard ∨ i ∈ x.b.sw
    · exact absurd (show (if i ∈ x.hard ∨ i ∈ x.b.sw then Out.told else .none) = .told from if_pos e) h
    · rw [if_neg e]
  | clr => exact absurd rfl h
theorem out_mark {i : Int} {h : Bool} {hs sw : List Int} : outA (.mark i h) hs sw = (match layR i h hs sw with | .word => Out.word | .taken => .taken | .many => .many | .told => .told) := rfl
section
variable (CB CM CP CK CW CF CH CC CI CN CL CT CO : Addr)
def spLAsk : Sp := fun vs H Q E => ∃ (S : Hp) (F : Addr → Prop) (p t : Addr) (x : Pm) (a : Act), vs = [.ref p, .ref t] ∧ PrA CB CM CP CK CW CF CH CC CI S H F p x ∧ MkOk x ∧ x.n < 90000 ∧ ActAt H t a ∧
  (outA a x.hard x.b.sw = .told → ∀ H' F', Fr F H F' H' → PrA CB CM CP CK CW CF CH CC CI S H' F' p (actM a x) → Q .non H') ∧ (outA a x.hard x.b.sw = .word → E (.ref CN) none H) ∧ (outA a x.hard x.b.sw = .taken → E (.ref CT) none H) ∧ (outA a x.hard x.b.sw = .many → E (.ref CO) none H) ∧ (outA a x.hard x.b.sw = .none → E (.ref CL) none H)
end
def spLSaid (CB CM CP CK CW CF CH CC CI : Addr) : Sp := fun vs H Q _ => ∃ (S : Hp) (F : Addr → Prop) (p t : Addr) (x : Pm) (a : Act), vs = [.ref p, .ref t] ∧ PrA CB CM CP CK CW CF CH CC CI S H F p x ∧ MkOk x ∧ x.n < 90000 ∧ ActAt H t a ∧
  ∀ H' l F', Fr F H F' H' → PrA CB CM CP CK CW CF CH CC CI S H' F' p (actM a x) → H' l = some (.tup (outA a x.hard x.b.sw).vs) → Q (.ref l) H'
section
variable {P : Program} {w : World} {K : PySem.W.Frag} {mg : Str → Option Value} {base : Heap} {CB CM CP CK CW CF CH CC CI CS CN CL CT CO CR CE : Addr}
abbrev sLask : Stmt := topS 110
def scLaskN : List Str := ["_law_probe_here", "_law_act"]
theorem scLask : FnScope scLaskN ["_law_probe_here", "_law_act"] (defScope sLask) := ⟨rfl, rfl, rfl, by decide +kernel, rfl, by decide +kernel, by decide +kernel⟩
theorem ok_Lask {f : Addr} {fd : FuncData} {fM_clrA : Addr} {dM_clrA : FuncData} {fM_markX : Addr} {dM_markX : FuncData} {fM_unmX : Addr} {dM_unmX : FuncData} (F : Fun K "_law_asked" "_law_asked" sLask f fd) (T : Ty K mg CB CM CP CK CW CF CH CC CI CS)
    (M_clrA : CalM P w K mg base CP 3 "clear_marks" ["self"] (spClrA CB CM CP CK CW CF CH CC CI) fM_clrA dM_clrA)
    (M_markX : CalX P w K mg base CP 4 "mark" ["self", "address", "hard"] (spMarkX CB CM CP CK CW CF CH CC CI CN CT CO) fM_markX dM_markX)
    (M_unmX : CalX P w K mg base CP 4 "unmark" ["self", "address"] (spUnmX CB CM CP CK CW CF CH CC CI CL) fM_unmX dM_unmX) : FnOk P w K mg base (L2.CX P w) 5 f fd ["_law_probe_here", "_law_act"] (spLAsk CB CM CP CK CW CF CH CC CI CN CL CT CO) := by
  refine F.okX scLask (fun vs H Q E h => by obtain ⟨_, _, _, _, _, _, rfl, _⟩ := h; rfl) (fun cdv A outer s H vs Q E hr h => ?_)
  have hu := hu_of hr
  obtain ⟨S, F_, p, t, x, a, rfl, Y, mk, hn, ht, q, qw, qt, qm, qn⟩ := h
  refine ⟨_, (pss_cons (ps_if (pt_cmpR op_eq (pe_ix ix_tup (pv 1) pe_int (fun _ _ => rfl)) pe_str (nomark _)) (pss_one (ps_ret (pe_meth (pv 0) M_markX.c M_markX.m M_markX.G (hr.mono (by decide)) M_markX.b .nil (E := E) (passes_call (W := fun cls d _ H => E cls d H) (takes_of rfl rfl rfl rfl) (fun _ _ _ _ h => h)) (pa_cons (pe_ix ix_tup (pv 1) pe_int (fun _ _ => rfl)) (pa_cons (pe_ix ix_tup (pv 1) pe_int (fun _ _ => rfl)) pa_nil))))) pss_nil)
    (pss_cons (ps_if (pt_cmpR op_eq (pe_ix ix_tup (pv 1) pe_int (fun _ _ => rfl)) pe_str (nomark _)) (pss_one (ps_ret (pe_meth (pv 0) M_unmX.c M_unmX.m M_unmX.G (hr.mono (by decide)) M_unmX.b .nil (E := E) (passes_call (W := fun cls d _ H => E cls d H) (takes_of rfl rfl rfl rfl) (fun _ _ _ _ h => h)) (pa_cons (pe_ix ix_tup (pv 1) pe_int (fun _ _ => rfl)) pa_nil)))) pss_nil)
    (pss_one (ps_ret (pe_meth0 (pv 0) M_clrA.c M_clrA.m M_clrA.G (hr.mono (by decide)) M_clrA.b .nil pass0))))), ?_⟩
  obtain ⟨dx, bd, st, wa, fr, hi_, co, mi, sd, gn, hp⟩ := Y.ins
  cases a with
  | mark i h_ =>
    have ht : H t = some (.tup [.str "mark", .int i, .bl h_]) := ht
    refine ⟨_, rfl, t, _, 0, _, rfl, rfl, SqT.of ht, atI_nat (j := 0) rfl, rfl, _, rfl, ifB (fun _ => ?_) (fun h => absurd rfl (of_decide_eq_false h))⟩
    rw [out_mark] at q qw qt qm qn
    have ea : actM (.mark i h_) x = if layR i h_ x.hard x.b.sw = .told then markM i h_ x else x := rfl
    refine ⟨_, rfl, p, dx, _, rfl, hp, pN_mark, _, rfl, t, _, 1, _, rfl, rfl, SqT.of ht, atI_nat (j := 1) rfl, _, rfl, t, _, 2, _, rfl, rfl, SqT.of ht, atI_nat (j := 2) rfl, S, F_, p, x, i, h_, rfl, Y, hn, fun eo H' F' f Y' => ?_, fun eo => ?_, fun eo => ?_, fun eo => ?_⟩
    · rw [eo] at q
      rw [ea, if_pos eo] at q
      exact q rfl H' F' f Y'
    · rw [eo] at qw; exact qw rfl
    · rw [eo] at qt; exact qt rfl
    · rw [eo] at qm; exact qm rfl
  | unm i =>
    have ht : H t = some (.tup [.str "unmark", .int i]) := ht
    refine ⟨_, rfl, t, _, 0, _, rfl, rfl, SqT.of ht, atI_nat (j := 0) rfl, rfl, _, rfl, ifB (fun h => absurd (V.str.inj (of_decide_eq_true h)) (by decide +kernel)) (fun _ => ?_)⟩
    refine ⟨_, rfl, t, _, 0, _, rfl, rfl, SqT.of ht, atI_nat (j := 0) rfl, rfl, _, rfl, ifB (fun _ => ?_) (fun h => absurd rfl (of_decide_eq_false h))⟩
    have ea : actM (.unm i) x = if i ∈ x.hard ∨ i ∈ x.b.sw then liftM i x else x := rfl
    have eo : outA (.unm i) x.hard x.b.sw = if i ∈ x.hard ∨ i ∈ x.b.sw then .told else .none := rfl
    refine ⟨_, rfl, p, dx, _, rfl, hp, pN_unmark, _, rfl, t, _, 1, _, rfl, rfl, SqT.of ht, atI_nat (j := 1) rfl, S, F_, p, x, i, rfl, Y, mk, fun hi H' F' f Y' => ?_, fun hi => ?_⟩
    · rw [eo, if_pos hi, ea, if_pos hi] at q
      exact q rfl H' F' f Y'
    · rw [eo, if_neg hi] at qn
      exact qn rfl
  | clr =>
    have ht : H t = some (.tup [.str "clear"]) := ht
    refine ⟨_, rfl, t, _, 0, _, rfl, rfl, SqT.of ht, atI_nat (j := 0) rfl, rfl, _, rfl, ifB (fun h => absurd (V.str.inj (of_decide_eq_true h)) (by decide +kernel)) (fun _ => ?_)⟩
    refine ⟨_, rfl, t, _, 0, _, rfl, rfl, SqT.of ht, atI_nat (j := 0) rfl, rfl, _, rfl, ifB (fun h => absurd (V.str.inj (of_decide_eq_true h)) (by decide +kernel)) (fun _ => ?_)⟩
    exact ⟨_, rfl, p, dx, _, rfl, hp, pN_clear_marks, S, F_, p, x, rfl, Y, mk, fun H' F' f Y' => q rfl H' F' f Y'⟩
abbrev sLsaid : Stmt := topS 109
def scLsaidN : List Str := ["_law_probe_here", "_law_act", "_law_found", "e", "_law_marks"]
theorem scLsaid : FnScope scLsaidN ["_law_probe_here", "_law_act"] (defScope sLsaid) := ⟨rfl, rfl, rfl, by decide +kernel, rfl, by decide +kernel, by decide +kernel⟩
theorem ok_Lsaid {f : Addr} {fd : FuncData} {fA : Addr} {dA : FuncData} (F : Fun K "_law_said" "_law_said" sLsaid f fd) (T : Ty K mg CB CM CP CK CW CF CH CC CI CS) (TM : Tm K mg CN CL CT CO) (TG : Tg K mg CN CL CT CO CR CE)
    (gA : mg "_law_asked" = some (.ref fA)) (kA : PySem.W.keepIn K (.ref fA) = true) (bA : Binds K dA ["_law_probe_here", "_law_act"] []) (GA : FnOk P w K mg base (L2.CX P w) 5 fA dA ["_law_probe_here", "_law_act"] (spLAsk CB CM CP CK CW CF CH CC CI CN CL CT CO)) : FnOk P w K mg base CX0 6 f fd ["_law_probe_here", "_law_act"] (spLSaid CB CM CP CK CW CF CH CC CI) := by
  refine F.ok scLsaid (fun vs H Q E h => by obtain ⟨_, _, _, _, _, _, rfl, _⟩ := h; rfl) (fun cdv A outer s H vs Q E hr h => ?_)
  have hu := hu_of hr
  have hu65 := room65 hr
  have z_isinstance := T.z_isinstance
  obtain ⟨S, F_, p, t, x, a, rfl, Y, mk, hn, ha, q⟩ := h
  refine ⟨_, pss_cons (ps_set (i := 2) scLsaid.nd rfl (.inl rfl) (pe_tup (pa_cons pe_str pa_nil))) (pss_cons (ps_try_as (i := 3) rfl rfl scLsaid.nd rfl rfl ⟨rfl, by decide, Or.inl TG.gE⟩ takes0
        (fun W pn xe tk _ => pss_one (ps_set (i := 2) scLsaid.nd rfl (.inl rfl) (pe_tup (pa_cons pe_str (pa_cons (by exact (pe_callS GA (hr.mono (by decide)) rfl gA kA bA (fun σ => passAt tk σ) (by exact (pa_cons (pv 0) (pa_cons (pv 1) pa_nil))))) pa_nil)))))
        (fun a oe cls d pn hz hf => pss_cons (ps_set (i := 4) scLsaid.nd rfl (.inl rfl) (pe_lst (pa_cons (pe_callB (call_isNK (K := K) (by rfl) hz hf) (by rfl) z_isinstance (by decide +kernel) (pa_cons (pv 3) (pa_cons (pgR TM.gN) pa_nil))) (pa_cons (pe_callB (call_isNK (K := K) (by rfl) hz hf) (by rfl) z_isinstance (by decide +kernel) (pa_cons (pv 3) (pa_cons (pgR TM.gT) pa_nil))) (pa_cons (pe_callB (call_isNK (K := K) (by rfl) hz hf) (by rfl) z_isinstance (by decide +kernel) (pa_cons (pv 3) (pa_cons (pgR TM.gO) pa_nil))) (pa_cons (pe_callB (call_isNK (K := K) (by rfl) hz hf) (by rfl) z_isinstance (by decide +kernel) (pa_cons (pv 3) (pa_cons (pgR TM.gL) pa_nil))) pa_nil))))))
          (pss_one (ps_if (PW.pt (pw_and (pt_val (pe_callB (call_isNK (K := K) (by rfl) hz hf) (by rfl) z_isinstance (by decide +kernel) (pa_cons (pv 3) (pa_cons (pgR TG.gR) pa_nil)))) (pw_and1 (pt_cmpR (op_notInK (K := K) (by rfl)) pe_bl (pv 4) (by rfl))))) (pss_one ps_never)
            (pss_one (ps_if (PW.pt (pw_and (pt_cmpR op_eq (by exact (pe_bmK (K := K) (by rfl) (pe_bm PySem.F.plainAttrs_list PySem.F.slot_list_count PySem.F.type_list_count (mt_lcountDK (K := K) (by rfl) (by exact hu65)) (pv 4) (pa_cons pe_bl pa_nil)))) pe_int (nomark _)) (pw_and1 (pt_not (pt_val (pe_callB (call_isNK (K := K) (by rfl) hz hf) (by rfl) z_isinstance (by decide +kernel) (pa_cons (pv 3) (pa_cons (pgR TG.gR) pa_nil)))))))) (pss_one (ps_set (i := 2) scLsaid.nd rfl (.inl rfl) (pe_tup (pa_cons (pe_ix (ix_listK (K := K)) (pe_lst (pa_cons pe_str (pa_cons pe_str (pa_cons pe_str (pa_cons pe_str pa_nil))))) (by exact (pe_bmK (K := K) (by rfl) (pe_bm PySem.F.plainAttrs_list PySem.F.slot_list_index PySem.F.type_list_index (mt_indexK (K := K) (by rfl)) (pv 4) (pa_cons pe_bl pa_nil)))) (fun _ _ => rfl)) pa_nil)))) pss_nil))))))
    (pss_one (ps_ret (pv 2)))), ?_⟩
  refine ⟨(by show 1 ≤ sizeLine; decide), fun l1 n1 => ?_⟩
  have s1 := same_upd' (o := .tup [V.str "other"]) n1
  have Y := Y.same s1
  have ha := s1 _ _ ha
  generalize upd H l1 (.tup [V.str "other"]) = G1 at *
  refine ⟨_, rfl, _, rfl, S, F_, p, t, x, a, rfl, Y, mk, hn, ha, fun ho H2 F' f Y2 => ?_, fun ho => ?_, fun ho => ?_, fun ho => ?_, fun ho => ?_⟩
  · refine ⟨(by show 2 ≤ sizeLine; decide), fun l2 n2 => ?_⟩
    have s2 := same_upd' (o := .tup [V.str "told", V.non]) n2
    rw [ho] at q
    exact ⟨_, rfl, q _ l2 F' (((Fr.of_same s1).trans f).trans (Fr.of_same s2)) (Y2.same s2) upd_same⟩
  · refine ⟨true, TG.eN, fun _ a' _ => ?_, fun z => nomatch z⟩
    refine ⟨_, rfl, CN, rfl, rfl, TG.exN, .ref CN, .ref CN, true, rfl, (fun u r => r), TG.kNN, _, rfl, CN, rfl, rfl, TG.exN, .ref CT, .ref CT, false, rfl, (fun u r => r), TG.kNT, _, rfl, CN, rfl, rfl, TG.exN, .ref CO, .ref CO, false, rfl, (fun u r => r), TG.kNO, _, rfl, CN, rfl, rfl, TG.exN, .ref CL, .ref CL, false, rfl, (fun u r => r), TG.kNL, (by show 4 ≤ sizeLine; decide), fun l2 n2 => ?_⟩
    have s2 := same_upd' (o := .lst [V.bl true, V.bl false, V.bl false, V.bl false]) n2
    have h2 : upd G1 l2 (.lst [V.bl true, V.bl false, V.bl false, V.bl false]) l2 = some (.lst [V.bl true, V.bl false, V.bl false, V.bl false]) := upd_same
    generalize upd G1 l2 (.lst [V.bl true, V.bl false, V.bl false, V.bl false]) = G2 at *
    refine ⟨_, rfl, CN, rfl, rfl, TG.exN, .ref CR, .ref CR, false, rfl, (fun u r => r), TG.kNR, _, rfl, ifB (fun h => by cases h) (fun _ => ?_)⟩
    refine ⟨_, rfl, .inl ⟨rfl, _, SqL.of h2⟩, l2, .bl true, .bool true, _, [.bool true, .bool false, .bool false, .bool false], rfl, rfl, SqL.of h2, .cons (.bl _) (.cons (.bl _) (.cons (.bl _) (.cons (.bl _) .nil))), .bl true, rfl, rfl, by decide, rfl, _, rfl, ifB (fun _ => ?_) (fun h => absurd rfl (of_decide_eq_false h))⟩
    refine ⟨_, rfl, CN, rfl, rfl, TG.exN, .ref CR, .ref CR, false, rfl, (fun u r => r), TG.kNR, _, rfl, ifN (fun _ => ?_) (fun h => by cases h)⟩
    refine ⟨(by show 4 ≤ sizeLine; decide), fun l3 n3 => ?_⟩
    have s3 := same_upd' (o := .lst [V.str "word", V.str "taken", V.str "many", V.str "none"]) n3
    have h3 : upd G2 l3 (.lst [V.str "word", V.str "taken", V.str "many", V.str "none"]) l3 = some (.lst [V.str "word", V.str "taken", V.str "many", V.str "none"]) := upd_same
    have h2 := s3 _ _ h2
    generalize upd G2 l3 (.lst [V.str "word", V.str "taken", V.str "many", V.str "none"]) = G3 at *
    refine ⟨_, rfl, .inl ⟨rfl, _, SqL.of h2⟩, l2, _, .bl true, 0, .bl true, rfl, rfl, SqL.of h2, rfl, rfl, rfl, rfl, ?_, l3, _, 0, _, rfl, rfl, SqL.of h3, rfl, (by show 1 ≤ sizeLine; decide), fun l4 n4 => ?_⟩
    · intro m z' hm hz
      have hm3 : m = 0 ∨ m = 1 ∨ m = 2 := by omega
      rcases hm3 with rfl | rfl | rfl <;> first | (exact absurd hm (by decide)) | (cases hz; rfl)
    have s4 := same_upd' (o := .tup [V.str "word"]) n4
    have sm := ((s1.trans s2).trans s3).trans s4
    have t4 := (s2.trans s3).trans s4
    have ea : actM a x = x := out_told (by rw [ho]; exact fun z => by cases z)
    rw [ea, ho] at q
    exact ⟨_, rfl, q _ l4 F_ (Fr.of_same sm) (Y.same t4) upd_same⟩
  · refine ⟨true, TG.eT, fun _ a' _ => ?_, fun z => nomatch z⟩
    refine ⟨_, rfl, CT, rfl, rfl, TG.exT, .ref CN, .ref CN, false, rfl, (fun u r => r), TG.kTN, _, rfl, CT, rfl, rfl, TG.exT, .ref CT, .ref CT, true, rfl, (fun u r => r), TG.kTT, _, rfl, CT, rfl, rfl, TG.exT, .ref CO, .ref CO, false, rfl, (fun u r => r), TG.kTO, _, rfl, CT, rfl, rfl, TG.exT, .ref CL, .ref CL, false, rfl, (fun u r => r), TG.kTL, (by show 4 ≤ sizeLine; decide), fun l2 n2 => ?_⟩
    have s2 := same_upd' (o := .lst [V.bl false, V.bl true, V.bl false, V.bl false]) n2
    have h2 : upd G1 l2 (.lst [V.bl false, V.bl true, V.bl false, V.bl false]) l2 = some (.lst [V.bl false, V.bl true, V.bl false, V.bl false]) := upd_same
    generalize upd G1 l2 (.lst [V.bl false, V.bl true, V.bl false, V.bl false]) = G2 at *
    refine ⟨_, rfl, CT, rfl, rfl, TG.exT, .ref CR, .ref CR, false, rfl, (fun u r => r), TG.kTR, _, rfl, ifB (fun h => by cases h) (fun _ => ?_)⟩
    refine ⟨_, rfl, .inl ⟨rfl, _, SqL.of h2⟩, l2, .bl true, .bool true, _, [.bool false, .bool true, .bool false, .bool false], rfl, rfl, SqL.of h2, .cons (.bl _) (.cons (.bl _) (.cons (.bl _) (.cons (.bl _) .nil))), .bl true, rfl, rfl, by decide, rfl, _, rfl, ifB (fun _ => ?_) (fun h => absurd rfl (of_decide_eq_false h))⟩
    refine ⟨_, rfl, CT, rfl, rfl, TG.exT, .ref CR, .ref CR, false, rfl, (fun u r => r), TG.kTR, _, rfl, ifN (fun _ => ?_) (fun h => by cases h)⟩
    refine ⟨(by show 4 ≤ sizeLine; decide), fun l3 n3 => ?_⟩
    have s3 := same_upd' (o := .lst [V.str "word", V.str "taken", V.str "many", V.str "none"]) n3
    have h3 : upd G2 l3 (.lst [V.str "word", V.str "taken", V.str "many", V.str "none"]) l3 = some (.lst [V.str "word", V.str "taken", V.str "many", V.str "none"]) := upd_same
    have h2 := s3 _ _ h2
    generalize upd G2 l3 (.lst [V.str "word", V.str "taken", V.str "many", V.str "none"]) = G3 at *
    refine ⟨_, rfl, .inl ⟨rfl, _, SqL.of h2⟩, l2, _, .bl true, 1, .bl true, rfl, rfl, SqL.of h2, rfl, rfl, rfl, rfl, ?_, l3, _, 1, _, rfl, rfl, SqL.of h3, rfl, (by show 1 ≤ sizeLine; decide), fun l4 n4 => ?_⟩
    · intro m z' hm hz
      have hm3 : m = 0 ∨ m = 1 ∨ m = 2 := by omega
      rcases hm3 with rfl | rfl | rfl <;> first | (exact absurd hm (by decide)) | (cases hz; rfl)
    have s4 := same_upd' (o := .tup [V.str "taken"]) n4
    have sm := ((s1.trans s2).trans s3).trans s4
    have t4 := (s2.trans s3).trans s4
    have ea : actM a x = x := out_told (by rw [ho]; exact fun z => by cases z)
    rw [ea, ho] at q
    exact ⟨_, rfl, q _ l4 F_ (Fr.of_same sm) (Y.same t4) upd_same⟩
  · refine ⟨true, TG.eO, fun _ a' _ => ?_, fun z => nomatch z⟩
    refine ⟨_, rfl, CO, rfl, rfl, TG.exO, .ref CN, .ref CN, false, rfl, (fun u r => r), TG.kON, _, rfl, CO, rfl, rfl, TG.exO, .ref CT, .ref CT, false, rfl, (fun u r => r), TG.kOT, _, rfl, CO, rfl, rfl, TG.exO, .ref CO, .ref CO, true, rfl, (fun u r => r), TG.kOO, _, rfl, CO, rfl, rfl, TG.exO, .ref CL, .ref CL, false, rfl, (fun u r => r), TG.kOL, (by show 4 ≤ sizeLine; decide), fun l2 n2 => ?_⟩
    have s2 := same_upd' (o := .lst [V.bl false, V.bl false, V.bl true, V.bl false]) n2
    have h2 : upd G1 l2 (.lst [V.bl false, V.bl false, V.bl true, V.bl false]) l2 = some (.lst [V.bl false, V.bl false, V.bl true, V.bl false]) := upd_same
    generalize upd G1 l2 (.lst [V.bl false, V.bl false, V.bl true, V.bl false]) = G2 at *
    refine ⟨_, rfl, CO, rfl, rfl, TG.exO, .ref CR, .ref CR, false, rfl, (fun u r => r), TG.kOR, _, rfl, ifB (fun h => by cases h) (fun _ => ?_)⟩
    refine ⟨_, rfl, .inl ⟨rfl, _, SqL.of h2⟩, l2, .bl true, .bool true, _, [.bool false, .bool false, .bool true, .bool false], rfl, rfl, SqL.of h2, .cons (.bl _) (.cons (.bl _) (.cons (.bl _) (.cons (.bl _) .nil))), .bl true, rfl, rfl, by decide, rfl, _, rfl, ifB (fun _ => ?_) (fun h => absurd rfl (of_decide_eq_false h))⟩
    refine ⟨_, rfl, CO, rfl, rfl, TG.exO, .ref CR, .ref CR, false, rfl, (fun u r => r), TG.kOR, _, rfl, ifN (fun _ => ?_) (fun h => by cases h)⟩
    refine ⟨(by show 4 ≤ sizeLine; decide), fun l3 n3 => ?_⟩
    have s3 := same_upd' (o := .lst [V.str "word", V.str "taken", V.str "many", V.str "none"]) n3
    have h3 : upd G2 l3 (.lst [V.str "word", V.str "taken", V.str "many", V.str "none"]) l3 = some (.lst [V.str "word", V.str "taken", V.str "many", V.str "none"]) := upd_same
    have h2 := s3 _ _ h2
    generalize upd G2 l3 (.lst [V.str "word", V.str "taken", V.str "many", V.str "none"]) = G3 at *
    refine ⟨_, rfl, .inl ⟨rfl, _, SqL.of h2⟩, l2, _, .bl true, 2, .bl true, rfl, rfl, SqL.of h2, rfl, rfl, rfl, rfl, ?_, l3, _, 2, _, rfl, rfl, SqL.of h3, rfl, (by show 1 ≤ sizeLine; decide), fun l4 n4 => ?_⟩
    · intro m z' hm hz
      have hm3 : m = 0 ∨ m = 1 ∨ m = 2 := by omega
      rcases hm3 with rfl | rfl | rfl <;> first | (exact absurd hm (by decide)) | (cases hz; rfl)
    have s4 := same_upd' (o := .tup [V.str "many"]) n4
    have sm := ((s1.trans s2).trans s3).trans s4
    have t4 := (s2.trans s3).trans s4
    have ea : actM a x = x := out_told (by rw [ho]; exact fun z => by cases z)
    rw [ea, ho] at q
    exact ⟨_, rfl, q _ l4 F_ (Fr.of_same sm) (Y.same t4) upd_same⟩
  · refine ⟨true, TG.eL, fun _ a' _ => ?_, fun z => nomatch z⟩
    refine ⟨_, rfl, CL, rfl, rfl, TG.exL, .ref CN, .ref CN, false, rfl, (fun u r => r), TG.kLN, _, rfl, CL, rfl, rfl, TG.exL, .ref CT, .ref CT, false, rfl, (fun u r => r), TG.kLT, _, rfl, CL, rfl, rfl, TG.exL, .ref CO, .ref CO, false, rfl, (fun u r => r), TG.kLO, _, rfl, CL, rfl, rfl, TG.exL, .ref CL, .ref CL, true, rfl, (fun u r => r), TG.kLL, (by show 4 ≤ sizeLine; decide), fun l2 n2 => ?_⟩
    have s2 := same_upd' (o := .lst [V.bl false, V.bl false, V.bl false, V.bl true]) n2
    have h2 : upd G1 l2 (.lst [V.bl false, V.bl false, V.bl false, V.bl true]) l2 = some (.lst [V.bl false, V.bl false, V.bl false, V.bl true]) := upd_same
    generalize upd G1 l2 (.lst [V.bl false, V.bl false, V.bl false, V.bl true]) = G2 at *
    refine ⟨_, rfl, CL, rfl, rfl, TG.exL, .ref CR, .ref CR, false, rfl, (fun u r => r), TG.kLR, _, rfl, ifB (fun h => by cases h) (fun _ => ?_)⟩
    refine ⟨_, rfl, .inl ⟨rfl, _, SqL.of h2⟩, l2, .bl true, .bool true, _, [.bool false, .bool false, .bool false, .bool true], rfl, rfl, SqL.of h2, .cons (.bl _) (.cons (.bl _) (.cons (.bl _) (.cons (.bl _) .nil))), .bl true, rfl, rfl, by decide, rfl, _, rfl, ifB (fun _ => ?_) (fun h => absurd rfl (of_decide_eq_false h))⟩
    refine ⟨_, rfl, CL, rfl, rfl, TG.exL, .ref CR, .ref CR, false, rfl, (fun u r => r), TG.kLR, _, rfl, ifN (fun _ => ?_) (fun h => by cases h)⟩
    refine ⟨(by show 4 ≤ sizeLine; decide), fun l3 n3 => ?_⟩
    have s3 := same_upd' (o := .lst [V.str "word", V.str "taken", V.str "many", V.str "none"]) n3
    have h3 : upd G2 l3 (.lst [V.str "word", V.str "taken", V.str "many", V.str "none"]) l3 = some (.lst [V.str "word", V.str "taken", V.str "many", V.str "none"]) := upd_same
    have h2 := s3 _ _ h2
    generalize upd G2 l3 (.lst [V.str "word", V.str "taken", V.str "many", V.str "none"]) = G3 at *
    refine ⟨_, rfl, .inl ⟨rfl, _, SqL.of h2⟩, l2, _, .bl true, 3, .bl true, rfl, rfl, SqL.of h2, rfl, rfl, rfl, rfl, ?_, l3, _, 3, _, rfl, rfl, SqL.of h3, rfl, (by show 1 ≤ sizeLine; decide), fun l4 n4 => ?_⟩
    · intro m z' hm hz
      have hm3 : m = 0 ∨ m = 1 ∨ m = 2 := by omega
      rcases hm3 with rfl | rfl | rfl <;> first | (exact absurd hm (by decide)) | (cases hz; rfl)
    have s4 := same_upd' (o := .tup [V.str "none"]) n4
    have sm := ((s1.trans s2).trans s3).trans s4
    have t4 := (s2.trans s3).trans s4
    have ea : actM a x = x := out_told (by rw [ho]; exact fun z => by cases z)
    rw [ea, ho] at q
    exact ⟨_, rfl, q _ l4 F_ (Fr.of_same sm) (Y.same t4) upd_same⟩
end
end Bh

/-! The law. -/
namespace Bh
open PySem PySem.Spec PyProof.Rows L2
theorem seq_new {K : PySem.W.Frag} {H H1 H2 : Hp} {a wl : Addr} {xs : List V} (h : SqL K H a xs) (n : H wl = none) (s : Same H H1) (k : But wl H1 H2) : SqL K H2 a xs := by
  rcases h with (h | ⟨o, h⟩) | h
  · exact .inl (.inl (k _ _ (ne_of_none h n) (s _ _ h)))
  · exact .inl (.inr ⟨o, k _ _ (ne_of_none h n) (s _ _ h)⟩)
  · exact .inr h
theorem nodup768 {l : List Int} (n : l.Nodup) (h : ∀ a ∈ l, 0 ≤ a ∧ a ≤ 767) : l.length ≤ 768 := few_len 768 l n fun x hx => by
  have := h x hx
  omega
theorem MkOk.of {x : Pm} (n : (x.hard ++ x.b.sw).Nodup) (h : ∀ a ∈ x.hard ++ x.b.sw, 0 ≤ a ∧ a ≤ 767) : MkOk x :=
  ⟨n, h, nodup768 (List.nodup_append.mp n).2.1 fun a ha => h a (List.mem_append_right _ ha)⟩
theorem sub_ok {l l' : List Int} (s : List.Sublist l' l) (n : l.Nodup) (h : ∀ a ∈ l, 0 ≤ a ∧ a ≤ 767) : l'.Nodup ∧ ∀ a ∈ l', 0 ≤ a ∧ a ≤ 767 := ⟨n.sublist s, fun a ha => h a (s.subset ha)⟩
theorem MkOk.act {x : Pm} (M : MkOk x) (a : Act) : MkOk (actM a x) := by
  obtain ⟨n, h, l⟩ := M
  cases a with
  | mark i h_ =>
    have ea : actM (.mark i h_) x = if layR i h_ x.hard x.b.sw = .told then markM i h_ x else x := rfl
    rw [ea]
    by_cases e : layR i h_ x.hard x.b.sw = .told
    · rw [if_pos e]
      obtain ⟨a0, a1, nh, ns_, _⟩ := layR_ok e
      have nn : i ∉ x.hard ++ x.b.sw := fun z => (List.mem_append.mp z).elim nh ns_
      have nd2 : (i :: (x.hard ++ x.b.sw)).Nodup := List.nodup_cons.mpr ⟨nn, n⟩
      have h2 : ∀ a ∈ i :: (x.hard ++ x.b.sw), 0 ≤ a ∧ a ≤ 767 := fun a ha => by
        rcases List.mem_cons.mp ha with z | z
        · rw [z]; exact ⟨a0, a1⟩
        · exact h a z
      cases h_ with
      | true =>
        have p : ((x.hard ++ [i]) ++ x.b.sw).Perm (i :: (x.hard ++ x.b.sw)) := by
          rw [List.append_assoc]
          exact List.perm_middle
        exact MkOk.of (x := markM i true x) (p.nodup_iff.mpr nd2) fun a ha => h2 a (p.mem_iff.mp ha)
      | false =>
        have p : (x.hard ++ (x.b.sw ++ [i])).Perm (i :: (x.hard ++ x.b.sw)) := by
          rw [← List.append_assoc]
          exact List.perm_append_singleton _ _
        exact MkOk.of (x := markM i false x) (p.nodup_iff.mpr nd2) fun a ha => h2 a (p.mem_iff.mp ha)
    · rw [if_neg e]
      exact ⟨n, h, l⟩
  | unm i =>
    have ea : actM (.unm i) x = if i ∈ x.hard ∨ i ∈ x.b.sw then liftM i x else x := rfl
    rw [ea]
    by_cases e : i ∈ x.hard ∨ i ∈ x.b.sw
    · rw [if_pos e]
      unfold liftM
      by_cases e2 : i ∈ x.hard
      · rw [if_pos e2]
        obtain ⟨q1, q2⟩ := sub_ok (l' := (x.hard.filter fun a => decide (a ≠ i)) ++ x.b.sw) (List.Sublist.append List.filter_sublist (List.Sublist.refl _)) n h
        exact MkOk.of q1 q2
      · rw [if_neg e2]
        obtain ⟨q1, q2⟩ := sub_ok (l' := x.hard ++ (x.b.sw.filter fun a => decide (a ≠ i))) (List.Sublist.append (List.Sublist.refl _) List.filter_sublist) n h
        exact MkOk.of q1 q2
    · rw [if_neg e]
      exact ⟨n, h, l⟩
  | clr => exact MkOk.of (x := liftAM x) List.nodup_nil fun a ha => by cases ha
theorem Rst.act {x : Pm} {ns : List Int} (R : Rst x ns) (a : Act) : Rst (actM a x) ns := by
  cases a with
  | mark i h_ =>
    have ea : actM (.mark i h_) x = if layR i h_ x.hard x.b.sw = .told then markM i h_ x else x := rfl
    rw [ea]
    split
    · exact R.mark
    · exact R
  | unm i =>
    have ea : actM (.unm i) x = if i ∈ x.hard ∨ i ∈ x.b.sw then liftM i x else x := rfl
    rw [ea]
    split
    · exact R.lift
    · exact R
  | clr => exact R.liftA
theorem act_n (a : Act) (x : Pm) : (actM a x).n ≤ x.n + 1 := by
  cases a with
  | mark i h_ =>
    have ea : actM (.mark i h_) x = if layR i h_ x.hard x.b.sw = .told then markM i h_ x else x := rfl
    rw [ea]
    split
    · unfold markM
      split
      · exact Nat.le_succ _
      · exact Nat.le_refl _
    · exact Nat.le_succ _
  | unm i =>
    have ea : actM (.unm i) x = if i ∈ x.hard ∨ i ∈ x.b.sw then liftM i x else x := rfl
    rw [ea]
    split
    · unfold liftM
      split <;> exact Nat.le_succ _
    · exact Nat.le_succ _
  | clr => exact Nat.le_succ _
theorem pl_rows : ∀ l : List (Int × Str), PyData.plainAll (l.map rwD) = true
  | [] => rfl
  | r :: l => by
    have ih := pl_rows l
    show (PyData.plain (rwD r) && PyData.plainAll (l.map rwD)) = true
    rw [ih]
    rfl
theorem dep_rows : ∀ l : List (Int × Str), PyData.depthAll (l.map rwD) ≤ 4
  | [] => by decide
  | r :: l => by
    have ih := dep_rows l
    show max (PyData.depth (rwD r)) (PyData.depthAll (l.map rwD)) ≤ 4
    exact Nat.max_le.mpr ⟨by show 1 ≤ 4; decide, ih⟩
theorem pl_st (m : List Int) (out : List (Int × Str)) (we : List Int) : PyData.plain (stD m out we) = true :=
  pl_L (pl_cons (pl_L (pl_ints _)) (pl_cons rfl (pl_cons rfl (pl_cons rfl (pl_cons rfl (pl_cons (pl_L (pl_rows _)) (pl_cons (pl_L (pl_ints _)) (pl_cons rfl rfl))))))))
theorem dep_st (m : List Int) (out : List (Int × Str)) (we : List Int) : PyData.depth (stD m out we) ≤ 60 := by
  show PyData.depthAll _ + 1 ≤ 60
  have z : PyData.depthAll ([.list (m.map PyData.int), .list reg0D, .none, .list [], .int 0, .list (out.map rwD), .list (we.map PyData.int), .list [.none, .none]] : List PyData) ≤ 5 :=
    dep_cons (dep_L (dep_ints5 _)) (dep_cons (by decide) (dep_cons (by decide) (dep_cons (by decide) (dep_cons (by decide) (dep_cons (dep_L (dep_rows _)) (dep_cons (dep_L (dep_ints5 _)) (dep_cons (by decide) (by decide))))))))
  omega
theorem pl_out (o : Out) : PyData.plain (.tuple o.ds) = true := by cases o <;> rfl
theorem dep_out (o : Out) : PyData.depth (.tuple o.ds) ≤ 60 := by cases o <;> decide
/-- the acts that a list tells -/
def AcAt (H : Hp) : List V → List Act → Prop := Paired fun v a => ∃ t, v = .ref t ∧ ActAt H t a
theorem AcAt.mono {H H' : Hp} (k : ∀ t xs, H t = some (.tup xs) → H' t = some (.tup xs)) {us : List V} {as : List Act} (h : AcAt H us as) : AcAt H' us as := by
  induction h with
  | nil => exact .nil
  | cons h _ ih => exact .cons (let ⟨t, e, q⟩ := h; ⟨t, e, k _ _ q⟩) ih
theorem AcAt.get {H : Hp} : ∀ {us : List V} {as : List Act} {i : Nat} {v : V}, AcAt H us as → us[i]? = some v → ∃ t a, v = .ref t ∧ ActAt H t a
  | _, _, _, _, .nil, e => by cases e
  | _, _, 0, _, .cons h _, e => by
    cases e
    obtain ⟨t, e, q⟩ := h
    exact ⟨t, _, e, q⟩
  | _, _, i + 1, _, .cons _ r, e => AcAt.get (i := i) r e
/-- both probes and a well in one heap -/
structure KS (CB CM CP CK CW CF CH CC CI : Addr) (S H : Hp) (F : Addr → Prop) (p d b m ln se so to hd lw wo wl : Addr) (ns : List Int) (x : Pm) : Prop where
  Y : PrA CB CM CP CK CW CF CH CC CI S H F p x
  O : OwP H d b m ln se so to hd lw wo ns x.hard x.b.sw x.wear
  mo : MkOk x
  R : Rst x ns
  W : WellAt H wl
  of : ∀ c, c ∈ [d, b, m, se, so, hd, lw, wo, wl] → ¬ F c
  os : ∀ c, c ∈ [d, so, hd, wo, wl] → S c = none
theorem wmono {H G : Hp} {l : Addr} (s : Same H G) (h : WellAt H l) : WellAt G l := by
  obtain ⟨u, v, t, e⟩ := h
  exact ⟨u, v, t, s _ _ e⟩
theorem well_ne {H : Hp} {l a : Addr} (h : WellAt H l) (n : H a = none) : a ≠ l := by
  obtain ⟨u, v, t, e⟩ := h
  exact fun z => by rw [z, e] at n; cases n
theorem But.tupk {H H' : Hp} {wl : Addr} (w : WellAt H wl) (k : But wl H H') : ∀ t xs, H t = some (.tup xs) → H' t = some (.tup xs) := fun t xs e => by
  obtain ⟨u, v, z, e2⟩ := w
  exact k t _ (ne_of e e2 (by intro z; cases z)) e
theorem mem9 {c d b m se so hd lw wo wl : Addr} (h : c ∈ [d, b, m, se, so, hd, lw, wo, wl]) (n : c ∉ [d, b, m, se, so, hd, lw, wo]) : c = wl := by
  rcases List.mem_append.mp (show c ∈ [d, b, m, se, so, hd, lw, wo] ++ [wl] from h) with z | z
  · exact absurd z n
  · exact List.mem_singleton.mp z
theorem memOf_long (ns : List Int) : 262 ≤ (memOf ns).length := by
  unfold memOf
  rw [List.length_append, List.length_append, List.length_replicate, List.length_replicate]
  omega
theorem OwP.notwell {H : Hp} {d b m ln se so to hd lw wo wl : Addr} {ns hs sw we : List Int} (O : OwP H d b m ln se so to hd lw wo ns hs sw we) (hw : we.length = 16) (W : WellAt H wl) : ∀ c, c ∈ [d, b, m, se, so, hd, lw, wo] → c ≠ wl := by
  obtain ⟨u, v, t, e⟩ := W
  have dd : ∀ {c : Addr} {kv : List (Key × V)}, H c = some (.dK kv) → c ≠ wl := fun h => ne_of h e (by intro z; cases z)
  have ll : ∀ {c : Addr} {xs : List V}, H c = some (.lst xs) → xs.length ≠ 3 → c ≠ wl := fun h n => ne_of h e (by intro z; exact n (congrArg List.length (HO.lst.inj z)))
  intro c hc
  simp only [List.mem_cons, List.not_mem_nil, or_false] at hc
  rcases hc with rfl | rfl | rfl | rfl | rfl | rfl | rfl | rfl
  · exact dd O.hd_
  · exact dd O.hb
  · exact ll O.hm (by rw [List.length_map]; have := memOf_long ns; omega)
  · exact ll O.hse (by show 0 ≠ 3; decide)
  · exact dd O.hso
  · exact dd O.hhd
  · exact ll O.hlw (by show 2 ≠ 3; decide)
  · exact ll O.hwo (by rw [List.length_map, hw]; decide)
theorem OwP.keep {H H' : Hp} {d b m ln se so to hd lw wo : Addr} {ns hs sw we : List Int} (O : OwP H d b m ln se so to hd lw wo ns hs sw we) (k : ∀ c o, c ∈ [d, b, m, se, so, hd, lw, wo] → H c = some o → H' c = some o) : OwP H' d b m ln se so to hd lw wo ns hs sw we :=
  { O with hd_ := k _ _ (by simp) O.hd_, hb := k _ _ (by simp) O.hb, hm := k _ _ (by simp) O.hm, hse := k _ _ (by simp) O.hse, hso := k _ _ (by simp) O.hso, hhd := k _ _ (by simp) O.hhd, hwo := k _ _ (by simp) O.hwo, hlw := k _ _ (by simp) O.hlw }
theorem OwP.there {H : Hp} {d b m ln se so to hd lw wo : Addr} {ns hs sw we : List Int} (O : OwP H d b m ln se so to hd lw wo ns hs sw we) : ∀ c, c ∈ [d, b, m, se, so, hd, lw, wo] → ∃ o, H c = some o ∧ ∀ xs, o ≠ .tup xs := by
  intro c hc
  simp only [List.mem_cons, List.not_mem_nil, or_false] at hc
  rcases hc with rfl | rfl | rfl | rfl | rfl | rfl | rfl | rfl
  · exact ⟨_, O.hd_, fun xs z => by cases z⟩
  · exact ⟨_, O.hb, fun xs z => by cases z⟩
  · exact ⟨_, O.hm, fun xs z => by cases z⟩
  · exact ⟨_, O.hse, fun xs z => by cases z⟩
  · exact ⟨_, O.hso, fun xs z => by cases z⟩
  · exact ⟨_, O.hhd, fun xs z => by cases z⟩
  · exact ⟨_, O.hlw, fun xs z => by cases z⟩
  · exact ⟨_, O.hwo, fun xs z => by cases z⟩
section
variable {CB CM CP CK CW CF CH CC CI : Addr} {S H H1 H2 : Hp} {F F' : Addr → Prop} {p d b m ln se so to hd hd' lw wo wl wl' q : Addr} {ns : List Int} {x : Pm}
theorem KS.same (a : KS CB CM CP CK CW CF CH CC CI S H F p d b m ln se so to hd lw wo wl ns x) (s : Same H H1) : KS CB CM CP CK CW CF CH CC CI S H1 F p d b m ln se so to hd lw wo wl ns x :=
  ⟨a.Y.same s, a.O.same s, a.mo, a.R, wmono s a.W, a.of, a.os⟩
/-- an address that is none of theirs -/
def Out1 (S : Hp) (F : Addr → Prop) (d b m se so hd lw wo wl q : Addr) : Prop := ¬ F q ∧ S q = none ∧ ∀ c, c ∈ [d, b, m, se, so, hd, lw, wo, wl] → c ≠ q
theorem KS.fresh (a : KS CB CM CP CK CW CF CH CC CI S H F p d b m ln se so to hd lw wo wl ns x) (n : H q = none) : Out1 S F d b m se so hd lw wo wl q :=
  ⟨(fun z => by
    obtain ⟨o, e, _⟩ := a.Y.solid _ z
    rw [n] at e
    cases e), a.Y.sm.free n, fun c hc z => by
    by_cases h : c ∈ [d, b, m, se, so, hd, lw, wo]
    · obtain ⟨o, e, _⟩ := a.O.there c h
      rw [z, n] at e; cases e
    · obtain ⟨u, v, t, e⟩ := a.W
      have : c = wl := mem9 hc h
      rw [← this, z, n] at e; cases e⟩
theorem KS.put (a : KS CB CM CP CK CW CF CH CC CI S H F p d b m ln se so to hd lw wo wl ns x) (o1 : Out1 S F d b m se so hd lw wo wl q) {xs : List V} (e : H q = some (.lst xs)) (k : But q H H1) : KS CB CM CP CK CW CF CH CC CI S H1 F p d b m ln se so to hd lw wo wl ns x := by
  obtain ⟨f, s, n⟩ := o1
  refine ⟨(a.Y.other (But.fr k) (fun b hb => by rw [hb]; exact f) (fun b hb => by rw [hb]; exact s) (fun b hb => ⟨.lst xs, by rw [hb]; exact e, fun xs z => by cases z⟩)).1, a.O.keep (fun c o hc e => k c o (n c (List.mem_append_left [wl] hc)) e), a.mo, a.R, ?_, a.of, a.os⟩
  obtain ⟨u, v, t, e⟩ := a.W
  exact ⟨u, v, t, k _ _ (n wl (by simp)) e⟩
theorem KS.well (a : KS CB CM CP CK CW CF CH CC CI S H F p d b m ln se so to hd lw wo wl ns x) (k : But wl H H1) (hw : WellAt H1 wl) : KS CB CM CP CK CW CF CH CC CI S H1 F p d b m ln se so to hd lw wo wl ns x := by
  have nw := a.O.notwell a.Y.2.we a.W
  obtain ⟨u, v, t, e⟩ := a.W
  exact ⟨(a.Y.other (But.fr k) (fun b hb => by rw [hb]; exact a.of wl (by simp)) (fun b hb => by rw [hb]; exact a.os wl (by simp)) (fun b hb => ⟨.lst [V.int u, V.int v, V.int t], by rw [hb]; exact e, fun xs z => by cases z⟩)).1, a.O.keep (fun c o hc e => k c o (nw c hc) e), a.mo, a.R, hw, a.of, a.os⟩
theorem KS.enter (a : KS CB CM CP CK CW CF CH CC CI S H F p d b m ln se so to hd lw wo wl ns x) (s : Same H H1) (n : H wl' = none) (hw : WellAt H1 wl') : KS CB CM CP CK CW CF CH CC CI S H1 F p d b m ln se so to hd lw wo wl' ns x := by
  obtain ⟨f, s0, _⟩ := a.fresh n
  refine ⟨a.Y.same s, a.O.same s, a.mo, a.R, hw, fun c hc => ?_, fun c hc => ?_⟩
  · rcases List.mem_append.mp (show c ∈ [d, b, m, se, so, hd, lw, wo] ++ [wl'] from hc) with h | h
    · exact a.of c (List.mem_append_left [wl] h)
    · rw [List.mem_singleton.mp h]; exact f
  · rcases List.mem_append.mp (show c ∈ [d, so, hd, wo] ++ [wl'] from hc) with h | h
    · exact a.os c (List.mem_append_left [wl] h)
    · rw [List.mem_singleton.mp h]; exact s0
/-- an act told to both -/
theorem KS.step (a : KS CB CM CP CK CW CF CH CC CI S H F p d b m ln se so to hd lw wo wl ns x) {ac : Act} (f : Fr F H F' H1) (Y1 : PrA CB CM CP CK CW CF CH CC CI S H1 F' p (actM ac x)) : OwP H1 d b m ln se so to hd lw wo ns x.hard x.b.sw x.wear ∧
    ((∀ c o, c ≠ d → c ≠ so → c ≠ hd → c ≠ wo → H1 c = some o → H2 c = some o) → (hd' = hd ∨ H1 hd' = none) → OwP H2 d b m ln se so to hd' lw wo ns (nxt ac x.hard x.b.sw x.wear).1 (nxt ac x.hard x.b.sw x.wear).2.1 (nxt ac x.hard x.b.sw x.wear).2.2 →
      KS CB CM CP CK CW CF CH CC CI S H2 F' p d b m ln se so to hd' lw wo wl ns (actM ac x)) := by
  have O1 := a.O.keep (H' := H1) fun c o hc e => f.keep c o (a.of c (List.mem_append_left [wl] hc)) e
  refine ⟨O1, fun kk hh O2 => ?_⟩
  have nF : ∀ c, c ∈ [d, b, m, se, so, hd, lw, wo, wl] → ¬ F' c := fun c hc z => by
    rcases f.new c z with y | y
    · exact a.of c hc y
    · by_cases h : c ∈ [d, b, m, se, so, hd, lw, wo]
      · obtain ⟨o, e, _⟩ := a.O.there c h
        rw [y] at e; cases e
      · obtain ⟨u, v, t, e⟩ := a.W
        have : c = wl := mem9 hc h
        rw [← this, y] at e; cases e
  have nw := a.O.notwell a.Y.2.we a.W
  have G : Fr (fun q => q = d ∨ q = so ∨ q = hd ∨ q = wo) H1 (fun q => q = d ∨ q = so ∨ q = hd' ∨ q = wo) H2 := ⟨fun c o n e => kk c o (fun z => n (.inl z)) (fun z => n (.inr (.inl z))) (fun z => n (.inr (.inr (.inl z)))) (fun z => n (.inr (.inr (.inr z)))) e, fun c z => by
    rcases z with z | z | z | z
    · exact .inl (.inl z)
    · exact .inl (.inr (.inl z))
    · rcases hh with h | h
      · exact .inl (.inr (.inr (.inl (z.trans h))))
      · rw [z]; exact .inr h
    · exact .inl (.inr (.inr (.inr z)))⟩
  obtain ⟨Y2, dn⟩ := Y1.other G (fun c z => by rcases z with z | z | z | z <;> (rw [z]; exact nF _ (by simp))) (fun c z => by rcases z with z | z | z | z <;> (rw [z]; exact a.os _ (by simp))) (fun c z => by rcases z with z | z | z | z <;> (rw [z]; exact O1.there _ (by simp)))
  have en := actM_nxt ac x
  rw [← en] at O2
  refine ⟨Y2, O2, a.mo.act ac, a.R.act ac, ?_, fun c hc => ?_, fun c hc => ?_⟩
  · obtain ⟨u, v, t, e⟩ := a.W
    exact ⟨u, v, t, kk _ _ (nw d (by simp)).symm (nw so (by simp)).symm (nw hd (by simp)).symm (nw wo (by simp)).symm (f.keep _ _ (a.of wl (by simp)) e)⟩
  · by_cases z : c = hd'
    · rw [z]; exact dn hd' (.inr (.inr (.inl rfl)))
    · refine nF c ?_
      simp only [List.mem_cons, List.not_mem_nil, or_false] at hc ⊢
      rcases hc with h | h | h | h | h | h | h | h | h
      · exact .inl h
      · exact .inr (.inl h)
      · exact .inr (.inr (.inl h))
      · exact .inr (.inr (.inr (.inl h)))
      · exact .inr (.inr (.inr (.inr (.inl h))))
      · exact absurd h z
      · exact .inr (.inr (.inr (.inr (.inr (.inr (.inl h))))))
      · exact .inr (.inr (.inr (.inr (.inr (.inr (.inr (.inl h)))))))
      · exact .inr (.inr (.inr (.inr (.inr (.inr (.inr (.inr h)))))))
  · by_cases z : c = hd'
    · rw [z]
      rcases hh with h | h
      · rw [h]; exact a.os hd (by simp)
      · exact Y1.sm.free h
    · refine a.os c ?_
      simp only [List.mem_cons, List.not_mem_nil, or_false] at hc ⊢
      rcases hc with h | h | h | h | h
      · exact .inl h
      · exact .inr (.inl h)
      · exact absurd h z
      · exact .inr (.inr (.inr (.inl h)))
      · exact .inr (.inr (.inr (.inr h)))
end
def spLaw (K : PySem.W.Frag) : Sp := fun vs H Q _ => ∃ (a : Addr) (ns : List Int), vs = [.ref a] ∧ SqL K H a (ns.map V.int) ∧ ns.length ≤ 63 ∧ ∀ H', Q (.bl true) H'
section
variable {P : Program} {w : World} {K : PySem.W.Frag} {mg : Str → Option Value} {base : Heap} {CB CM CP CK CW CF CH CC CI CS CN CL CT CO CR CE : Addr}
abbrev sLaw : Stmt := topS 111
def scLlawN : List Str := ["_law_script", "_law_well_here", "_law_image", "_law_probe_here", "_law_p", "_law_cell", "_law_page", "_law_spots", "_law_k", "_law_acts", "_law_act", "_law_spot"]
theorem scLlaw : FnScope scLlawN ["_law_script"] (defScope sLaw) := ⟨rfl, rfl, rfl, by decide +kernel, rfl, by decide +kernel, by decide +kernel⟩
theorem ok_Llaw {f : Addr} {fd : FuncData} {fC_prb : Addr} {dC_prb : FuncData} {fL_cell : Addr} {dL_cell : FuncData} {fL_draw : Addr} {dL_draw : FuncData} {fL_one : Addr} {dL_one : FuncData} {fL_own : Addr} {dL_own : FuncData} {fL_prb : Addr} {dL_prb : FuncData} {fL_said : Addr} {dL_said : FuncData} {fL_shown : Addr} {dL_shown : FuncData} {fL_told : Addr} {dL_told : FuncData} {fL_well : Addr} {dL_well : FuncData} (F : Fun K "law" "law" sLaw f fd) (T : Ty K mg CB CM CP CK CW CF CH CC CI CS)
    (C_prb : CalC P w K mg base CP 8 "Probe" ["self", "image", "line"] (spPrI CB CM CP CK CW CF CH CC CI) fC_prb dC_prb)
    (L_cell : CalF P w K mg base 1 "_law_cell_at" ["_law_script", "_law_k"] (spCellAt K) fL_cell dL_cell)
    (L_draw : CalF P w K mg base 1 "_law_draw" ["_law_well_here", "_law_wide"] (spDraw) fL_draw dL_draw)
    (L_one : CalF P w K mg base 2 "_law_one" ["_law_well_here", "_law_some"] (spOne) fL_one dL_one)
    (L_own : CalF P w K mg base 2 "_law_own_mark" ["_law_p", "_law_b", "_law_act"] (spLOwn) fL_own dL_own)
    (L_prb : CalF P w K mg base 2 "_law_probe" ["_law_image", "_law_line"] (spLPrb) fL_prb dL_prb)
    (L_said : CalF P w K mg base 6 "_law_said" ["_law_probe_here", "_law_act"] (spLSaid CB CM CP CK CW CF CH CC CI) fL_said dL_said)
    (L_shown : CalF P w K mg base 1 "_law_shown" ["_law_p"] (spLShown K) fL_shown dL_shown)
    (L_told : CalF P w K mg base 4 "_law_told" ["_law_probe_here"] (spLTold K CB CM CP CK CW CF CH CC CI) fL_told dL_told)
    (L_well : CalF P w K mg base 1 "_law_well" ["_law_cell"] (spWell) fL_well dL_well) : FnOk P w K mg base CX0 12 f fd ["_law_script"] (spLaw K) := by
  refine F.ok scLlaw (fun vs H Q E h => by obtain ⟨_, _, rfl, _⟩ := h; rfl) (fun cdv A outer s H vs Q E hr h => ?_)
  have hu := hu_of hr
  have z_list := T.z_list
  have z_range := T.z_range
  obtain ⟨a, ns, rfl, hS, hn, q⟩ := h
  have hu64 := hr.units
  refine ⟨_, (pss_cons (ps_set (i := 1) scLlaw.nd rfl (.inr rfl) (pe_call L_well.G (hr.mono (by decide)) (by rfl) L_well.g L_well.kp L_well.b .nil pass0 (pa_cons (pe_call L_cell.G (hr.mono (by decide)) (by rfl) L_cell.g L_cell.kp L_cell.b .nil pass0 (pa_cons (pv 0) (pa_cons pe_int pa_nil))) pa_nil)))
    (pss_cons (ps_setLc (i := 2) (own := [("_law_k", 8)]) (g := gName 8) (tt := tYes) (by rfl) scLlaw.nd rfl rfl rfl (pi_range1 (by rfl) z_range (pa_cons (pe_call L_one.G (hr.mono (by decide)) (by rfl) L_one.g L_one.kp L_one.b .nil pass0 (pa_cons (pv 1) (pa_cons (pe_lst (pa_cons pe_int (pa_cons pe_int (pa_cons pe_int (pa_cons pe_int (pa_cons pe_int pa_nil)))))) pa_nil))) pa_nil)) (blkOk_by (own := [("_law_k", 8)]) (N := scLlawN) (sc := defScope sLaw) (by decide +kernel)) (fun _ _ _ _ _ => (pg_name (i := 8) scLlaw.nd rfl (.inl rfl))) (fun _ _ _ _ _ => pts_nil) (fun _ _ _ _ _ => (pe_call L_draw.G (hr.mono (by decide)) (by rfl) L_draw.g L_draw.kp L_draw.b .nil pass0 (pa_cons (pv 1) (pa_cons pe_int pa_nil)))))
    (pss_cons (ps_set (i := 3) scLlaw.nd rfl (.inl rfl) (pe_make C_prb.M C_prb.I (hr.mono (by decide)) rfl C_prb.g C_prb.b .nil pass0 (pa_cons (pe_callTy call_list_of (by rfl) z_list (by decide +kernel) (pa_cons (pv 2) pa_nil)) (pa_cons (pe_lst pa_nil) pa_nil))))
    (pss_cons (ps_set (i := 4) scLlaw.nd rfl (.inl rfl) (pe_call L_prb.G (hr.mono (by decide)) (by rfl) L_prb.g L_prb.kp L_prb.b .nil pass0 (pa_cons (pv 2) (pa_cons (pe_lst pa_nil) pa_nil))))
    (pss_cons (ps_for PassesOwn.never rfl (pi_list (pe_op op_cat (pe_lst (pa_cons (pe_call L_cell.G (hr.mono (by decide)) (by rfl) L_cell.g L_cell.kp L_cell.b .nil pass0 (pa_cons (pv 0) (pa_cons pe_int pa_nil))) pa_nil)) (pe_slice sl_list (pv 0) (po_some pe_int) (po_some pe_int)))) (pg_name (i := 5) scLlaw.nd rfl (.inl rfl))
      (pss_cons (ps_set (i := 1) scLlaw.nd rfl (.inr rfl) (pe_call L_well.G (hr.mono (by decide)) (by rfl) L_well.g L_well.kp L_well.b .nil pass0 (pa_cons (pv 5) pa_nil)))
    (pss_cons (ps_set (i := 6) scLlaw.nd rfl (.inl rfl) (pe_op op_mul pe_int (pe_call L_draw.G (hr.mono (by decide)) (by rfl) L_draw.g L_draw.kp L_draw.b .nil pass0 (pa_cons (pv 1) (pa_cons pe_int pa_nil)))))
    (pss_cons (ps_set (i := 7) scLlaw.nd rfl (.inl rfl) (pe_lst pa_nil))
    (pss_cons (ps_for PassesOwn.never rfl (pi_range1 (by rfl) z_range (pa_cons (pe_call L_draw.G (hr.mono (by decide)) (by rfl) L_draw.g L_draw.kp L_draw.b .nil pass0 (pa_cons (pv 1) (pa_cons pe_int pa_nil))) pa_nil)) (pg_name (i := 8) scLlaw.nd rfl (.inl rfl))
      (pss_one (ps_expr (pe_bm PySem.F.plainAttrs_list PySem.F.slot_list_append PySem.F.type_list_append mt_append (pv 7) (pa_cons (pe_call L_one.G (hr.mono (by decide)) (by rfl) L_one.g L_one.kp L_one.b .nil pass0 (pa_cons (pv 1) (pa_cons (pe_lst (pa_cons (pe_op op_add (pv 6) (pe_call L_draw.G (hr.mono (by decide)) (by rfl) L_draw.g L_draw.kp L_draw.b .nil pass0 (pa_cons (pv 1) (pa_cons pe_int pa_nil)))) (pa_cons (pv 6) (pa_cons (pe_op op_add (pv 6) pe_int) (pa_cons (pe_call L_draw.G (hr.mono (by decide)) (by rfl) L_draw.g L_draw.kp L_draw.b .nil pass0 (pa_cons (pv 1) (pa_cons pe_int pa_nil))) (pa_cons pe_int (pa_cons pe_int pa_nil))))))) pa_nil))) pa_nil)))))
    (pss_cons (ps_setLc (i := 9) (own := [("_law_spot", 11)]) (g := gName 11) (tt := tYes) (by rfl) scLlaw.nd rfl rfl rfl (pi_list (pv 7)) (blkOk_by (own := [("_law_spot", 11)]) (N := scLlawN) (sc := defScope sLaw) (by decide +kernel)) (fun _ _ _ _ _ => (pg_name (i := 11) scLlaw.nd rfl (.inl rfl))) (fun _ _ _ _ _ => pts_nil) (fun _ _ _ _ _ => (pe_tup (pa_cons pe_str (pa_cons (pv 11) (pa_cons (pe_cmpR op_eq (pe_call L_draw.G (hr.mono (by decide)) (by rfl) L_draw.g L_draw.kp L_draw.b .nil pass0 (pa_cons (pv 1) (pa_cons pe_int pa_nil))) pe_int (nomark _)) pa_nil))))))
    (pss_cons (ps_for PassesOwn.never rfl (pi_range1 (by rfl) z_range (pa_cons (pe_call L_draw.G (hr.mono (by decide)) (by rfl) L_draw.g L_draw.kp L_draw.b .nil pass0 (pa_cons (pv 1) (pa_cons pe_int pa_nil))) pa_nil)) (pg_name (i := 8) scLlaw.nd rfl (.inl rfl))
      (pss_one (ps_expr (pe_bm PySem.F.plainAttrs_list PySem.F.slot_list_append PySem.F.type_list_append mt_append (pv 9) (pa_cons (pe_tup (pa_cons pe_str (pa_cons (pe_call L_one.G (hr.mono (by decide)) (by rfl) L_one.g L_one.kp L_one.b .nil pass0 (pa_cons (pv 1) (pa_cons (pe_op op_cat (pv 7) (pe_lst (pa_cons (pv 6) (pa_cons (pe_call L_draw.G (hr.mono (by decide)) (by rfl) L_draw.g L_draw.kp L_draw.b .nil pass0 (pa_cons (pv 1) (pa_cons pe_int pa_nil))) pa_nil)))) pa_nil))) pa_nil))) pa_nil)))))
    (pss_cons (ps_set (i := 9) scLlaw.nd rfl (.inl rfl) (pe_op op_cat (pv 9) (pe_op op_rep (pe_lst (pa_cons (pe_tup (pa_cons pe_str pa_nil)) pa_nil)) (pe_call L_draw.G (hr.mono (by decide)) (by rfl) L_draw.g L_draw.kp L_draw.b .nil pass0 (pa_cons (pv 1) (pa_cons pe_int pa_nil))))))
    (pss_one (ps_for PassesOwn.never rfl (pi_list (pv 9)) (pg_name (i := 10) scLlaw.nd rfl (.inl rfl))
      (pss_one (ps_if (PW.pt (pw_or (pt_cmpR (op_neP hu64) (pe_call L_said.G (hr.mono (by decide)) (by rfl) L_said.g L_said.kp L_said.b .nil pass0 (pa_cons (pv 3) (pa_cons (pv 10) pa_nil))) (pe_call L_own.G (hr.mono (by decide)) (by rfl) L_own.g L_own.kp L_own.b .nil pass0 (pa_cons (pv 4) (pa_cons (pe_dget hu (pv 4) pe_str (fun _ _ => rfl)) (pa_cons (pv 10) pa_nil)))) (nomark _)) (pw_or1 (pt_cmpR (op_neP hu64) (pe_call L_told.G (hr.mono (by decide)) (by rfl) L_told.g L_told.kp L_told.b .nil pass0 (pa_cons (pv 3) pa_nil)) (pe_call L_shown.G (hr.mono (by decide)) (by rfl) L_shown.g L_shown.kp L_shown.b .nil pass0 (pa_cons (pv 4) pa_nil)) (nomark _))))) (pss_one (ps_ret pe_bl)) pss_nil))))))))))))
    (pss_one (ps_ret pe_bl))))))), ?_⟩
  refine ⟨_, rfl, a, ns, 0, rfl, hS, fun z0 => ⟨z0, rfl, fun G1 wl0 sw_ nwl hw => ?_⟩⟩
  refine ⟨_, rfl, (by show 5 ≤ sizeLine; decide), fun l0 nl0 => ?_⟩
  have r0 := same_upd' (o := .lst [V.int 0, V.int 1, V.int 40, V.int 511, V.int 512]) nl0
  have h0 : upd G1 l0 (.lst [V.int 0, V.int 1, V.int 40, V.int 511, V.int 512]) l0 = some (.lst [V.int 0, V.int 1, V.int 40, V.int 511, V.int 512]) := upd_same
  have nlw : l0 ≠ wl0 := well_ne hw nl0
  have hw := wmono r0 hw
  have sw0 := sw_.trans r0
  generalize upd G1 l0 (.lst [V.int 0, V.int 1, V.int 40, V.int 511, V.int 512]) = G1b at *
  refine ⟨wl0, l0, _, rfl, hw, nlw, h0, (by intro h; cases h), (by show 5 ≤ 1000; decide), fun G2 nv k2 hw2 hmem => ?_⟩
  obtain ⟨j, rfl, j0, j1⟩ : ∃ j : Int, nv = .int j ∧ 0 ≤ j ∧ j ≤ 512 := by
    simp only [List.mem_cons, List.not_mem_nil, or_false] at hmem
    rcases hmem with h | h | h | h | h <;> exact ⟨_, h, by decide, by decide⟩
  refine ⟨j, rfl, by omega, by omega, fun im nim => ?_⟩
  have niw : im ≠ wl0 := well_ne hw2 nim
  have rim := same_upd' (o := .lst []) nim
  refine lc_range (lo := 0) (n := j.toNat) (fun i H' => (∀ c o, c ≠ wl0 → G2 c = some o → H' c = some o) ∧ WellAt H' wl0 ∧ ∃ ws : List Int, H' im = some (.lst (ws.map V.int)) ∧ ws.length = i ∧ WordsOk ws) ⟨fun c o _ e => rim _ _ e, wmono rim hw2, [], upd_same, rfl, fun z hz => by cases hz⟩ ?_ ?_
  · rintro i H' hi ⟨kp, hw, ws, hD, hl, ok⟩
    refine ⟨rfl, ?_⟩
    refine ⟨_, rfl, wl0, 65536, rfl, hw, by decide, by decide, fun H2 z k3 hw3 z0_ z1_ => ?_⟩
    have hD2 := k3 _ _ niw hD
    refine ⟨_, hD2, by rw [List.length_map]; exact small1000 (by omega), fun c o n e => by rw [upd_ne (fun y => by rw [y, nim] at e; cases e)]; exact k3 _ _ n (kp _ _ n e), ?_, ws ++ [z], by rw [upd_same, List.map_append]; rfl, by rw [List.length_append]; show ws.length + 1 = i + 1; omega, fun y hy => ?_⟩
    · obtain ⟨u, v, t, e⟩ := hw3
      exact ⟨u, v, t, by rw [upd_ne niw.symm]; exact e⟩
    · rcases List.mem_append.mp hy with h | h
      · exact ok y h
      · rw [List.mem_singleton.mp h]
        exact ⟨z0_, by omega⟩
  rintro G3 ⟨kp, hw, ws, him, hlen, ows⟩
  have lws : ws.length ≤ 512 := by omega
  have hS := seq_new hS nwl sw0 (fun c o n e => kp c o n (k2 c o n e))
  refine ⟨_, rfl, im, _, rfl, .inl (SqL.of him), fun i1 ni1 => ?_⟩
  have ri1 := same_upd' (o := .lst (ws.map V.int)) ni1
  have hi1 : upd G3 i1 (.lst (ws.map V.int)) i1 = some (.lst (ws.map V.int)) := upd_same
  generalize upd G3 i1 (.lst (ws.map V.int)) = A1 at *
  refine ⟨Nat.zero_le _, fun l1 nl1 => ?_⟩
  have rl1 := same_upd' (o := .lst []) nl1
  have hl1 : upd A1 l1 (.lst []) l1 = some (.lst []) := upd_same
  have hi1 := rl1 _ _ hi1
  have q1 := ri1.trans rl1
  generalize upd A1 l1 (.lst []) = B1 at *
  intro p1 dx1 np1 ndx1 hdx1
  have sp1 : Same B1 (upd (upd B1 dx1 (.own p1)) p1 (.ins CP dx1 [])) := fun z o ez => by
    rw [upd_ne (ne_of_none ez np1), upd_ne (ne_of_none ez ndx1)]
    exact ez
  refine ⟨p1, dx1, i1, l1, [], ws, [], rfl, upd_same, sp1 _ _ hi1, lws, ows, sp1 _ _ hl1, .nil, trivial, fun G5 F1 St1 kp1 fn1 sn1 mk1 => ⟨rfl, ?_⟩⟩
  have e1 : Same G3 G5 := fun z o ez => kp1 z o (ne_of_none (q1 _ _ ez) np1) (sp1 _ _ (q1 _ _ ez))
  have nf1 : ∀ b, F1 b → G3 b = none := fun b hb => by
    rcases fn1 b hb with z | z
    · rw [z]; exact q1.free np1
    · exact q1.free (sp1.free z)
  have ns1 : ∀ b, b ∈ St1 → G3 b = none := fun b hb => q1.free (sp1.free (sn1 b hb).1)
  have him0 := him
  have him := e1 _ _ him
  have hS := e1.seq hS
  have hw5 := wmono e1 hw
  refine ⟨_, rfl, Nat.zero_le _, fun l7 n7 => ?_⟩
  have r7 := same_upd' (o := .lst []) n7
  have h7 : upd G5 l7 (.lst []) l7 = some (.lst []) := upd_same
  have him := r7 _ _ him
  generalize upd G5 l7 (.lst []) = G7 at *
  refine ⟨im, l7, ws, rfl, him, lws, h7, fun G8 d b m ln se so to hd lw wo s8 L hlw flw nm nse nwo nm2 nse2 nsh fso fhd fwo fd fb fm fse => ?_⟩
  have hS := s8.seq (r7.seq hS)
  have e58 := r7.trans s8
  refine ⟨_, rfl, a, ns, 1, rfl, hS, fun z1 => ⟨(by show 1 ≤ sizeLine; decide), fun c1 nc1 => ?_⟩⟩
  have s1 := same_upd' (o := .lst [V.int z1]) nc1
  have h1 : upd G8 c1 (.lst [V.int z1]) c1 = some (.lst (([z1] : List Int).map V.int)) := upd_same
  have hS := s1.seq hS
  generalize upd G8 c1 (.lst [V.int z1]) = K7 at *
  obtain ⟨ms, ems, lms, _⟩ := cut_mem ns (some 2) (some 9)
  refine ⟨_, rfl, _, rfl, _, rfl, a, _, rfl, hS, fun c2 nc2 => ?_⟩
  rw [ems]
  have s2 := same_upd' (o := .lst (ms.map V.int)) nc2
  have h2 : upd K7 c2 (.lst (ms.map V.int)) c2 = some (.lst (ms.map V.int)) := upd_same
  have h1 := s2 _ _ h1
  generalize upd K7 c2 (.lst (ms.map V.int)) = K8 at *
  refine ⟨c1, c2, _, _, rfl, rfl, h1, h2, (by rw [List.length_map, List.length_map]; exact Nat.le_trans (show 1 + ms.length ≤ 100 by omega) (by decide)), fun ca nca => ?_⟩
  rw [← List.map_append]
  have s3 := same_upd' (o := .lst (([z1] ++ ms).map V.int)) nca
  have hca : upd K8 ca (.lst (([z1] ++ ms).map V.int)) ca = some (.lst (([z1] ++ ms).map V.int)) := upd_same
  have s69 := (s1.trans s2).trans s3
  generalize upd K8 ca (.lst (([z1] ++ ms).map V.int)) = K9 at *
  have hlcs : ([z1] ++ ms).length ≤ 100 := by rw [List.length_append]; show 1 + ms.length ≤ 100; omega
  generalize [z1] ++ ms = cs at *
  have e59 := e58.trans s69
  have hw9 := wmono e59 hw5
  have so1 : ∀ c, F1 c → ∃ o, G5 c = some o := fun c hc => by
    have Y := mk1 (fun q => @ite _ (F1 q) (Classical.propDecidable _) none (G5 q)) (fun c o e => by
      have e : @ite _ (F1 c) (Classical.propDecidable _) none (G5 c) = some o := e
      by_cases z : F1 c
      · rw [if_pos z] at e; cases e
      · rw [if_neg z] at e; exact e) (fun c z => if_pos z) (fun c z => if_neg (sn1 c z).2)
    obtain ⟨o, e, _⟩ := Y.solid c hc
    exact ⟨o, e⟩
  have fr5 : ∀ c, G7 c = none → G5 c = none := fun c e => r7.free e
  obtain ⟨S, hSd⟩ : ∃ S : Hp, ∀ c, S c = @ite _ (F1 c ∨ c ∈ [d, so, hd, wo, wl0]) (Classical.propDecidable _) none (K9 c) := ⟨fun c => @ite _ (F1 c ∨ c ∈ [d, so, hd, wo, wl0]) (Classical.propDecidable _) none (K9 c), fun _ => rfl⟩
  have son : ∀ c, ¬ F1 c → c ∉ [d, so, hd, wo, wl0] → S c = K9 c := fun c h1 h2 => by
    rw [hSd]
    exact if_neg fun z => z.elim h1 h2
  have sS : Same S K9 := fun c o e => by
    rw [hSd] at e
    by_cases z : F1 c ∨ c ∈ [d, so, hd, wo, wl0]
    · rw [if_pos z] at e; cases e
    · rw [if_neg z] at e; exact e
  have wF1 : ¬ F1 wl0 := fun z => by
    obtain ⟨u, v, t, e⟩ := hw
    have := nf1 wl0 z
    rw [e] at this; cases this
  have Y1 : PrA CB CM CP CK CW CF CH CC CI S K9 F1 p1 (newP ws []) := by
    have Y := mk1 (fun q => @ite _ (F1 q ∨ q = wl0) (Classical.propDecidable _) none (G5 q)) (fun c o e => by
      have e : @ite _ (F1 c ∨ c = wl0) (Classical.propDecidable _) none (G5 c) = some o := e
      by_cases z : F1 c ∨ c = wl0
      · rw [if_pos z] at e; cases e
      · rw [if_neg z] at e; exact e) (fun c z => if_pos (.inl z)) (fun c z => if_neg (fun y => by
        rcases y with y | y
        · exact (sn1 c z).2 y
        · obtain ⟨u, v, t, e⟩ := hw
          have := ns1 c z
          rw [y, e] at this; cases this))
    refine (Y.same e59).base (fun c o e => ?_) sS (fun c z => by rw [hSd]; exact if_pos (.inl z))
    by_cases z : F1 c ∨ c = wl0
    · have e : @ite _ (F1 c ∨ c = wl0) (Classical.propDecidable _) none (G5 c) = some o := e
      rw [if_pos z] at e; cases e
    · have e : @ite _ (F1 c ∨ c = wl0) (Classical.propDecidable _) none (G5 c) = some o := e
      rw [if_neg z] at e
      rw [son c (fun y => z (.inl y)) (fun y => by
        simp only [List.mem_cons, List.not_mem_nil, or_false] at y
        rcases y with y | y | y | y | y
        · rw [y, fr5 _ fd] at e; cases e
        · rw [y, fr5 _ fso] at e; cases e
        · rw [y, fr5 _ fhd] at e; cases e
        · rw [y, fr5 _ fwo] at e; cases e
        · exact z (.inr y))]
      exact e59 _ _ e
  have nfl : ∀ c, G7 c = none → ¬ F1 c := fun c e z => by
    obtain ⟨o, e2⟩ := so1 c z
    rw [fr5 c e] at e2; cases e2
  have O9 : OwP K9 d b m ln se so to hd lw wo ws [] [] (List.replicate 16 0) := OwP.same ⟨L.hd_, L.hb, L.hm, L.hse, L.hso, L.hhd, L.hwo, hlw, nm2, nse2, nwo.symm, nsh⟩ s69
  have Z : KS CB CM CP CK CW CF CH CC CI S K9 F1 p1 d b m ln se so to hd lw wo wl0 ws (newP ws []) := ⟨Y1, O9, MkOk.of List.nodup_nil (fun a ha => by cases ha), ⟨rfl, rfl, rfl, rfl, rfl, rfl⟩, hw9, fun c hc => by
    simp only [List.mem_cons, List.not_mem_nil, or_false] at hc
    rcases hc with rfl | rfl | rfl | rfl | rfl | rfl | rfl | rfl | rfl
    · exact nfl _ fd
    · exact nfl _ fb
    · exact nfl _ fm
    · exact nfl _ fse
    · exact nfl _ fso
    · exact nfl _ fhd
    · exact nfl _ flw
    · exact nfl _ fwo
    · exact wF1, fun c hc => by rw [hSd]; exact if_pos (.inr hc)⟩
  have caF1 : ¬ F1 ca := fun z => by
    obtain ⟨o, e⟩ := so1 ca z
    rw [(s1.trans s2) _ _ (e58 _ _ e)] at nca
    cases nca
  have caO : ca ∉ [d, so, hd, wo, wl0] := fun hc => by
    have L8 : OwP G8 d b m ln se so to hd lw wo ws [] [] (List.replicate 16 0) := ⟨L.hd_, L.hb, L.hm, L.hse, L.hso, L.hhd, L.hwo, hlw, nm2, nse2, nwo.symm, nsh⟩
    have LK := L8.same (s1.trans s2)
    simp only [List.mem_cons, List.not_mem_nil, or_false] at hc
    rcases hc with y | y | y | y | y
    · rw [y, LK.hd_] at nca; cases nca
    · rw [y, LK.hso] at nca; cases nca
    · rw [y, LK.hhd] at nca; cases nca
    · rw [y, LK.hwo] at nca; cases nca
    · obtain ⟨u, v, t, e⟩ := hw5
      rw [y, (s1.trans s2) _ _ (e58 _ _ e)] at nca; cases nca
  have Sca : S ca = some (.lst (cs.map V.int)) := by
    rw [son ca caF1 caO]
    exact hca
  have hn0 : (newP ws []).n = 0 := rfl
  generalize newP ws [] = x0 at *
  refine ⟨ca, rfl, ⟨_, SqL.of hca⟩, ?_⟩
  clear Y1 O9 L hlw flw nm nse nwo nm2 nse2 nsh fso fhd fwo fd fb fm fse nfl fr5 so1 mk1 sn1 ns1 nf1 kp1 fn1
  refine for_list (K := K) (a := ca) (xs := cs.map V.int) (fun i σ H' => ∃ (y5 y6 y7 y8 y9 y10 : Option V) (F : Addr → Prop) (hd wl : Addr) (x : Pm), σ = [some (.ref a), some (.ref wl), some (.ref im), some (.ref p1), some (.ref d), y5, y6, y7, y8, y9, y10, none] ∧ KS CB CM CP CK CW CF CH CC CI S H' F p1 d b m ln se so to hd lw wo wl ws x ∧ x.n ≤ 20 * i) ⟨_, _, _, _, _, _, F1, hd, wl0, x0, rfl, Z, by omega⟩ (fun i σ H' _ h => by
    obtain ⟨_, _, _, _, _, _, _, _, _, _, _, z, _⟩ := h
    exact SqL.of (z.Y.sm _ _ Sca)) ?_ ?_
  · rintro i v σ H0 hi ⟨y5, y6, y7, y8, y9, y10, F, hd, wl_, x, rfl, Z, xn⟩
    have hil : i < cs.length := by
      have := (List.getElem?_eq_some_iff.mp hi).1
      rwa [List.length_map] at this
    obtain ⟨cell, rfl⟩ : ∃ c : Int, v = .int c := by
      rw [List.getElem?_map] at hi
      cases e : cs[i]? with
      | none => rw [e] at hi; cases hi
      | some c => rw [e] at hi; exact ⟨c, (Option.some.inj hi).symm⟩
    refine ⟨_, rfl, cell, rfl, fun J1 wl sw nwl hw => ?_⟩
    have Z := Z.enter sw nwl hw
    refine ⟨_, rfl, wl, 16, rfl, Z.W, by decide, by decide, fun J2 d1 k2 hw2 d10 d11 => ⟨_, _, rfl, rfl, .inl ⟨by decide, by decide⟩, ?_⟩⟩
    have Z := Z.well k2 hw2
    clear k2 hw2
    obtain ⟨pgn, epg⟩ : ∃ pgn : Int, pgn = 32 * d1 := ⟨_, rfl⟩
    show gName 6 (V.int (32 * d1)) _ _ _
    rw [← epg]
    refine ⟨Nat.zero_le _, fun sp nsp => ?_⟩
    have osp := Z.fresh nsp
    have rsp := same_upd' (o := .lst []) nsp
    have hsp : upd J2 sp (.lst []) sp = some (.lst (([] : List Int).map V.int)) := upd_same
    have Z := Z.same rsp
    have nsw_ : sp ≠ wl := (osp.2.2 wl (by simp)).symm
    generalize upd J2 sp (.lst []) = J3 at *
    refine ⟨_, rfl, wl, 13, rfl, Z.W, by decide, by decide, fun J4 d2 k2 hw2 d20 d21 => ⟨d2, rfl, by omega, by omega, ?_⟩⟩
    have Z := Z.well k2 hw2
    have hsp := k2 _ _ nsw_ hsp
    clear k2 hw2
    refine for_range (lo := 0) (n := d2.toNat) (fun j σ H' => ∃ (y8 : Option V) (ss : List Int), σ = [some (.ref a), some (.ref wl), some (.ref im), some (.ref p1), some (.ref d), some (.int cell), some (.int pgn), some (.ref sp), y8, y9, y10, none] ∧ KS CB CM CP CK CW CF CH CC CI S H' F p1 d b m ln se so to hd lw wo wl ws x ∧ H' sp = some (.lst (ss.map V.int)) ∧ ss.length ≤ j) ⟨y8, [], rfl, Z, hsp, Nat.le_refl _⟩ ?_ ?_
    · rintro j σ K0 hj ⟨y8, ss, rfl, Z, hsp, ls⟩
      refine ⟨_, rfl, .inl ⟨rfl, _, SqL.of hsp⟩, _, rfl, _, rfl, _, rfl, wl, 32, rfl, Z.W, by decide, by decide, fun K1 e1 k2 hw2 e10 e11 => ?_⟩
      have Z := Z.well k2 hw2
      have hsp := k2 _ _ nsw_ hsp
      clear k2 hw2
      refine ⟨_, _, rfl, rfl, _, rfl, _, rfl, _, _, rfl, rfl, _, rfl, wl, 768, rfl, Z.W, by decide, by decide, fun K2 e2 k2 hw2 e20 e21 => ?_⟩
      have Z := Z.well k2 hw2
      have hsp := k2 _ _ nsw_ hsp
      clear k2 hw2
      refine ⟨(by show 6 ≤ sizeLine; decide), fun l1 nl1 => ?_⟩
      have r1 := same_upd' (o := .lst [V.int (pgn + e1), V.int pgn, V.int (pgn + 31), V.int e2, V.int 511, V.int 512]) nl1
      have hl1 : upd K2 l1 (.lst [V.int (pgn + e1), V.int pgn, V.int (pgn + 31), V.int e2, V.int 511, V.int 512]) l1 = some (.lst [V.int (pgn + e1), V.int pgn, V.int (pgn + 31), V.int e2, V.int 511, V.int 512]) := upd_same
      have nlw : l1 ≠ wl := well_ne Z.W nl1
      have Z := Z.same r1
      have hsp := r1 _ _ hsp
      generalize upd K2 l1 (.lst [V.int (pgn + e1), V.int pgn, V.int (pgn + 31), V.int e2, V.int 511, V.int 512]) = K3 at *
      refine ⟨wl, l1, _, rfl, Z.W, nlw, hl1, (by intro h; cases h), (by show 6 ≤ 1000; decide), fun K4 mv k2 hw2 hmem => ?_⟩
      obtain ⟨s1, rfl⟩ : ∃ z : Int, mv = .int z := by
        simp only [List.mem_cons, List.not_mem_nil, or_false] at hmem
        rcases hmem with h | h | h | h | h | h <;> exact ⟨_, h⟩
      have Z := Z.well k2 hw2
      have hsp := k2 _ _ nsw_ hsp
      clear k2 hw2
      refine ⟨sp, _, _, rfl, rfl, hsp, by rw [List.length_map]; exact small1000 (by omega), ?_⟩
      exact ⟨_, ss ++ [s1], rfl, Z.put osp hsp (fun b o n e => by rw [upd_ne n]; exact e), by rw [upd_same, List.map_append]; rfl, by rw [List.length_append]; show ss.length + 1 ≤ j + 1; omega⟩
    rintro σ K0 ⟨y8, ss, rfl, Z, hsp, ls⟩
    refine ⟨_, rfl, sp, rfl, ⟨_, SqL.of hsp⟩, fun D nD => ?_⟩
    have oD := Z.fresh nD
    have rD := same_upd' (o := .lst []) nD
    have nDw : D ≠ wl := well_ne Z.W nD
    have nsD : sp ≠ D := ne_of_none hsp nD
    refine lc_list (K := K) (a := sp) (xs := ss.map V.int) (fun i H' => KS CB CM CP CK CW CF CH CC CI S H' F p1 d b m ln se so to hd lw wo wl ws x ∧ H' sp = some (.lst (ss.map V.int)) ∧ ∃ (us : List V) (as : List Act), H' D = some (.lst us) ∧ AcAt H' us as ∧ us.length ≤ i) ⟨Z.same rD, rD _ _ hsp, [], [], upd_same, .nil, Nat.zero_le _⟩ (fun i H' _ h => SqL.of h.2.1) ?_ ?_
    · rintro i_ v H' hv ⟨Z, hsp, us, as, hD, pa, lu⟩
      have hi_ : i_ < ss.length := by
        have := (List.getElem?_eq_some_iff.mp hv).1
        rwa [List.length_map] at this
      obtain ⟨s1, rfl⟩ : ∃ z : Int, v = .int z := by
        rw [List.getElem?_map] at hv
        cases e : ss[i_]? with
        | none => rw [e] at hv; cases hv
        | some z => rw [e] at hv; exact ⟨z, (Option.some.inj hv).symm⟩
      refine ⟨rfl, ?_⟩
      refine ⟨_, rfl, _, rfl, wl, 5, rfl, Z.W, by decide, by decide, fun K1 e1 k2 hw2 e10 e11 => ?_⟩
      have kt2 := But.tupk Z.W k2
      have Z := Z.well k2 hw2
      have hsp := k2 _ _ nsw_ hsp
      have hD := k2 _ _ nDw hD
      clear k2 hw2
      have pa := AcAt.mono kt2 pa
      refine ⟨rfl, (by show 3 ≤ sizeLine; decide), fun T nT => ?_⟩
      have rT := same_upd' (o := .tup (Act.mark s1 (decide (V.int e1 = V.int 0))).vs) nT
      have hT : upd K1 T (.tup (Act.mark s1 (decide (V.int e1 = V.int 0))).vs) T = some (.tup (Act.mark s1 (decide (V.int e1 = V.int 0))).vs) := upd_same
      have Z := Z.same rT
      have hsp := rT _ _ hsp
      have hD := rT _ _ hD
      have pa := AcAt.mono (fun t xs e => rT _ _ e) pa
      have rT' : True := trivial
      refine ⟨us, hD, small1000 (by omega), Z.put oD hD (fun b o n e => by rw [upd_ne n]; exact e), by rw [upd_ne nsD]; exact hsp, us ++ [.ref T], as ++ [.mark s1 (decide (V.int e1 = V.int 0))], upd_same, ?_, by rw [List.length_append]; show us.length + 1 ≤ i_ + 1; omega⟩
      refine AcAt.mono (fun t xs e => by rw [upd_ne (fun z => by rw [z, hD] at e; cases e)]; exact e) (paired_app pa (.cons ⟨T, rfl, hT⟩ .nil))
    rintro K5 ⟨Z, hsp, us, as, hD, pa, lu⟩
    rw [List.length_map] at lu
    refine ⟨_, rfl, wl, 6, rfl, Z.W, by decide, by decide, fun K6 d3 k2 hw2 d30 d31 => ⟨d3, rfl, by omega, by omega, ?_⟩⟩
    have kt2 := But.tupk Z.W k2
    have Z := Z.well k2 hw2
    have hsp := k2 _ _ nsw_ hsp
    have hD := k2 _ _ nDw hD
    clear k2 hw2
    have pa := AcAt.mono kt2 pa
    refine for_range (lo := 0) (n := d3.toNat) (fun j σ H' => ∃ (y8 : Option V) (us : List V) (as : List Act), σ = [some (.ref a), some (.ref wl), some (.ref im), some (.ref p1), some (.ref d), some (.int cell), some (.int pgn), some (.ref sp), y8, some (.ref D), y10, none] ∧ KS CB CM CP CK CW CF CH CC CI S H' F p1 d b m ln se so to hd lw wo wl ws x ∧ H' sp = some (.lst (ss.map V.int)) ∧ H' D = some (.lst us) ∧ AcAt H' us as ∧ us.length ≤ ss.length + j) ⟨y8, us, as, rfl, Z, hsp, hD, pa, by omega⟩ ?_ ?_
    · rintro j σ M0 hj ⟨y8, us, as, rfl, Z, hsp, hD, pa, lu⟩
      refine ⟨_, rfl, .inl ⟨rfl, _, SqL.of hD⟩, _, rfl, _, rfl, _, rfl, _, rfl, wl, 768, rfl, Z.W, by decide, by decide, fun M1 e1 k2 hw2 e10 e11 => ?_⟩
      have kt2 := But.tupk Z.W k2
      have Z := Z.well k2 hw2
      have hsp := k2 _ _ nsw_ hsp
      have hD := k2 _ _ nDw hD
      clear k2 hw2
      have pa := AcAt.mono kt2 pa
      refine ⟨(by show 2 ≤ sizeLine; decide), fun l1 nl1 => ?_⟩
      have r1 := same_upd' (o := .lst [V.int pgn, V.int e1]) nl1
      have hl1 : upd M1 l1 (.lst [V.int pgn, V.int e1]) l1 = some (.lst [V.int pgn, V.int e1]) := upd_same
      have Z := Z.same r1
      have hsp := r1 _ _ hsp
      have hD := r1 _ _ hD
      have pa := AcAt.mono (fun t xs e => r1 _ _ e) pa
      generalize upd M1 l1 (.lst [V.int pgn, V.int e1]) = M2 at *
      refine ⟨sp, l1, _, _, rfl, rfl, hsp, hl1, (by rw [List.length_map]; exact small1000' (by show ss.length + 2 ≤ 4000; omega)), fun l2 nl2 => ?_⟩
      have r2 := same_upd' (o := .lst (ss.map V.int ++ [V.int pgn, V.int e1])) nl2
      have hl2 : upd M2 l2 (.lst (ss.map V.int ++ [V.int pgn, V.int e1])) l2 = some (.lst (ss.map V.int ++ [V.int pgn, V.int e1])) := upd_same
      have nlw : l2 ≠ wl := well_ne Z.W nl2
      have Z := Z.same r2
      have hsp := r2 _ _ hsp
      have hD := r2 _ _ hD
      have pa := AcAt.mono (fun t xs e => r2 _ _ e) pa
      generalize upd M2 l2 (.lst (ss.map V.int ++ [V.int pgn, V.int e1])) = M3 at *
      refine ⟨wl, l2, _, rfl, Z.W, nlw, hl2, (by simp), (by rw [List.length_append, List.length_map]; show ss.length + 2 ≤ 1000; omega), fun M4 mv k2 hw2 hmem => ?_⟩
      obtain ⟨s1, rfl⟩ : ∃ z : Int, mv = .int z := by
        rcases List.mem_append.mp hmem with h | h
        · obtain ⟨z, _, e⟩ := List.mem_map.mp h
          exact ⟨z, e.symm⟩
        · simp only [List.mem_cons, List.not_mem_nil, or_false] at h
          rcases h with h | h <;> exact ⟨_, h⟩
      have kt2 := But.tupk Z.W k2
      have Z := Z.well k2 hw2
      have hsp := k2 _ _ nsw_ hsp
      have hD := k2 _ _ nDw hD
      clear k2 hw2
      have pa := AcAt.mono kt2 pa
      refine ⟨(by show 2 ≤ sizeLine; decide), fun T nT => ?_⟩
      have rT := same_upd' (o := .tup (Act.unm s1).vs) nT
      have hT : upd M4 T (.tup (Act.unm s1).vs) T = some (.tup (Act.unm s1).vs) := upd_same
      have Z := Z.same rT
      have hsp := rT _ _ hsp
      have hD := rT _ _ hD
      have pa := AcAt.mono (fun t xs e => rT _ _ e) pa
      refine ⟨D, us, _, rfl, rfl, hD, small1000 (by omega), ?_⟩
      refine ⟨_, us ++ [.ref T], as ++ [.unm s1], rfl, Z.put oD hD (fun b o n e => by rw [upd_ne n]; exact e), by rw [upd_ne nsD]; exact hsp, upd_same, ?_, by rw [List.length_append]; show us.length + 1 ≤ _; omega⟩
      refine AcAt.mono (fun t xs e => by rw [upd_ne (fun z => by rw [z, hD] at e; cases e)]; exact e) (paired_app pa (.cons ⟨T, rfl, hT⟩ .nil))
    rintro σ M0 ⟨y8, us, as, rfl, Z, hsp, hD, pa, lu⟩
    refine ⟨_, rfl, (by show 1 ≤ sizeLine; decide), fun T nT => ?_⟩
    have rT := same_upd' (o := .tup Act.clr.vs) nT
    have hT : upd M0 T (.tup Act.clr.vs) T = some (.tup Act.clr.vs) := upd_same
    have Z := Z.same rT
    have hD := rT _ _ hD
    have pa := AcAt.mono (fun t xs e => rT _ _ e) pa
    refine ⟨(by show 1 ≤ sizeLine; decide), fun l1 nl1 => ?_⟩
    have r1 := same_upd' (o := .lst [V.ref T]) nl1
    have hl1 : upd (upd M0 T (.tup Act.clr.vs)) l1 (.lst [V.ref T]) l1 = some (.lst [V.ref T]) := upd_same
    have nlw : l1 ≠ wl := well_ne Z.W nl1
    have Z := Z.same r1
    have hD := r1 _ _ hD
    have hT := r1 _ _ hT
    have pa := AcAt.mono (fun t xs e => r1 _ _ e) pa
    refine ⟨_, rfl, wl, 2, rfl, Z.W, by decide, by decide, fun M1 e1 k2 hw2 e10 e11 => ?_⟩
    have kt2 := But.tupk Z.W k2
    have Z := Z.well k2 hw2
    have hD := k2 _ _ nDw hD
    have hl1 := k2 _ _ nlw hl1
    clear k2 hw2
    have pa := AcAt.mono kt2 pa
    have hT := kt2 _ _ hT
    refine ⟨l1, _, _, rfl, rfl, hl1, by omega, by omega, (by show 1 * e1.toNat ≤ sizeLine; exact small1000' (by omega)), fun l2 nl2 => ?_⟩
    obtain ⟨es, as2, ees, pe2, le2⟩ : ∃ (es : List V) (as2 : List Act), (List.replicate e1.toNat [V.ref T]).flatten = es ∧ AcAt M1 es as2 ∧ es.length ≤ 1 := by
      have : e1 = 0 ∨ e1 = 1 := by omega
      rcases this with rfl | rfl
      · exact ⟨[], [], rfl, .nil, by decide⟩
      · exact ⟨[.ref T], [.clr], rfl, .cons ⟨T, rfl, hT⟩ .nil, Nat.le_refl _⟩
    rw [ees]
    have r2 := same_upd' (o := .lst es) nl2
    have hl2 : upd M1 l2 (.lst es) l2 = some (.lst es) := upd_same
    have Z := Z.same r2
    have hD := r2 _ _ hD
    have pa := AcAt.mono (fun t xs e => r2 _ _ e) (paired_app pa pe2)
    generalize upd M1 l2 (.lst es) = M2 at *
    refine ⟨D, l2, us, es, rfl, rfl, hD, hl2, small1000' (by omega), fun A nA => ?_⟩
    have oA := Z.fresh nA
    have r3 := same_upd' (o := .lst (us ++ es)) nA
    have hA : upd M2 A (.lst (us ++ es)) A = some (.lst (us ++ es)) := upd_same
    have Z := Z.same r3
    have pa := AcAt.mono (fun t xs e => r3 _ _ e) pa
    have lA : (us ++ es).length ≤ 19 := by rw [List.length_append]; omega
    generalize upd M2 A (.lst (us ++ es)) = M3 at *
    generalize us ++ es = us at *
    generalize as ++ as2 = as at *
    have naw : A ≠ wo := (oA.2.2 wo (by simp)).symm
    have naF := oA.1
    refine ⟨_, rfl, A, rfl, ⟨_, SqL.of hA⟩, ?_⟩
    clear oA r3 nA hD hl2 r2 hl1 r1 hT rT oD rD osp hsp
    refine for_list (K := K) (a := A) (xs := us) (fun k σ H' => ∃ (y10 : Option V) (F : Addr → Prop) (hd : Addr) (x' : Pm), σ = [some (.ref a), some (.ref wl), some (.ref im), some (.ref p1), some (.ref d), some (.int cell), some (.int pgn), some (.ref sp), y8, some (.ref A), y10, none] ∧ KS CB CM CP CK CW CF CH CC CI S H' F p1 d b m ln se so to hd lw wo wl ws x' ∧ H' A = some (.lst us) ∧ AcAt H' us as ∧ ¬ F A ∧ x'.n ≤ x.n + k) ⟨y10, F, hd, x, rfl, Z, hA, pa, naF, Nat.le_refl _⟩ (fun k σ H' _ h => by
      obtain ⟨_, _, _, _, _, _, z, _⟩ := h
      exact SqL.of z) ?_ ?_
    · rintro k v σ L0 hk ⟨y10, F, hd, x', rfl, Z, hA, pa, naF, xn'⟩
      have hkl : k < us.length := (List.getElem?_eq_some_iff.mp hk).1
      obtain ⟨t, ac, rfl, hac⟩ := pa.get hk
      refine ⟨_, rfl, _, rfl, S, F, p1, t, x', ac, rfl, Z.Y, Z.mo, by omega, hac, fun L1 lo F' f Y1 hlo => ?_⟩
      have O1 := (Z.step (H2 := L1) (hd' := hd) f Y1).1
      have kf := tup_keep Z.Y.solid f.keep
      have hac1 : ActAt L1 t ac := kf _ _ hac
      have hA1 := f.keep _ _ naF hA
      refine ⟨_, rfl, _, rfl, d, _, rfl, dg (k := Sum.inr "b") O1.hd_ lpG_b, _, rfl, d, b, m, ln, se, so, to, hd, lw, wo, t, ws, x'.hard, x'.b.sw, x'.wear, ac, rfl, O1, Z.mo.1, Z.mo.2.1, Z.mo.2.2, Z.Y.2.hh, Z.Y.2.we, hac1, fun L2 lo2 hd' kk hh O2 hlo2 => ?_⟩
      have kt : ∀ t xs, L1 t = some (.tup xs) → L2 t = some (.tup xs) := fun t xs e => kk t _ (ne_of e O1.hd_ (by intro z; cases z)) (ne_of e O1.hso (by intro z; cases z)) (ne_of e O1.hhd (by intro z; cases z)) (ne_of e O1.hwo (by intro z; cases z)) e
      have Z2 := (Z.step f Y1).2 kk hh O2
      have hlo := kt _ _ hlo
      have hA2 := kk _ _ (ne_of hA1 O1.hd_ (by intro z; cases z)) (ne_of hA1 O1.hso (by intro z; cases z)) (ne_of hA1 O1.hhd (by intro z; cases z)) naw hA1
      have pa2 := AcAt.mono kt (AcAt.mono kf pa)
      have naF2 : ¬ F' A := fun z => by
        rcases f.new A z with y | y
        · exact naF y
        · rw [hA] at y; cases y
      refine ⟨.tuple (outA ac x'.hard x'.b.sw).ds, .tuple (outA ac x'.hard x'.b.sw).ds, .tup (SqT.of hlo) (dp_out _), .tup (SqT.of hlo2) (dp_out _), pl_out _, pl_out _, dep_out _, _, rfl, ?_⟩
      rw [PySem.SeqAt.eqv_refl_plain _ (pl_out _)]
      refine ifN (fun h => by cases h) (fun _ => ?_)
      refine ⟨_, rfl, S, F', p1, _, ws, rfl, Z2.Y, Z2.mo, Z2.R, fun L3 lt o1 s3 so1 dp1 => ?_⟩
      refine ⟨_, rfl, d, b, m, ln, se, so, to, hd', lw, wo, ws, _, _, _, rfl, Z2.O.same s3, Z2.Y.2.hh, Z2.mo.2.2, fun L4 lt2 o2 s4 so2 dp2 => ?_⟩
      obtain rfl : o1 = o2 := SortedR.uniq (by rw [rowsL_fst]; exact Z2.mo.1) so1 so2
      refine ⟨_, _, dp_up s4 _ _ dp1, dp2, pl_st _ _ _, pl_st _ _ _, dep_st _ _ _, _, rfl, ?_⟩
      rw [PySem.SeqAt.eqv_refl_plain _ (pl_st _ _ _)]
      refine ifN (fun h => by cases h) (fun _ => ?_)
      have s34 := s3.trans s4
      have an := act_n ac x'
      exact ⟨_, F', hd', _, rfl, Z2.same s34, s34 _ _ hA2, AcAt.mono (fun t xs e => s34 _ _ e) pa2, naF2, by omega⟩
    rintro σ L0 ⟨y10, F, hd, x', rfl, Z, hA, pa, naF, xn'⟩
    exact ⟨_, _, _, _, _, _, F, hd, wl, x', rfl, Z, by omega⟩
  · rintro σ H0 ⟨y5, y6, y7, y8, y9, y10, F, hd, wl_, x, rfl, Z, xn⟩
    exact q _
end
end Bh

namespace Bh
open PySem PySem.Spec PyProof.Rows L2 PySem.W
theorem all_mk {l : PySem.W.OpenLaw} {w : World} {K : PySem.W.Frag} {h : Heap} {mg : Str → Option Value} {fa : Addr} (X : K.In h) (G : h.Ns mainGlobals mg) (hfa : mg "law" = some (.ref fa)) (c : SaysH faL fnL tsL xlL 54 w K)
    : ∃ fd : FuncData, (∀ (s : Shared) (v : Value), BindsTo s fd ⟨[v], []⟩ [("_law_script", v)]) ∧ ∀ base : Heap, K.In base → base.Ns mainGlobals mg → FnOk l.prog w K mg base CX0 12 fa fd ["_law_script"] (spLaw K) := by
  have e := hfa.symm.trans (He.glo_ok X G (c.fact 169 (f := .glo "law") rfl))
  cases e
  have Tb : Tx K mg (He.ga K "Board") (He.ga K "Memory") := {
    g_FLASH_END := He.int_ok X G (c.fact 0 (f := .int "FLASH_END" 512) rfl)
    g_RAM_END := He.int_ok X G (c.fact 1 (f := .int "RAM_END" 768) rfl)
    g_PLACES_END := He.int_ok X G (c.fact 2 (f := .int "PLACES_END" 774) rfl)
    g_COUNT := He.int_ok X G (c.fact 3 (f := .int "COUNT" 768) rfl)
    g_TOP := He.int_ok X G (c.fact 4 (f := .int "TOP" 769) rfl)
    g_FLAGS := He.int_ok X G (c.fact 5 (f := .int "FLAGS" 770) rfl)
    g_MASK := He.int_ok X G (c.fact 6 (f := .int "MASK" 771) rfl)
    g_LINE_IN := He.int_ok X G (c.fact 7 (f := .int "LINE_IN" 772) rfl)
    g_LINE_OUT := He.int_ok X G (c.fact 8 (f := .int "LINE_OUT" 773) rfl)
    g_TIMER_FLAG := He.int_ok X G (c.fact 9 (f := .int "TIMER_FLAG" 1) rfl)
    g_LINE_FLAG := He.int_ok X G (c.fact 10 (f := .int "LINE_FLAG" 2) rfl)
    g_WORD_MOST := He.int_ok X G (c.fact 11 (f := .int "WORD_MOST" 65535) rfl)
    g_ERASED := He.int_ok X G (c.fact 12 (f := .int "ERASED" 65535) rfl)
    g_X_SPAN := He.int_ok X G (c.fact 13 (f := .int "X_SPAN" 1024) rfl)
    g_LINE_MOST := He.int_ok X G (c.fact 14 (f := .int "LINE_MOST" 3) rfl)
    g_STACK_TOP := He.int_ok X G (c.fact 15 (f := .int "STACK_TOP" 767) rfl)
    g_INTERRUPT_BEATS := He.int_ok X G (c.fact 16 (f := .int "INTERRUPT_BEATS" 3) rfl)
    g_TIMER_PC := He.int_ok X G (c.fact 17 (f := .int "TIMER_PC" 1) rfl)
    g_LINE_PC := He.int_ok X G (c.fact 18 (f := .int "LINE_PC" 2) rfl)
    g_WORDS := He.int_ok X G (c.fact 19 (f := .int "WORDS" 65536) rfl)
    g_HIGH := He.int_ok X G (c.fact 20 (f := .int "HIGH" 32768) rfl)
    z_len := (He.free_ok X G (c.fact 21 (f := .free "len") rfl))
    z_range := (He.free_ok X G (c.fact 22 (f := .free "range") rfl))
    z_isinstance := (He.free_ok X G (c.fact 23 (f := .free "isinstance") rfl))
    z_all := (He.free_ok X G (c.fact 24 (f := .free "all") rfl))
    z_int := (He.free_ok X G (c.fact 25 (f := .free "int") rfl))
    z_bool := (He.free_ok X G (c.fact 26 (f := .free "bool") rfl))
    z_list := (He.free_ok X G (c.fact 27 (f := .free "list") rfl))
    z_tuple := (He.free_ok X G (c.fact 28 (f := .free "tuple") rfl))
    z_divmod := (He.free_ok X G (c.fact 29 (f := .free "divmod") rfl))
    g_READS_AT_X := ⟨_, (He.glo_ok X G (c.fact 30 (f := .glo "READS_AT_X") rfl)), fun H => He.tupB_ok (vs := [.str "get", .str "add", .str "sub", .str "and", .str "xor"]) (c.x 0 rfl) H⟩
    g_OP_NAMES := ⟨_, (He.glo_ok X G (c.fact 31 (f := .glo "OP_NAMES") rfl)), fun H => He.tupB_ok (vs := [.str "mark", .str "lit", .str "get", .str "put", .str "add", .str "sub", .str "and", .str "xor", .str "getb", .str "putb", .str "tob", .str "swap", .str "go", .str "ifz", .str "ifn", .str "call", .str "ret", .str "push", .str "pop", .str "sleep", .str "let", .str "back", .str "half"]) (c.x 1 rfl) H⟩
    cB := (He.cls_ok (c.fact 32 (f := .cls "Board") rfl))
    cM := (He.cls_ok (c.fact 33 (f := .cls "Memory") rfl))
    n_registers := He.noat_ok (c.fact 34 (f := .noat "Board" "registers") rfl)
    n_zero := He.noat_ok (c.fact 35 (f := .noat "Board" "zero") rfl)
    n_lets := He.noat_ok (c.fact 36 (f := .noat "Board" "lets") rfl)
    n_asleep := He.noat_ok (c.fact 37 (f := .noat "Board" "asleep") rfl)
    n_beat := He.noat_ok (c.fact 38 (f := .noat "Board" "beat") rfl)
    n_stopped := He.noat_ok (c.fact 39 (f := .noat "Board" "stopped") rfl)
    n_sent := He.noat_ok (c.fact 40 (f := .noat "Board" "sent") rfl)
    n_memory := He.noat_ok (c.fact 41 (f := .noat "Board" "memory") rfl)
    n_line := He.noat_ok (c.fact 42 (f := .noat "Board" "line") rfl)
    n_line_at := He.noat_ok (c.fact 43 (f := .noat "Board" "line_at") rfl)
    n_touched := He.noat_ok (c.fact 44 (f := .noat "Board" "touched") rfl)
    n_did := He.noat_ok (c.fact 45 (f := .noat "Board" "did") rfl)
    n_bend := He.noat_ok (c.fact 46 (f := .noat "Board" "bend") rfl)
    n_words := He.noat_ok (c.fact 47 (f := .noat "Memory" "words") rfl)
    n_swapped := He.noat_ok (c.fact 48 (f := .noat "Memory" "swapped") rfl) }
  have T : Ty K mg (He.ga K "Board") (He.ga K "Memory") (He.ga K "Probe") (He.ga K "Marks") (He.ga K "Watches") (He.ga K "Frames") (He.ga K "History") (He.ga K "Counts") (He.ga K "Mishaps") (He.ga K "Stands") := {
    toTx := Tb
    g_WATCHES := He.int_ok X G (c.fact 49 (f := .int "WATCHES" 2) rfl)
    g_PAGES := He.int_ok X G (c.fact 50 (f := .int "PAGES" 16) rfl)
    g_OUTSIDE := He.int_ok X G (c.fact 51 (f := .int "OUTSIDE" (-1)) rfl)
    g_KEPT_TURNS := He.int_ok X G (c.fact 52 (f := .int "KEPT_TURNS" 32) rfl)
    z_enumerate := (He.free_ok X G (c.fact 53 (f := .free "enumerate") rfl))
    cP := (He.cls_ok (c.fact 54 (f := .cls "Probe") rfl))
    nP_board := He.noat_ok (c.fact 55 (f := .noat "Probe" "board") rfl)
    nP_standing := He.noat_ok (c.fact 56 (f := .noat "Probe" "standing") rfl)
    nP_watching := He.noat_ok (c.fact 57 (f := .noat "Probe" "watching") rfl)
    nP_frames := He.noat_ok (c.fact 58 (f := .noat "Probe" "frames") rfl)
    nP_history := He.noat_ok (c.fact 59 (f := .noat "Probe" "history") rfl)
    nP_counts := He.noat_ok (c.fact 60 (f := .noat "Probe" "counts") rfl)
    nP_mishaps := He.noat_ok (c.fact 61 (f := .noat "Probe" "mishaps") rfl)
    nP_stands := He.noat_ok (c.fact 62 (f := .noat "Probe" "stands") rfl)
    nP_turns_gone := He.noat_ok (c.fact 63 (f := .noat "Probe" "turns_gone") rfl)
    nP_course := He.noat_ok (c.fact 64 (f := .noat "Probe" "course") rfl)
    cK := (He.cls_ok (c.fact 65 (f := .cls "Marks") rfl))
    nK_memory := He.noat_ok (c.fact 66 (f := .noat "Marks" "memory") rfl)
    nK_hard := He.noat_ok (c.fact 67 (f := .noat "Marks" "hard") rfl)
    nK_erased := He.noat_ok (c.fact 68 (f := .noat "Marks" "erased") rfl)
    cW := (He.cls_ok (c.fact 69 (f := .cls "Watches") rfl))
    nW_rows := He.noat_ok (c.fact 70 (f := .noat "Watches" "rows") rfl)
    cF := (He.cls_ok (c.fact 71 (f := .cls "Frames") rfl))
    nF_rows := He.noat_ok (c.fact 72 (f := .noat "Frames" "rows") rfl)
    nF_strays := He.noat_ok (c.fact 73 (f := .noat "Frames" "strays") rfl)
    cH := (He.cls_ok (c.fact 74 (f := .cls "History") rfl))
    nH_rows := He.noat_ok (c.fact 75 (f := .noat "History" "rows") rfl)
    nH_faded := He.noat_ok (c.fact 76 (f := .noat "History" "faded") rfl)
    cC := (He.cls_ok (c.fact 77 (f := .cls "Counts") rfl))
    nC_deeds := He.noat_ok (c.fact 78 (f := .noat "Counts" "deeds") rfl)
    nC_frames := He.noat_ok (c.fact 79 (f := .noat "Counts" "frames") rfl)
    nC_idle := He.noat_ok (c.fact 80 (f := .noat "Counts" "idle") rfl)
    nC_peeked := He.noat_ok (c.fact 81 (f := .noat "Counts" "peeked") rfl)
    cI := (He.cls_ok (c.fact 82 (f := .cls "Mishaps") rfl))
    nI_rows := He.noat_ok (c.fact 83 (f := .noat "Mishaps" "rows") rfl)
    nI_met_rows := He.noat_ok (c.fact 84 (f := .noat "Mishaps" "met_rows") rfl)
    cS := (He.cls_ok (c.fact 85 (f := .cls "Stands") rfl))
    nS_rows := He.noat_ok (c.fact 86 (f := .noat "Stands" "rows") rfl) }
  have TR : Tr K mg := {
    g_REGISTERS := ⟨_, (He.glo_ok X G (c.fact 87 (f := .glo "REGISTERS") rfl)), fun H => He.tupB_ok (vs := [.str "a", .str "b", .str "pc", .str "sp"]) (c.x 2 rfl) H⟩
    z_str := (He.free_ok X G (c.fact 88 (f := .free "str") rfl)) }
  have TK : Tk K mg := {
    g_KINDS := ⟨_, (He.glo_ok X G (c.fact 89 (f := .glo "KINDS") rfl)), fun H => He.tupB_ok (vs := [.str "r", .str "w", .str "rw"]) (c.x 3 rfl) H⟩
    g_HARD_MOST := He.int_ok X G (c.fact 90 (f := .int "HARD_MOST" 2) rfl)
    g_PAGE_WORDS := He.int_ok X G (c.fact 91 (f := .int "PAGE_WORDS" 32) rfl) }
  have TM : Tm K mg (He.ga K "NoWord") (He.ga K "NoMark") (He.ga K "Taken") (He.ga K "TooMany") := {
    gN := (He.glo_ok X G (c.fact 92 (f := .glo "NoWord") rfl))
    kN := He.keep_ok (c.fact 93 (f := .keep "NoWord") rfl)
    xN := (He.exc_ok (c.fact 94 (f := .exc "NoWord") rfl)).1
    bN := of_decide_eq_true (c.x 4 rfl)
    tN := of_decide_eq_true (c.x 5 rfl)
    gL := (He.glo_ok X G (c.fact 95 (f := .glo "NoMark") rfl))
    kL := He.keep_ok (c.fact 96 (f := .keep "NoMark") rfl)
    xL := (He.exc_ok (c.fact 97 (f := .exc "NoMark") rfl)).1
    bL := of_decide_eq_true (c.x 6 rfl)
    tL := of_decide_eq_true (c.x 7 rfl)
    gT := (He.glo_ok X G (c.fact 98 (f := .glo "Taken") rfl))
    kT := He.keep_ok (c.fact 99 (f := .keep "Taken") rfl)
    xT := (He.exc_ok (c.fact 100 (f := .exc "Taken") rfl)).1
    bT := of_decide_eq_true (c.x 8 rfl)
    tT := of_decide_eq_true (c.x 9 rfl)
    gO := (He.glo_ok X G (c.fact 101 (f := .glo "TooMany") rfl))
    kO := He.keep_ok (c.fact 102 (f := .keep "TooMany") rfl)
    xO := (He.exc_ok (c.fact 103 (f := .exc "TooMany") rfl)).1
    bO := of_decide_eq_true (c.x 10 rfl)
    tO := of_decide_eq_true (c.x 11 rfl) }
  have TG : Tg K mg (He.ga K "NoWord") (He.ga K "NoMark") (He.ga K "Taken") (He.ga K "TooMany") (He.ga K "Barred") (He.ga K "BoardError") := {
    gR := (He.glo_ok X G (c.fact 104 (f := .glo "Barred") rfl))
    gE := (He.glo_ok X G (c.fact 105 (f := .glo "BoardError") rfl))
    exN := ⟨(He.eqO_ok (c.x 12 rfl)), (He.eqO_ok (c.x 13 rfl)), (of_decide_eq_true (c.x 4 rfl)), (c.x 14 rfl), (He.eqO_ok (c.x 15 rfl)), (He.eqO_ok (c.x 16 rfl)), (of_decide_eq_true (c.x 17 rfl)), (of_decide_eq_true (c.x 18 rfl))⟩
    exT := ⟨(He.eqO_ok (c.x 19 rfl)), (He.eqO_ok (c.x 20 rfl)), (of_decide_eq_true (c.x 8 rfl)), (c.x 21 rfl), (He.eqO_ok (c.x 22 rfl)), (He.eqO_ok (c.x 16 rfl)), (of_decide_eq_true (c.x 17 rfl)), (of_decide_eq_true (c.x 23 rfl))⟩
    exO := ⟨(He.eqO_ok (c.x 24 rfl)), (He.eqO_ok (c.x 25 rfl)), (of_decide_eq_true (c.x 10 rfl)), (c.x 26 rfl), (He.eqO_ok (c.x 27 rfl)), (He.eqO_ok (c.x 16 rfl)), (of_decide_eq_true (c.x 17 rfl)), (of_decide_eq_true (c.x 28 rfl))⟩
    exL := ⟨(He.eqO_ok (c.x 29 rfl)), (He.eqO_ok (c.x 30 rfl)), (of_decide_eq_true (c.x 6 rfl)), (c.x 31 rfl), (He.eqO_ok (c.x 32 rfl)), (He.eqO_ok (c.x 16 rfl)), (of_decide_eq_true (c.x 17 rfl)), (of_decide_eq_true (c.x 33 rfl))⟩
    kNN := of_decide_eq_true (c.x 34 rfl)
    kNT := of_decide_eq_true (c.x 35 rfl)
    kNO := of_decide_eq_true (c.x 36 rfl)
    kNL := of_decide_eq_true (c.x 37 rfl)
    kNR := of_decide_eq_true (c.x 38 rfl)
    kTN := of_decide_eq_true (c.x 39 rfl)
    kTT := of_decide_eq_true (c.x 40 rfl)
    kTO := of_decide_eq_true (c.x 41 rfl)
    kTL := of_decide_eq_true (c.x 42 rfl)
    kTR := of_decide_eq_true (c.x 43 rfl)
    kON := of_decide_eq_true (c.x 44 rfl)
    kOT := of_decide_eq_true (c.x 45 rfl)
    kOO := of_decide_eq_true (c.x 46 rfl)
    kOL := of_decide_eq_true (c.x 47 rfl)
    kOR := of_decide_eq_true (c.x 48 rfl)
    kLN := of_decide_eq_true (c.x 49 rfl)
    kLT := of_decide_eq_true (c.x 50 rfl)
    kLO := of_decide_eq_true (c.x 51 rfl)
    kLL := of_decide_eq_true (c.x 52 rfl)
    kLR := of_decide_eq_true (c.x 53 rfl)
    eN := He.exm_ok (c.fact 106 (f := .exm "NoWord" "BoardError" true) rfl)
    eT := He.exm_ok (c.fact 107 (f := .exm "Taken" "BoardError" true) rfl)
    eO := He.exm_ok (c.fact 108 (f := .exm "TooMany" "BoardError" true) rfl)
    eL := He.exm_ok (c.fact 109 (f := .exm "NoMark" "BoardError" true) rfl) }
  obtain ⟨fd_Memoryinit, D_Memoryinit⟩ := c.def_ 0 (d := d_Memoryinit) rfl
  have F_Memoryinit : Fun K "__init__" "Memory.__init__" sCmem _ fd_Memoryinit := He5.fun_of D_Memoryinit
  have b_Memoryinit := F_Memoryinit.binds (ps := ["self", "image"]) fun _ _ _ _ _ _ us hl => match us, hl with | [_, _], _ => rfl
  obtain ⟨fd_firstregisters, D_firstregisters⟩ := c.def_ 1 (d := d_firstregisters) rfl
  have F_firstregisters : Fun K "first_registers" "first_registers" sFfirst _ fd_firstregisters := He5.fun_of D_firstregisters
  have b_firstregisters := F_firstregisters.binds (ps := []) fun _ _ _ _ _ _ us hl => match us, hl with | [], _ => rfl
  obtain ⟨fd_iswhole, D_iswhole⟩ := c.def_ 2 (d := d_iswhole) rfl
  have F_iswhole : Fun K "is_whole" "is_whole" sFwhole _ fd_iswhole := He5.fun_of D_iswhole
  have b_iswhole := F_iswhole.binds (ps := ["thing"]) fun _ _ _ _ _ _ us hl => match us, hl with | [_], _ => rfl
  obtain ⟨fd_isbetween, D_isbetween⟩ := c.def_ 3 (d := d_isbetween) rfl
  have F_isbetween : Fun K "is_between" "is_between" sFbetw _ fd_isbetween := He5.fun_of D_isbetween
  have b_isbetween := F_isbetween.binds (ps := ["thing", "least", "greatest"]) fun _ _ _ _ _ _ us hl => match us, hl with | [_, _, _], _ => rfl
  obtain ⟨fd_isword, D_isword⟩ := c.def_ 4 (d := d_isword) rfl
  have F_isword : Fun K "is_word" "is_word" sFword _ fd_isword := He5.fun_of D_isword
  have b_isword := F_isword.binds (ps := ["thing"]) fun _ _ _ _ _ _ us hl => match us, hl with | [_], _ => rfl
  obtain ⟨fd_isimage, D_isimage⟩ := c.def_ 5 (d := d_isimage) rfl
  have F_isimage : Fun K "is_image" "is_image" sFimage _ fd_isimage := He5.fun_of D_isimage
  have b_isimage := F_isimage.binds (ps := ["thing"]) fun _ _ _ _ _ _ us hl => match us, hl with | [_], _ => rfl
  obtain ⟨fd_islinerow, D_islinerow⟩ := c.def_ 6 (d := d_islinerow) rfl
  have F_islinerow : Fun K "is_line_row" "is_line_row" sFlrow _ fd_islinerow := He5.fun_of D_islinerow
  have b_islinerow := F_islinerow.binds (ps := ["row", "last"]) fun _ _ _ _ _ _ us hl => match us, hl with | [_, _], _ => rfl
  obtain ⟨fd_isline, D_isline⟩ := c.def_ 7 (d := d_isline) rfl
  have F_isline : Fun K "is_line" "is_line" sFline _ fd_isline := He5.fun_of D_isline
  have b_isline := F_isline.binds (ps := ["thing"]) fun _ _ _ _ _ _ us hl => match us, hl with | [_], _ => rfl
  obtain ⟨fd_Boardinit, D_Boardinit⟩ := c.def_ 8 (d := d_Boardinit) rfl
  have F_Boardinit : Fun K "__init__" "Board.__init__" sCboard _ fd_Boardinit := He5.fun_of D_Boardinit
  have b_Boardinit := F_Boardinit.binds (ps := ["self", "image", "line"]) fun _ _ _ _ _ _ us hl => match us, hl with | [_, _, _], _ => rfl
  obtain ⟨fd_Countsinit, D_Countsinit⟩ := c.def_ 9 (d := d_Countsinit) rfl
  have F_Countsinit : Fun K "__init__" "Counts.__init__" sCcou _ fd_Countsinit := He5.fun_of D_Countsinit
  have b_Countsinit := F_Countsinit.binds (ps := ["self"]) fun _ _ _ _ _ _ us hl => match us, hl with | [_], _ => rfl
  obtain ⟨fd_Framesinit, D_Framesinit⟩ := c.def_ 10 (d := d_Framesinit) rfl
  have F_Framesinit : Fun K "__init__" "Frames.__init__" sCfra _ fd_Framesinit := He5.fun_of D_Framesinit
  have b_Framesinit := F_Framesinit.binds (ps := ["self"]) fun _ _ _ _ _ _ us hl => match us, hl with | [_], _ => rfl
  obtain ⟨fd_Historyinit, D_Historyinit⟩ := c.def_ 11 (d := d_Historyinit) rfl
  have F_Historyinit : Fun K "__init__" "History.__init__" sChis _ fd_Historyinit := He5.fun_of D_Historyinit
  have b_Historyinit := F_Historyinit.binds (ps := ["self"]) fun _ _ _ _ _ _ us hl => match us, hl with | [_], _ => rfl
  obtain ⟨fd_Marksinit, D_Marksinit⟩ := c.def_ 12 (d := d_Marksinit) rfl
  have F_Marksinit : Fun K "__init__" "Marks.__init__" sCmar _ fd_Marksinit := He5.fun_of D_Marksinit
  have b_Marksinit := F_Marksinit.binds (ps := ["self", "memory"]) fun _ _ _ _ _ _ us hl => match us, hl with | [_, _], _ => rfl
  obtain ⟨fd_Mishapsinit, D_Mishapsinit⟩ := c.def_ 13 (d := d_Mishapsinit) rfl
  have F_Mishapsinit : Fun K "__init__" "Mishaps.__init__" sCmis _ fd_Mishapsinit := He5.fun_of D_Mishapsinit
  have b_Mishapsinit := F_Mishapsinit.binds (ps := ["self"]) fun _ _ _ _ _ _ us hl => match us, hl with | [_], _ => rfl
  obtain ⟨fd_Standsinit, D_Standsinit⟩ := c.def_ 14 (d := d_Standsinit) rfl
  have F_Standsinit : Fun K "__init__" "Stands.__init__" sCsta _ fd_Standsinit := He5.fun_of D_Standsinit
  have b_Standsinit := F_Standsinit.binds (ps := ["self"]) fun _ _ _ _ _ _ us hl => match us, hl with | [_], _ => rfl
  obtain ⟨fd_Watchesinit, D_Watchesinit⟩ := c.def_ 15 (d := d_Watchesinit) rfl
  have F_Watchesinit : Fun K "__init__" "Watches.__init__" sCwat _ fd_Watchesinit := He5.fun_of D_Watchesinit
  have b_Watchesinit := F_Watchesinit.binds (ps := ["self"]) fun _ _ _ _ _ _ us hl => match us, hl with | [_], _ => rfl
  obtain ⟨fd_Probeinit, D_Probeinit⟩ := c.def_ 16 (d := d_Probeinit) rfl
  have F_Probeinit : Fun K "__init__" "Probe.__init__" sCprb _ fd_Probeinit := He5.fun_of D_Probeinit
  have b_Probeinit := F_Probeinit.binds (ps := ["self", "image", "line"]) fun _ _ _ _ _ _ us hl => match us, hl with | [_, _, _], _ => rfl
  obtain ⟨fd_lawcellat, D_lawcellat⟩ := c.def_ 17 (d := d_lawcellat) rfl
  have F_lawcellat : Fun K "_law_cell_at" "_law_cell_at" sLcell _ fd_lawcellat := He5.fun_of D_lawcellat
  have b_lawcellat := F_lawcellat.binds (ps := ["_law_script", "_law_k"]) fun _ _ _ _ _ _ us hl => match us, hl with | [_, _], _ => rfl
  obtain ⟨fd_lawdraw, D_lawdraw⟩ := c.def_ 18 (d := d_lawdraw) rfl
  have F_lawdraw : Fun K "_law_draw" "_law_draw" sLdraw _ fd_lawdraw := He5.fun_of D_lawdraw
  have b_lawdraw := F_lawdraw.binds (ps := ["_law_well_here", "_law_wide"]) fun _ _ _ _ _ _ us hl => match us, hl with | [_, _], _ => rfl
  obtain ⟨fd_lawone, D_lawone⟩ := c.def_ 19 (d := d_lawone) rfl
  have F_lawone : Fun K "_law_one" "_law_one" sLone _ fd_lawone := He5.fun_of D_lawone
  have b_lawone := F_lawone.binds (ps := ["_law_well_here", "_law_some"]) fun _ _ _ _ _ _ us hl => match us, hl with | [_, _], _ => rfl
  obtain ⟨fd_lawgivenback, D_lawgivenback⟩ := c.def_ 20 (d := d_lawgivenback) rfl
  have F_lawgivenback : Fun K "_law_given_back" "_law_given_back" sLgiv _ fd_lawgivenback := He5.fun_of D_lawgivenback
  have b_lawgivenback := F_lawgivenback.binds (ps := ["_law_p", "_law_addresses"]) fun _ _ _ _ _ _ us hl => match us, hl with | [_, _], _ => rfl
  obtain ⟨fd_lawownmark, D_lawownmark⟩ := c.def_ 21 (d := d_lawownmark) rfl
  have F_lawownmark : Fun K "_law_own_mark" "_law_own_mark" sLown _ fd_lawownmark := He5.fun_of D_lawownmark
  have b_lawownmark := F_lawownmark.binds (ps := ["_law_p", "_law_b", "_law_act"]) fun _ _ _ _ _ _ us hl => match us, hl with | [_, _, _], _ => rfl
  obtain ⟨fd_lawboard, D_lawboard⟩ := c.def_ 22 (d := d_lawboard) rfl
  have F_lawboard : Fun K "_law_board" "_law_board" sLbrd _ fd_lawboard := He5.fun_of D_lawboard
  have b_lawboard := F_lawboard.binds (ps := ["_law_image", "_law_line"]) fun _ _ _ _ _ _ us hl => match us, hl with | [_, _], _ => rfl
  obtain ⟨fd_lawprobe, D_lawprobe⟩ := c.def_ 23 (d := d_lawprobe) rfl
  have F_lawprobe : Fun K "_law_probe" "_law_probe" sLprb _ fd_lawprobe := He5.fun_of D_lawprobe
  have b_lawprobe := F_lawprobe.binds (ps := ["_law_image", "_law_line"]) fun _ _ _ _ _ _ us hl => match us, hl with | [_, _], _ => rfl
  obtain ⟨fd_Markswearpages, D_Markswearpages⟩ := c.def_ 24 (d := d_Markswearpages) rfl
  have F_Markswearpages : Fun K "wear_pages" "Marks.wear_pages" sMwearP _ fd_Markswearpages := He5.fun_of D_Markswearpages
  have b_Markswearpages := F_Markswearpages.binds (ps := ["self", "addresses"]) fun _ _ _ _ _ _ us hl => match us, hl with | [_, _], _ => rfl
  obtain ⟨fd_Marksliftall, D_Marksliftall⟩ := c.def_ 25 (d := d_Marksliftall) rfl
  have F_Marksliftall : Fun K "lift_all" "Marks.lift_all" sMlftA _ fd_Marksliftall := He5.fun_of D_Marksliftall
  have b_Marksliftall := F_Marksliftall.binds (ps := ["self"]) fun _ _ _ _ _ _ us hl => match us, hl with | [_], _ => rfl
  obtain ⟨fd_Probeclearmarks, D_Probeclearmarks⟩ := c.def_ 26 (d := d_Probeclearmarks) rfl
  have F_Probeclearmarks : Fun K "clear_marks" "Probe.clear_marks" sMclrA _ fd_Probeclearmarks := He5.fun_of D_Probeclearmarks
  have b_Probeclearmarks := F_Probeclearmarks.binds (ps := ["self"]) fun _ _ _ _ _ _ us hl => match us, hl with | [_], _ => rfl
  obtain ⟨fd_Marksstandsat, D_Marksstandsat⟩ := c.def_ 27 (d := d_Marksstandsat) rfl
  have F_Marksstandsat : Fun K "stands_at" "Marks.stands_at" sMsta _ fd_Marksstandsat := He5.fun_of D_Marksstandsat
  have b_Marksstandsat := F_Marksstandsat.binds (ps := ["self", "address"]) fun _ _ _ _ _ _ us hl => match us, hl with | [_, _], _ => rfl
  obtain ⟨fd_Markslay, D_Markslay⟩ := c.def_ 28 (d := d_Markslay) rfl
  have F_Markslay : Fun K "lay" "Marks.lay" sMlayX _ fd_Markslay := He5.fun_of D_Markslay
  have b_Markslay := F_Markslay.binds (ps := ["self", "address", "hard"]) fun _ _ _ _ _ _ us hl => match us, hl with | [_, _, _], _ => rfl
  obtain ⟨fd_Probemark, D_Probemark⟩ := c.def_ 29 (d := d_Probemark) rfl
  have F_Probemark : Fun K "mark" "Probe.mark" sMmarkX _ fd_Probemark := He5.fun_of D_Probemark
  have b_Probemark := F_Probemark.binds (ps := ["self", "address", "hard"]) fun _ _ _ _ _ _ us hl => match us, hl with | [_, _, _], _ => rfl
  obtain ⟨fd_Markslift, D_Markslift⟩ := c.def_ 30 (d := d_Markslift) rfl
  have F_Markslift : Fun K "lift" "Marks.lift" sMliftX _ fd_Markslift := He5.fun_of D_Markslift
  have b_Markslift := F_Markslift.binds (ps := ["self", "address"]) fun _ _ _ _ _ _ us hl => match us, hl with | [_, _], _ => rfl
  obtain ⟨fd_Probeunmark, D_Probeunmark⟩ := c.def_ 31 (d := d_Probeunmark) rfl
  have F_Probeunmark : Fun K "unmark" "Probe.unmark" sMunmX _ fd_Probeunmark := He5.fun_of D_Probeunmark
  have b_Probeunmark := F_Probeunmark.binds (ps := ["self", "address"]) fun _ _ _ _ _ _ us hl => match us, hl with | [_, _], _ => rfl
  obtain ⟨fd_lawasked, D_lawasked⟩ := c.def_ 32 (d := d_lawasked) rfl
  have F_lawasked : Fun K "_law_asked" "_law_asked" sLask _ fd_lawasked := He5.fun_of D_lawasked
  have b_lawasked := F_lawasked.binds (ps := ["_law_probe_here", "_law_act"]) fun _ _ _ _ _ _ us hl => match us, hl with | [_, _], _ => rfl
  obtain ⟨fd_lawsaid, D_lawsaid⟩ := c.def_ 33 (d := d_lawsaid) rfl
  have F_lawsaid : Fun K "_law_said" "_law_said" sLsaid _ fd_lawsaid := He5.fun_of D_lawsaid
  have b_lawsaid := F_lawsaid.binds (ps := ["_law_probe_here", "_law_act"]) fun _ _ _ _ _ _ us hl => match us, hl with | [_, _], _ => rfl
  obtain ⟨fd_lawshown, D_lawshown⟩ := c.def_ 34 (d := d_lawshown) rfl
  have F_lawshown : Fun K "_law_shown" "_law_shown" sLshown _ fd_lawshown := He5.fun_of D_lawshown
  have b_lawshown := F_lawshown.binds (ps := ["_law_p"]) fun _ _ _ _ _ _ us hl => match us, hl with | [_], _ => rfl
  obtain ⟨fd_Memorywordat, D_Memorywordat⟩ := c.def_ 35 (d := d_Memorywordat) rfl
  have F_Memorywordat : Fun K "word_at" "Memory.word_at" sMat _ fd_Memorywordat := He5.fun_of D_Memorywordat
  have b_Memorywordat := F_Memorywordat.binds (ps := ["self", "address"]) fun _ _ _ _ _ _ us hl => match us, hl with | [_, _], _ => rfl
  obtain ⟨fd_Probelook, D_Probelook⟩ := c.def_ 36 (d := d_Probelook) rfl
  have F_Probelook : Fun K "look" "Probe.look" sMlook _ fd_Probelook := He5.fun_of D_Probelook
  have b_Probelook := F_Probelook.binds (ps := ["self", "address", "many"]) fun _ _ _ _ _ _ us hl => match us, hl with | [_, _, _], _ => rfl
  obtain ⟨fd_Markstold, D_Markstold⟩ := c.def_ 37 (d := d_Markstold) rfl
  have F_Markstold : Fun K "told" "Marks.told" sMtolM _ fd_Markstold := He5.fun_of D_Markstold
  have b_Markstold := F_Markstold.binds (ps := ["self"]) fun _ _ _ _ _ _ us hl => match us, hl with | [_], _ => rfl
  obtain ⟨fd_Probemarks, D_Probemarks⟩ := c.def_ 38 (d := d_Probemarks) rfl
  have F_Probemarks : Fun K "marks" "Probe.marks" sMmks _ fd_Probemarks := He5.fun_of D_Probemarks
  have b_Probemarks := F_Probemarks.binds (ps := ["self"]) fun _ _ _ _ _ _ us hl => match us, hl with | [_], _ => rfl
  obtain ⟨fd_Probeout, D_Probeout⟩ := c.def_ 39 (d := d_Probeout) rfl
  have F_Probeout : Fun K "out" "Probe.out" sMout _ fd_Probeout := He5.fun_of D_Probeout
  have b_Probeout := F_Probeout.binds (ps := ["self"]) fun _ _ _ _ _ _ us hl => match us, hl with | [_], _ => rfl
  obtain ⟨fd_Proberegisterof, D_Proberegisterof⟩ := c.def_ 40 (d := d_Proberegisterof) rfl
  have F_Proberegisterof : Fun K "register_of" "Probe.register_of" sMreg _ fd_Proberegisterof := He5.fun_of D_Proberegisterof
  have b_Proberegisterof := F_Proberegisterof.binds (ps := ["self", "name"]) fun _ _ _ _ _ _ us hl => match us, hl with | [_, _], _ => rfl
  obtain ⟨fd_Probestoptold, D_Probestoptold⟩ := c.def_ 41 (d := d_Probestoptold) rfl
  have F_Probestoptold : Fun K "stop_told" "Probe.stop_told" sMstp _ fd_Probestoptold := He5.fun_of D_Probestoptold
  have b_Probestoptold := F_Probestoptold.binds (ps := ["self"]) fun _ _ _ _ _ _ us hl => match us, hl with | [_], _ => rfl
  obtain ⟨fd_Probeturns, D_Probeturns⟩ := c.def_ 42 (d := d_Probeturns) rfl
  have F_Probeturns : Fun K "turns" "Probe.turns" sMtns _ fd_Probeturns := He5.fun_of D_Probeturns
  have b_Probeturns := F_Probeturns.binds (ps := ["self"]) fun _ _ _ _ _ _ us hl => match us, hl with | [_], _ => rfl
  obtain ⟨fd_Probewear, D_Probewear⟩ := c.def_ 43 (d := d_Probewear) rfl
  have F_Probewear : Fun K "wear" "Probe.wear" sMwer _ fd_Probewear := He5.fun_of D_Probewear
  have b_Probewear := F_Probewear.binds (ps := ["self"]) fun _ _ _ _ _ _ us hl => match us, hl with | [_], _ => rfl
  obtain ⟨fd_Probewatches, D_Probewatches⟩ := c.def_ 44 (d := d_Probewatches) rfl
  have F_Probewatches : Fun K "watches" "Probe.watches" sMwts _ fd_Probewatches := He5.fun_of D_Probewatches
  have b_Probewatches := F_Probewatches.binds (ps := ["self"]) fun _ _ _ _ _ _ us hl => match us, hl with | [_], _ => rfl
  obtain ⟨fd_lawtold, D_lawtold⟩ := c.def_ 45 (d := d_lawtold) rfl
  have F_lawtold : Fun K "_law_told" "_law_told" sLtold _ fd_lawtold := He5.fun_of D_lawtold
  have b_lawtold := F_lawtold.binds (ps := ["_law_probe_here"]) fun _ _ _ _ _ _ us hl => match us, hl with | [_], _ => rfl
  obtain ⟨fd_lawwell, D_lawwell⟩ := c.def_ 46 (d := d_lawwell) rfl
  have F_lawwell : Fun K "_law_well" "_law_well" sLwell _ fd_lawwell := He5.fun_of D_lawwell
  have b_lawwell := F_lawwell.binds (ps := ["_law_cell"]) fun _ _ _ _ _ _ us hl => match us, hl with | [_], _ => rfl
  obtain ⟨fd_law, D_law⟩ := c.def_ 47 (d := d_law) rfl
  have F_law : Fun K "law" "law" sLaw _ fd_law := He5.fun_of D_law
  refine ⟨fd_law, fun s v => (FunD.bindsA (ps := ["_law_script"]) D_law fun _ _ _ _ _ _ us hl => match us, hl with | [_], _ => rfl) s [v] rfl, fun base _ _ => ?_⟩
  have X_C_mem : CalC l.prog w K mg base (He.ga K "Memory") 1 "Memory" ["self", "image"] (spMI (He.ga K "Memory")) _ _ := ⟨He.mkr_ok (c.fact 110 (f := .mkr "Memory") rfl), (He.glo_ok X G (c.fact 111 (f := .glo "Memory") rfl)), b_Memoryinit, ok_Cmem F_Memoryinit Tb⟩
  have X_F_first : CalF l.prog w K mg base 1 "first_registers" [] (spFirst) _ _ := ⟨(He.glo_ok X G (c.fact 112 (f := .glo "first_registers") rfl)), F_firstregisters.kp, b_firstregisters, ok_Ffirst F_firstregisters Tb⟩
  have X_F_whole : CalF l.prog w K mg base 1 "is_whole" ["thing"] (spWhole) _ _ := ⟨(He.glo_ok X G (c.fact 113 (f := .glo "is_whole") rfl)), F_iswhole.kp, b_iswhole, ok_Fwhole F_iswhole Tb⟩
  have X_F_betw : CalF l.prog w K mg base 2 "is_between" ["thing", "least", "greatest"] (spBetw) _ _ := ⟨(He.glo_ok X G (c.fact 114 (f := .glo "is_between") rfl)), F_isbetween.kp, b_isbetween, ok_Fbetw F_isbetween Tb X_F_whole⟩
  have X_F_word : CalF l.prog w K mg base 3 "is_word" ["thing"] (spWord) _ _ := ⟨(He.glo_ok X G (c.fact 115 (f := .glo "is_word") rfl)), F_isword.kp, b_isword, ok_Fword F_isword Tb X_F_betw⟩
  have X_F_image : CalF l.prog w K mg base 4 "is_image" ["thing"] (spImg) _ _ := ⟨(He.glo_ok X G (c.fact 116 (f := .glo "is_image") rfl)), F_isimage.kp, b_isimage, ok_Fimage F_isimage Tb X_F_word⟩
  have X_F_lrow : CalF l.prog w K mg base 3 "is_line_row" ["row", "last"] (spLRow) _ _ := ⟨(He.glo_ok X G (c.fact 117 (f := .glo "is_line_row") rfl)), F_islinerow.kp, b_islinerow, ok_Flrow F_islinerow Tb X_F_betw X_F_whole⟩
  have X_F_line : CalF l.prog w K mg base 4 "is_line" ["thing"] (spLine) _ _ := ⟨(He.glo_ok X G (c.fact 118 (f := .glo "is_line") rfl)), F_isline.kp, b_isline, ok_Fline F_isline Tb X_F_lrow⟩
  have X_C_board : CalC l.prog w K mg base (He.ga K "Board") 6 "Board" ["self", "image", "line"] (spBI (He.ga K "Board") (He.ga K "Memory")) _ _ := ⟨He.mkr_ok (c.fact 119 (f := .mkr "Board") rfl), (He.glo_ok X G (c.fact 120 (f := .glo "Board") rfl)), b_Boardinit, ok_Cboard F_Boardinit Tb X_C_mem X_F_first X_F_image X_F_line⟩
  have X_C_cou : CalC l.prog w K mg base (He.ga K "Counts") 1 "Counts" ["self"] (spMkC (He.ga K "Counts")) _ _ := ⟨He.mkr_ok (c.fact 121 (f := .mkr "Counts") rfl), (He.glo_ok X G (c.fact 122 (f := .glo "Counts") rfl)), b_Countsinit, ok_Ccou F_Countsinit T⟩
  have X_C_fra : CalC l.prog w K mg base (He.ga K "Frames") 1 "Frames" ["self"] (spMkF (He.ga K "Frames")) _ _ := ⟨He.mkr_ok (c.fact 123 (f := .mkr "Frames") rfl), (He.glo_ok X G (c.fact 124 (f := .glo "Frames") rfl)), b_Framesinit, ok_Cfra F_Framesinit T⟩
  have X_C_his : CalC l.prog w K mg base (He.ga K "History") 1 "History" ["self"] (spMkH (He.ga K "History")) _ _ := ⟨He.mkr_ok (c.fact 125 (f := .mkr "History") rfl), (He.glo_ok X G (c.fact 126 (f := .glo "History") rfl)), b_Historyinit, ok_Chis F_Historyinit T⟩
  have X_C_mar : CalC l.prog w K mg base (He.ga K "Marks") 1 "Marks" ["self", "memory"] (spMkK (He.ga K "Marks")) _ _ := ⟨He.mkr_ok (c.fact 127 (f := .mkr "Marks") rfl), (He.glo_ok X G (c.fact 128 (f := .glo "Marks") rfl)), b_Marksinit, ok_Cmar F_Marksinit T⟩
  have X_C_mis : CalC l.prog w K mg base (He.ga K "Mishaps") 1 "Mishaps" ["self"] (spMkI (He.ga K "Mishaps")) _ _ := ⟨He.mkr_ok (c.fact 129 (f := .mkr "Mishaps") rfl), (He.glo_ok X G (c.fact 130 (f := .glo "Mishaps") rfl)), b_Mishapsinit, ok_Cmis F_Mishapsinit T⟩
  have X_C_sta : CalC l.prog w K mg base (He.ga K "Stands") 1 "Stands" ["self"] (spMade (He.ga K "Stands")) _ _ := ⟨He.mkr_ok (c.fact 131 (f := .mkr "Stands") rfl), (He.glo_ok X G (c.fact 132 (f := .glo "Stands") rfl)), b_Standsinit, ok_Csta F_Standsinit T⟩
  have X_C_wat : CalC l.prog w K mg base (He.ga K "Watches") 1 "Watches" ["self"] (spMkW (He.ga K "Watches")) _ _ := ⟨He.mkr_ok (c.fact 133 (f := .mkr "Watches") rfl), (He.glo_ok X G (c.fact 134 (f := .glo "Watches") rfl)), b_Watchesinit, ok_Cwat F_Watchesinit T⟩
  have X_C_prb : CalC l.prog w K mg base (He.ga K "Probe") 8 "Probe" ["self", "image", "line"] (spPrI (He.ga K "Board") (He.ga K "Memory") (He.ga K "Probe") (He.ga K "Marks") (He.ga K "Watches") (He.ga K "Frames") (He.ga K "History") (He.ga K "Counts") (He.ga K "Mishaps")) _ _ := ⟨He.mkr_ok (c.fact 135 (f := .mkr "Probe") rfl), (He.glo_ok X G (c.fact 136 (f := .glo "Probe") rfl)), b_Probeinit, ok_Cprb F_Probeinit T X_C_board X_C_cou X_C_fra X_C_his X_C_mar X_C_mis X_C_sta X_C_wat⟩
  have X_L_cell : CalF l.prog w K mg base 1 "_law_cell_at" ["_law_script", "_law_k"] (spCellAt K) _ _ := ⟨(He.glo_ok X G (c.fact 137 (f := .glo "_law_cell_at") rfl)), F_lawcellat.kp, b_lawcellat, ok_Lcell F_lawcellat T⟩
  have X_L_draw : CalF l.prog w K mg base 1 "_law_draw" ["_law_well_here", "_law_wide"] (spDraw) _ _ := ⟨(He.glo_ok X G (c.fact 138 (f := .glo "_law_draw") rfl)), F_lawdraw.kp, b_lawdraw, ok_Ldraw F_lawdraw T⟩
  have X_L_one : CalF l.prog w K mg base 2 "_law_one" ["_law_well_here", "_law_some"] (spOne) _ _ := ⟨(He.glo_ok X G (c.fact 139 (f := .glo "_law_one") rfl)), F_lawone.kp, b_lawone, ok_Lone F_lawone T X_L_draw⟩
  have X_L_giv : CalF l.prog w K mg base 1 "_law_given_back" ["_law_p", "_law_addresses"] (spGiv) _ _ := ⟨(He.glo_ok X G (c.fact 140 (f := .glo "_law_given_back") rfl)), F_lawgivenback.kp, b_lawgivenback, ok_Lgiv F_lawgivenback T⟩
  have X_L_own : CalF l.prog w K mg base 2 "_law_own_mark" ["_law_p", "_law_b", "_law_act"] (spLOwn) _ _ := ⟨(He.glo_ok X G (c.fact 141 (f := .glo "_law_own_mark") rfl)), F_lawownmark.kp, b_lawownmark, ok_Lown F_lawownmark T X_L_giv⟩
  have X_L_brd : CalF l.prog w K mg base 1 "_law_board" ["_law_image", "_law_line"] (spLBrd) _ _ := ⟨(He.glo_ok X G (c.fact 143 (f := .glo "_law_board") rfl)), F_lawboard.kp, b_lawboard, ok_Lbrd F_lawboard T (He.free_ok X G (c.fact 142 (f := .free "dict") rfl))⟩
  have X_L_prb : CalF l.prog w K mg base 2 "_law_probe" ["_law_image", "_law_line"] (spLPrb) _ _ := ⟨(He.glo_ok X G (c.fact 144 (f := .glo "_law_probe") rfl)), F_lawprobe.kp, b_lawprobe, ok_Lprb F_lawprobe T X_L_brd⟩
  have X_M_wearP : CalM l.prog w K mg base (He.ga K "Marks") 1 "wear_pages" ["self", "addresses"] (spWearP (He.ga K "Marks")) _ _ := ⟨(He.cls_ok (c.fact 65 (f := .cls "Marks") rfl)), He.meth_ok (c.fact 146 (f := .meth "Marks" "wear_pages") rfl), b_Markswearpages, ok_MwearP F_Markswearpages T TK (He.free_ok X G (c.fact 145 (f := .free "sorted") rfl))⟩
  have X_M_lftA : CalM l.prog w K mg base (He.ga K "Marks") 2 "lift_all" ["self"] (spLftAll (He.ga K "Board") (He.ga K "Memory") (He.ga K "Probe") (He.ga K "Marks") (He.ga K "Watches") (He.ga K "Frames") (He.ga K "History") (He.ga K "Counts") (He.ga K "Mishaps")) _ _ := ⟨(He.cls_ok (c.fact 65 (f := .cls "Marks") rfl)), He.meth_ok (c.fact 147 (f := .meth "Marks" "lift_all") rfl), b_Marksliftall, ok_MlftA F_Marksliftall T X_M_wearP⟩
  have X_M_clrA : CalM l.prog w K mg base (He.ga K "Probe") 3 "clear_marks" ["self"] (spClrA (He.ga K "Board") (He.ga K "Memory") (He.ga K "Probe") (He.ga K "Marks") (He.ga K "Watches") (He.ga K "Frames") (He.ga K "History") (He.ga K "Counts") (He.ga K "Mishaps")) _ _ := ⟨(He.cls_ok (c.fact 54 (f := .cls "Probe") rfl)), He.meth_ok (c.fact 148 (f := .meth "Probe" "clear_marks") rfl), b_Probeclearmarks, ok_MclrA F_Probeclearmarks T X_M_lftA⟩
  have X_M_sta : CalM l.prog w K mg base (He.ga K "Marks") 1 "stands_at" ["self", "address"] (spSta (He.ga K "Marks") (He.ga K "Memory")) _ _ := ⟨(He.cls_ok (c.fact 65 (f := .cls "Marks") rfl)), He.meth_ok (c.fact 149 (f := .meth "Marks" "stands_at") rfl), b_Marksstandsat, ok_Msta F_Marksstandsat T⟩
  have X_M_layX : CalX l.prog w K mg base (He.ga K "Marks") 3 "lay" ["self", "address", "hard"] (spLayX (He.ga K "Marks") (He.ga K "Memory") (He.ga K "NoWord") (He.ga K "Taken") (He.ga K "TooMany")) _ _ := ⟨(He.cls_ok (c.fact 65 (f := .cls "Marks") rfl)), He.meth_ok (c.fact 150 (f := .meth "Marks" "lay") rfl), b_Markslay, ok_MlayX F_Markslay T X_F_betw X_M_sta TM TK⟩
  have X_M_markX : CalX l.prog w K mg base (He.ga K "Probe") 4 "mark" ["self", "address", "hard"] (spMarkX (He.ga K "Board") (He.ga K "Memory") (He.ga K "Probe") (He.ga K "Marks") (He.ga K "Watches") (He.ga K "Frames") (He.ga K "History") (He.ga K "Counts") (He.ga K "Mishaps") (He.ga K "NoWord") (He.ga K "Taken") (He.ga K "TooMany")) _ _ := ⟨(He.cls_ok (c.fact 54 (f := .cls "Probe") rfl)), He.meth_ok (c.fact 151 (f := .meth "Probe" "mark") rfl), b_Probemark, ok_MmarkX F_Probemark T X_M_layX TM⟩
  have X_M_liftX : CalX l.prog w K mg base (He.ga K "Marks") 3 "lift" ["self", "address"] (spLiftX (He.ga K "Board") (He.ga K "Memory") (He.ga K "Probe") (He.ga K "Marks") (He.ga K "Watches") (He.ga K "Frames") (He.ga K "History") (He.ga K "Counts") (He.ga K "Mishaps") (He.ga K "NoMark")) _ _ := ⟨(He.cls_ok (c.fact 65 (f := .cls "Marks") rfl)), He.meth_ok (c.fact 152 (f := .meth "Marks" "lift") rfl), b_Markslift, ok_MliftX F_Markslift T X_F_whole X_M_sta X_M_wearP TM⟩
  have X_M_unmX : CalX l.prog w K mg base (He.ga K "Probe") 4 "unmark" ["self", "address"] (spUnmX (He.ga K "Board") (He.ga K "Memory") (He.ga K "Probe") (He.ga K "Marks") (He.ga K "Watches") (He.ga K "Frames") (He.ga K "History") (He.ga K "Counts") (He.ga K "Mishaps") (He.ga K "NoMark")) _ _ := ⟨(He.cls_ok (c.fact 54 (f := .cls "Probe") rfl)), He.meth_ok (c.fact 153 (f := .meth "Probe" "unmark") rfl), b_Probeunmark, ok_MunmX F_Probeunmark T X_M_liftX TM⟩
  have Y_L_ask : FnOk l.prog w K mg base (L2.CX l.prog w) 5 _ _ ["_law_probe_here", "_law_act"] (spLAsk (He.ga K "Board") (He.ga K "Memory") (He.ga K "Probe") (He.ga K "Marks") (He.ga K "Watches") (He.ga K "Frames") (He.ga K "History") (He.ga K "Counts") (He.ga K "Mishaps") (He.ga K "NoWord") (He.ga K "NoMark") (He.ga K "Taken") (He.ga K "TooMany")) := ok_Lask F_lawasked T X_M_clrA X_M_markX X_M_unmX
  have X_L_said : CalF l.prog w K mg base 6 "_law_said" ["_law_probe_here", "_law_act"] (spLSaid (He.ga K "Board") (He.ga K "Memory") (He.ga K "Probe") (He.ga K "Marks") (He.ga K "Watches") (He.ga K "Frames") (He.ga K "History") (He.ga K "Counts") (He.ga K "Mishaps")) _ _ := ⟨(He.glo_ok X G (c.fact 155 (f := .glo "_law_said") rfl)), F_lawsaid.kp, b_lawsaid, ok_Lsaid F_lawsaid T TM TG (He.glo_ok X G (c.fact 154 (f := .glo "_law_asked") rfl)) F_lawasked.kp b_lawasked Y_L_ask⟩
  have X_L_shown : CalF l.prog w K mg base 1 "_law_shown" ["_law_p"] (spLShown K) _ _ := ⟨(He.glo_ok X G (c.fact 156 (f := .glo "_law_shown") rfl)), F_lawshown.kp, b_lawshown, ok_Lshown F_lawshown T (He.free_ok X G (c.fact 145 (f := .free "sorted") rfl))⟩
  have X_M_at : CalM l.prog w K mg base (He.ga K "Memory") 1 "word_at" ["self", "address"] (spMAt (He.ga K "Memory")) _ _ := ⟨(He.cls_ok (c.fact 33 (f := .cls "Memory") rfl)), He.meth_ok (c.fact 157 (f := .meth "Memory" "word_at") rfl), b_Memorywordat, ok_Mat F_Memorywordat Tb⟩
  have X_M_look : CalM l.prog w K mg base (He.ga K "Probe") 3 "look" ["self", "address", "many"] (spLook (He.ga K "Board") (He.ga K "Memory") (He.ga K "Probe") (He.ga K "Marks") (He.ga K "Watches") (He.ga K "Frames") (He.ga K "History") (He.ga K "Counts") (He.ga K "Mishaps")) _ _ := ⟨(He.cls_ok (c.fact 54 (f := .cls "Probe") rfl)), He.meth_ok (c.fact 158 (f := .meth "Probe" "look") rfl), b_Probelook, ok_Mlook F_Probelook T X_F_betw X_M_at⟩
  have X_M_tolM : CalM l.prog w K mg base (He.ga K "Marks") 1 "told" ["self"] (spTolM (He.ga K "Marks") (He.ga K "Memory")) _ _ := ⟨(He.cls_ok (c.fact 65 (f := .cls "Marks") rfl)), He.meth_ok (c.fact 159 (f := .meth "Marks" "told") rfl), b_Markstold, ok_MtolM F_Markstold T (He.free_ok X G (c.fact 145 (f := .free "sorted") rfl))⟩
  have X_M_mks : CalM l.prog w K mg base (He.ga K "Probe") 2 "marks" ["self"] (spMks (He.ga K "Board") (He.ga K "Memory") (He.ga K "Probe") (He.ga K "Marks") (He.ga K "Watches") (He.ga K "Frames") (He.ga K "History") (He.ga K "Counts") (He.ga K "Mishaps")) _ _ := ⟨(He.cls_ok (c.fact 54 (f := .cls "Probe") rfl)), He.meth_ok (c.fact 160 (f := .meth "Probe" "marks") rfl), b_Probemarks, ok_Mmks F_Probemarks T X_M_tolM⟩
  have X_M_out : CalM l.prog w K mg base (He.ga K "Probe") 1 "out" ["self"] (spOut (He.ga K "Board") (He.ga K "Memory") (He.ga K "Probe") (He.ga K "Marks") (He.ga K "Watches") (He.ga K "Frames") (He.ga K "History") (He.ga K "Counts") (He.ga K "Mishaps")) _ _ := ⟨(He.cls_ok (c.fact 54 (f := .cls "Probe") rfl)), He.meth_ok (c.fact 161 (f := .meth "Probe" "out") rfl), b_Probeout, ok_Mout F_Probeout T⟩
  have X_M_reg : CalM l.prog w K mg base (He.ga K "Probe") 1 "register_of" ["self", "name"] (spReg (He.ga K "Board") (He.ga K "Memory") (He.ga K "Probe") (He.ga K "Marks") (He.ga K "Watches") (He.ga K "Frames") (He.ga K "History") (He.ga K "Counts") (He.ga K "Mishaps")) _ _ := ⟨(He.cls_ok (c.fact 54 (f := .cls "Probe") rfl)), He.meth_ok (c.fact 162 (f := .meth "Probe" "register_of") rfl), b_Proberegisterof, ok_Mreg F_Proberegisterof T TR⟩
  have X_M_stp : CalM l.prog w K mg base (He.ga K "Probe") 1 "stop_told" ["self"] (spStp (He.ga K "Board") (He.ga K "Memory") (He.ga K "Probe") (He.ga K "Marks") (He.ga K "Watches") (He.ga K "Frames") (He.ga K "History") (He.ga K "Counts") (He.ga K "Mishaps")) _ _ := ⟨(He.cls_ok (c.fact 54 (f := .cls "Probe") rfl)), He.meth_ok (c.fact 163 (f := .meth "Probe" "stop_told") rfl), b_Probestoptold, ok_Mstp F_Probestoptold T⟩
  have X_M_tns : CalM l.prog w K mg base (He.ga K "Probe") 1 "turns" ["self"] (spTurns (He.ga K "Board") (He.ga K "Memory") (He.ga K "Probe") (He.ga K "Marks") (He.ga K "Watches") (He.ga K "Frames") (He.ga K "History") (He.ga K "Counts") (He.ga K "Mishaps")) _ _ := ⟨(He.cls_ok (c.fact 54 (f := .cls "Probe") rfl)), He.meth_ok (c.fact 164 (f := .meth "Probe" "turns") rfl), b_Probeturns, ok_Mtns F_Probeturns T⟩
  have X_M_wer : CalM l.prog w K mg base (He.ga K "Probe") 1 "wear" ["self"] (spWer (He.ga K "Board") (He.ga K "Memory") (He.ga K "Probe") (He.ga K "Marks") (He.ga K "Watches") (He.ga K "Frames") (He.ga K "History") (He.ga K "Counts") (He.ga K "Mishaps")) _ _ := ⟨(He.cls_ok (c.fact 54 (f := .cls "Probe") rfl)), He.meth_ok (c.fact 165 (f := .meth "Probe" "wear") rfl), b_Probewear, ok_Mwer F_Probewear T⟩
  have X_M_wts : CalM l.prog w K mg base (He.ga K "Probe") 1 "watches" ["self"] (spWts (He.ga K "Board") (He.ga K "Memory") (He.ga K "Probe") (He.ga K "Marks") (He.ga K "Watches") (He.ga K "Frames") (He.ga K "History") (He.ga K "Counts") (He.ga K "Mishaps")) _ _ := ⟨(He.cls_ok (c.fact 54 (f := .cls "Probe") rfl)), He.meth_ok (c.fact 166 (f := .meth "Probe" "watches") rfl), b_Probewatches, ok_Mwts F_Probewatches T⟩
  have X_L_told : CalF l.prog w K mg base 4 "_law_told" ["_law_probe_here"] (spLTold K (He.ga K "Board") (He.ga K "Memory") (He.ga K "Probe") (He.ga K "Marks") (He.ga K "Watches") (He.ga K "Frames") (He.ga K "History") (He.ga K "Counts") (He.ga K "Mishaps")) _ _ := ⟨(He.glo_ok X G (c.fact 167 (f := .glo "_law_told") rfl)), F_lawtold.kp, b_lawtold, ok_Ltold F_lawtold T X_M_look X_M_mks X_M_out X_M_reg X_M_stp X_M_tns X_M_wer X_M_wts⟩
  have X_L_well : CalF l.prog w K mg base 1 "_law_well" ["_law_cell"] (spWell) _ _ := ⟨(He.glo_ok X G (c.fact 168 (f := .glo "_law_well") rfl)), F_lawwell.kp, b_lawwell, ok_Lwell F_lawwell T⟩
  exact ok_Llaw F_law T X_C_prb X_L_cell X_L_draw X_L_one X_L_own X_L_prb X_L_said X_L_shown X_L_told X_L_well
end Bh
open PySem PySem.W PySem.Calls PyProof.Rows
set_option maxRecDepth 100000 in
set_option maxHeartbeats 0 in
theorem PySem.Challenge.cw_boardheld_k33_pages_written_anew_holds : PySem.Challenge.rw_boardheld_k33_pages_written_anew.Holds := by
  w_on; o_law
  refine HandSHeadRun.head_any (r := Bh.RR) (q := Bh.qV) (H := Bh.hkH) (ob := Bh.obL) (M := 10000) (loose := Bh.looseL) (d := HandSHeadRun.topDef Bh.RR.prog 111) (kwd := []) Bh.obL_eq
    (by kernel_rfl) (fun s => by kernel_rfl) Bh.run (by kernel_rfl) (by kernel_rfl) (by kernel_rfl) (by rfl) (by first | assumption | decide +kernel) (by decide +kernel) ⟨rfl, rfl, rfl, rfl, rfl, by decide +kernel⟩ ?hw ?hc
  case hw => w_witness2
  case hc =>
    refine L2.walk_ofE (l := PySem.Challenge.rw_boardheld_k33_pages_written_anew) (n := 63) (k := 12) (x := "_law_script") (CX := L2.CX0) rfl (by decide) (by kernel_rfl) ⟨rfl, by decide, by decide⟩ ?F (fun _ _ _ _ z => z)
    intro w mg fa h Y G hmg0
    obtain ⟨K, KX, c⟩ := Y
    have hmg : mg ("law" : PySem.Str) = some (.ref fa) := by
      have e : (HandSHeadRun.topDef Bh.RR.prog 111).name = ("law" : PySem.Str) := by kernel_rfl
      rw [← e]
      exact hmg0
    obtain ⟨fd, hb, hF⟩ := Bh.all_mk (l := PySem.Challenge.rw_boardheld_k33_pages_written_anew) (w := w) KX G hmg c
    exact ⟨K, fd, Bh.spLaw K, KX, hb, fun H a ns hl _ hS => ⟨a, ns, rfl, hS, hl, fun _ => rfl⟩, hF⟩

