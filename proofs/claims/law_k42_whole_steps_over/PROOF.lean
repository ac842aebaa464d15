import PyProof.Rows.All
import Wide.All
import OpenK.AllK
import Wide.FinOn
import HandS.ForMost
import HandS.IsInst
import HandS.ForExc
import HandS.CallLocal
import HandS.More
import PySem.Challenge.RW_boardheld_k42_whole_steps_over
import HandS.HeadEnd
import HandS.HeadHook3
import HandS.HeadNt
import HandS.Head2
import KE.BitLaws
import HandS.Iter
import HandS.Flow
import HandS.Defaults
import HandS.Wide
import KE.DataEq
import HandS.Style
import HandS.StrMore
set_option Elab.async false
set_option linter.all false
set_option maxRecDepth 100000
set_option maxHeartbeats 4000000
/-! What the top has written, read off its run; the head. -/
namespace Bh
open PySem PySem.Spec PyProof.Rows L2 PySem.W
def topR (i : Nat) : Stmt := PySem.Challenge.pw_boardheld_k42_whole_steps_over.main.body.getD i (.Pass ⟨0, 0, 0, 0⟩)
/-- a fragment told by addresses, handed on whole -/
def gath {α : Type} (g : Addr → Option Obj) : List Addr → (PySem.W.Frag → α) → α
  | [], k => k []
  | a :: r, k => match g a with
    | some o => gath g r fun K => k ((a, o) :: K)
    | none => gath g r k
theorem gath_eq {α : Type} (g : Addr → Option Obj) : ∀ (as : List Addr) (k : PySem.W.Frag → α), gath g as k = k (He.frG g as)
  | [], k => rfl
  | a :: r, k => by
    unfold gath He.frG
    rw [List.filterMap_cons]
    cases e : g a with
    | none => exact gath_eq g r k
    | some o => exact gath_eq g r _
abbrev AlH : Type := He.AlT × List Bool
def obsH (fa : List He.Fa) (fn : List He.DefD) (ts : List He.Tab) (xl : PySem.W.Frag → List Bool) (K : PySem.W.Frag) : AlH := (He.obsT fa fn ts K, xl K)
def SaysH (fa : List He.Fa) (fn : List He.DefD) (ts : List He.Tab) (xl : PySem.W.Frag → List Bool) (nx : Nat) (w : World) (K : PySem.W.Frag) : Prop := obsH fa fn ts xl K = (He.valT fn ts w, List.replicate nx true)
def hookH (as : List Addr) (fa : List He.Fa) (fn : List He.DefD) (ts : List He.Tab) (xl : PySem.W.Frag → List Bool) (nx : Nat) : PySem.W.Hook where
  α := AlH
  obs := fun s => gath s.heap.get? as (obsH fa fn ts xl)
  val := fun w => (He.valT fn ts w, List.replicate nx true)
  says := fun w h => ∃ K : PySem.W.Frag, K.In h ∧ SaysH fa fn ts xl nx w K
  of := fun _ _ e => ⟨_, He.frG_in, by
    rw [gath_eq] at e
    exact e⟩
  keeps := fun _ _ _ ⟨K, hK, c⟩ k => ⟨K, PySem.W.Frag.In.keeps hK k, c⟩
section
variable {fa : List He.Fa} {fn : List He.DefD} {ts : List He.Tab} {xl : PySem.W.Frag → List Bool} {nx : Nat} {w : World} {K : PySem.W.Frag}
theorem SaysH.t (c : SaysH fa fn ts xl nx w K) : He.SaysT fa fn ts w K := congrArg (fun z : AlH => z.1) c
theorem SaysH.fact (c : SaysH fa fn ts xl nx w K) (i : Nat) {f : He.Fa} (h : fa[i]? = some f) : f.ok K = true := c.t.d.fact i h
theorem SaysH.def_ (c : SaysH fa fn ts xl nx w K) (i : Nat) {d : He.DefD} (h : fn[i]? = some d) : ∃ fd, FunD K d.name d.qual d.params d.body d.scope (d.dvs K) (d.kws K) (He.fAd K d.at_) fd := c.t.d.def_ i h
theorem SaysH.tab (c : SaysH fa fn ts xl nx w K) (i : Nat) {t : He.Tab} (h : ts[i]? = some t) : ∃ es n, KDict K w (t.1 K) es n := c.t.tab i h
theorem SaysH.x (c : SaysH fa fn ts xl nx w K) (i : Nat) {b : Bool} (h : (xl K)[i]? = some b) : b = true := by
  have e : xl K = List.replicate nx true := congrArg (fun z : AlH => z.2) c
  rw [e] at h
  have m := List.mem_of_getElem? h
  exact (List.mem_replicate.mp m).2
end
def asL0 : List Addr := [3, 481, 480, 441, 440, 448, 447, 455, 454, 460, 459, 474, 473, 467, 466, 351, 350, 188, 187, 195, 194, 202, 201, 209]
def asL1 : List Addr := [208, 216, 215, 223, 222, 230, 229, 237, 236, 244, 243, 251, 250, 258, 257, 265, 264, 272, 271, 279, 278, 286, 285, 293]
def asL2 : List Addr := [292, 300, 299, 307, 306, 314, 313, 321, 320, 328, 327, 335, 334, 342, 341, 166, 165, 1118, 1117, 1132, 1131, 1139, 1138, 1222]
def asL3 : List Addr := [1221, 1229, 1228, 1234, 1233, 1241, 1240, 1146, 1145, 1260, 1259, 1253, 1252, 1203, 1202, 1208, 1207, 1160, 1159, 1167, 1166, 1196, 1195, 1174]
def asL4 : List Addr := [1173, 1153, 1152, 1186, 1185, 1191, 1190, 1181, 1180, 1215, 1214, 1267, 1266, 173, 172, 180, 179, 1246, 1245, 1125, 1124, 909, 908, 1274]
def asL5 : List Addr := [1273, 587, 586, 429, 428, 1107, 1106, 739, 738, 897, 896, 127, 126, 622, 621, 671, 670, 798, 797, 840, 839, 155, 154, 0]
def asL6 : List Addr := [181, 434, 902, 343, 365, 364, 495, 494, 640, 639, 96, 95, 605, 604, 689, 688, 764, 763, 816, 815, 859, 858, 923, 922]
def asL7 : List Addr := [145, 144, 393, 392, 523, 522, 703, 702, 1076, 1075, 1062, 1061, 1069, 1068, 152, 151, 783, 782, 795, 794, 117, 116, 110, 109]
def asL8 : List Addr := [619, 618, 124, 123, 668, 667, 654, 653, 556, 555, 549, 548, 400, 399, 584, 583, 407, 406, 577, 576, 386, 385, 570, 569]
def asL9 : List Addr := [563, 562, 537, 536, 379, 378, 542, 541, 530, 529, 1104, 1103, 788, 787, 516, 515, 414, 413, 1097, 1096, 1090, 1089, 894, 893]
def asL10 : List Addr := [1083, 1082, 1055, 1054, 942, 941, 949, 948, 963, 962, 985, 984, 978, 372, 371, 935, 934]
def asL : List Addr := asL0 ++ asL1 ++ asL2 ++ asL3 ++ asL4 ++ asL5 ++ asL6 ++ asL7 ++ asL8 ++ asL9 ++ asL10

def looseL0 : List Str := ["_wall", "BoardError", "NoImage", "NoWord", "Taken", "TooMany", "OUTSIDE", "Frames", "OverEnd", "step_over", "frames_of", "strays_of", "WORDS", "HIGH", "READS_AT_X", "touches_of", "give", "do_lit", "do_get", "do_put", "do_add", "do_sub", "do_and", "do_xor"]
def looseL1 : List Str := ["do_putb", "do_tob", "do_swap", "do_go", "do_ifz", "do_ifn", "do_call", "do_ret", "do_push", "do_pop", "do_sleep", "do_let", "do_back", "do_half", "DOINGS", "FLASH_END", "RAM_END", "PLACES_END", "COUNT", "TOP", "FLAGS", "MASK", "LINE_IN", "LINE_OUT"]
def looseL2 : List Str := ["TIMER_FLAG", "LINE_FLAG", "WORD_MOST", "ERASED", "bar_of", "Memory", "X_SPAN", "OP_NAMES", "LINE_MOST", "is_whole", "is_between", "is_word", "is_image", "is_line", "is_line_row", "STACK_TOP", "INTERRUPT_BEATS", "TIMER_PC", "LINE_PC", "first_registers", "Board", "KEPT_TURNS", "History", "Counts"]
def looseL3 : List Str := ["PAGES", "HARD_MOST", "Marks", "BEAT_MOST", "BIT_MOST", "WAITING_MOST", "is_fault", "Mishaps", "Stands", "WATCHES", "KINDS", "Watches", "REGISTERS", "peeks_by_turn", "Probe", "_law_cell_at", "_law_well", "_law_draw", "_law_one", "_law_new", "_law_pass", "_law_bar", "_law_lay", "_law_halt"]
def looseL4 : List Str := ["_law_turn", "_law_touches", "_law_deed", "_law_do", "_law_closed", "_law_inner", "_law_seen", "_law_deeds", "_law_filled", "_law_image", "_law_line", "_law_same", "_law_marked", "_law_met", "_law_run"]
def looseL : List Str := looseL0 ++ looseL1 ++ looseL2 ++ looseL3 ++ looseL4

def faL0 : List He.Fa := [.int "FLASH_END" 512, .int "RAM_END" 768, .int "PLACES_END" 774, .int "COUNT" 768, .int "TOP" 769, .int "FLAGS" 770, .int "MASK" 771, .int "LINE_IN" 772, .int "LINE_OUT" 773, .int "TIMER_FLAG" 1, .int "LINE_FLAG" 2, .int "WORD_MOST" 65535, .int "ERASED" 65535, .int "X_SPAN" 1024, .int "LINE_MOST" 3, .int "STACK_TOP" 767, .int "INTERRUPT_BEATS" 3, .int "TIMER_PC" 1, .int "LINE_PC" 2, .int "WORDS" 65536, .int "HIGH" 32768, .free "len", .free "range", .free "isinstance"]
def faL1 : List He.Fa := [.free "all", .free "int", .free "bool", .free "list", .free "tuple", .free "divmod", .glo "READS_AT_X", .glo "OP_NAMES", .cls "Board", .cls "Memory", .noat "Board" "registers", .noat "Board" "zero", .noat "Board" "lets", .noat "Board" "asleep", .noat "Board" "beat", .noat "Board" "stopped", .noat "Board" "sent", .noat "Board" "memory", .noat "Board" "line", .noat "Board" "line_at", .noat "Board" "touched", .noat "Board" "did", .noat "Board" "bend", .noat "Memory" "words"]
def faL2 : List He.Fa := [.noat "Memory" "swapped", .int "WATCHES" 2, .int "PAGES" 16, .int "OUTSIDE" (-1), .int "KEPT_TURNS" 32, .free "enumerate", .cls "Probe", .noat "Probe" "board", .noat "Probe" "standing", .noat "Probe" "watching", .noat "Probe" "frames", .noat "Probe" "history", .noat "Probe" "counts", .noat "Probe" "mishaps", .noat "Probe" "stands", .noat "Probe" "turns_gone", .noat "Probe" "course", .cls "Marks", .noat "Marks" "memory", .noat "Marks" "hard", .noat "Marks" "erased", .cls "Watches", .noat "Watches" "rows", .cls "Frames"]
def faL3 : List He.Fa := [.noat "Frames" "rows", .noat "Frames" "strays", .cls "History", .noat "History" "rows", .noat "History" "faded", .cls "Counts", .noat "Counts" "deeds", .noat "Counts" "frames", .noat "Counts" "idle", .noat "Counts" "peeked", .cls "Mishaps", .noat "Mishaps" "rows", .noat "Mishaps" "met_rows", .cls "Stands", .noat "Stands" "rows", .cls "OverEnd", .noat "OverEnd" "depth", .noat "OverEnd" "deed_done", .glo "REGISTERS", .free "str", .mkr "Memory", .glo "Memory", .glo "first_registers", .glo "is_whole"]
def faL4 : List He.Fa := [.glo "is_between", .glo "is_word", .glo "is_image", .glo "is_line_row", .glo "is_line", .mkr "Board", .glo "Board", .mkr "Counts", .glo "Counts", .mkr "Frames", .glo "Frames", .mkr "History", .glo "History", .mkr "Marks", .glo "Marks", .mkr "Mishaps", .glo "Mishaps", .mkr "Stands", .glo "Stands", .mkr "Watches", .glo "Watches", .mkr "Probe", .glo "Probe", .mkr "OverEnd"]
def faL5 : List He.Fa := [.glo "OverEnd", .meth "Memory" "called_flags", .meth "Board" "coming", .meth "Marks" "stands_at", .meth "Probe" "meets_mark", .meth "Probe" "note_gone", .meth "Probe" "peek", .meth "OverEnd" "comes", .meth "Mishaps" "bending", .meth "Mishaps" "come", .meth "Frames" "go_back_from", .meth "Frames" "follow", .meth "History" "note", .meth "Frames" "innermost", .meth "Counts" "note_beats", .meth "Counts" "note_turn", .glo "bar_of", .meth "Board" "stop", .meth "Board" "may_touch", .meth "Memory" "take_line", .meth "Board" "come_line", .meth "Memory" "go_timer", .meth "Board" "pass_beats", .meth "Memory" "put"]
def faL6 : List He.Fa := [.meth "Board" "put_word", .meth "Board" "put_by_turn", .meth "Board" "begin_interrupt", .glo "touches_of", .meth "Memory" "read", .glo "give", .glo "DOINGS", .meth "Board" "do_deed", .meth "Board" "turn", .meth "Probe" "note_turn", .meth "Mishaps" "due", .meth "Board" "lose_power", .meth "Memory" "turn_bit", .meth "Probe" "take_faults", .meth "Probe" "follow_turn", .meth "Watches" "met", .meth "Probe" "pass_turn", .meth "Probe" "let_go", .glo "step_over", .glo "_law_cell_at", .glo "_law_draw", .glo "_law_one", .glo "_law_deeds", .glo "_law_filled"]
def faL7 : List He.Fa := [.glo "_law_image", .glo "_law_line", .free "dict", .glo "_law_new", .glo "_law_met", .glo "_law_marked", .glo "_law_closed", .glo "_law_inner", .glo "_law_bar", .glo "_law_lay", .glo "_law_do", .glo "_law_halt", .glo "_law_pass", .glo "_law_touches", .glo "_law_deed", .glo "_law_turn", .glo "_law_seen", .glo "_law_run", .glo "frames_of", .glo "strays_of", .meth "Probe" "register_of", .meth "Probe" "stop_told", .meth "Probe" "turns", .glo "_law_same"]
def faL8 : List He.Fa := [.glo "_law_well", .glo "peeks_by_turn", .meth "Probe" "go", .meth "Memory" "word_at", .meth "Probe" "look", .glo "law"]
def faLa : List He.Fa := faL0 ++ faL1 ++ faL2 ++ faL3
def faLb : List He.Fa := faL4 ++ faL5 ++ faL6 ++ faL7 ++ faL8
def faL : List He.Fa := faLa ++ faLb

def d_Memoryinit : He.DefD := (⟨("Memory", some "__init__"), "__init__", "Memory.__init__", defArgs (inClass (topR 58) 0), defBody (inClass (topR 58) 0), defScope (inClass (topR 58) 0), [], []⟩ : He.DefD)
def d_firstregisters : He.DefD := (⟨("first_registers", none), "first_registers", "first_registers", defArgs (topR 74), defBody (topR 74), defScope (topR 74), [], []⟩ : He.DefD)
def d_iswhole : He.DefD := (⟨("is_whole", none), "is_whole", "is_whole", defArgs (topR 63), defBody (topR 63), defScope (topR 63), [], []⟩ : He.DefD)
def d_isbetween : He.DefD := (⟨("is_between", none), "is_between", "is_between", defArgs (topR 64), defBody (topR 64), defScope (topR 64), [], []⟩ : He.DefD)
def d_isword : He.DefD := (⟨("is_word", none), "is_word", "is_word", defArgs (topR 65), defBody (topR 65), defScope (topR 65), [], []⟩ : He.DefD)
def d_isimage : He.DefD := (⟨("is_image", none), "is_image", "is_image", defArgs (topR 66), defBody (topR 66), defScope (topR 66), [], []⟩ : He.DefD)
def d_islinerow : He.DefD := (⟨("is_line_row", none), "is_line_row", "is_line_row", defArgs (topR 68), defBody (topR 68), defScope (topR 68), [], []⟩ : He.DefD)
def d_isline : He.DefD := (⟨("is_line", none), "is_line", "is_line", defArgs (topR 67), defBody (topR 67), defScope (topR 67), [], []⟩ : He.DefD)
def d_Boardinit : He.DefD := (⟨("Board", some "__init__"), "__init__", "Board.__init__", defArgs (inClass (topR 75) 0), defBody (inClass (topR 75) 0), defScope (inClass (topR 75) 0), [], []⟩ : He.DefD)
def d_Countsinit : He.DefD := (⟨("Counts", some "__init__"), "__init__", "Counts.__init__", defArgs (inClass (topR 79) 0), defBody (inClass (topR 79) 0), defScope (inClass (topR 79) 0), [], []⟩ : He.DefD)
def d_Framesinit : He.DefD := (⟨("Frames", some "__init__"), "__init__", "Frames.__init__", defArgs (inClass (topR 9) 0), defBody (inClass (topR 9) 0), defScope (inClass (topR 9) 0), [], []⟩ : He.DefD)
def d_Historyinit : He.DefD := (⟨("History", some "__init__"), "__init__", "History.__init__", defArgs (inClass (topR 78) 0), defBody (inClass (topR 78) 0), defScope (inClass (topR 78) 0), [], []⟩ : He.DefD)
def d_Marksinit : He.DefD := (⟨("Marks", some "__init__"), "__init__", "Marks.__init__", defArgs (inClass (topR 83) 0), defBody (inClass (topR 83) 0), defScope (inClass (topR 83) 0), [], []⟩ : He.DefD)
def d_Mishapsinit : He.DefD := (⟨("Mishaps", some "__init__"), "__init__", "Mishaps.__init__", defArgs (inClass (topR 89) 0), defBody (inClass (topR 89) 0), defScope (inClass (topR 89) 0), [], []⟩ : He.DefD)
def d_Standsinit : He.DefD := (⟨("Stands", some "__init__"), "__init__", "Stands.__init__", defArgs (inClass (topR 91) 0), defBody (inClass (topR 91) 0), defScope (inClass (topR 91) 0), [], []⟩ : He.DefD)
def d_Watchesinit : He.DefD := (⟨("Watches", some "__init__"), "__init__", "Watches.__init__", defArgs (inClass (topR 95) 0), defBody (inClass (topR 95) 0), defScope (inClass (topR 95) 0), [], []⟩ : He.DefD)
def d_Probeinit : He.DefD := (⟨("Probe", some "__init__"), "__init__", "Probe.__init__", defArgs (inClass (topR 99) 0), defBody (inClass (topR 99) 0), defScope (inClass (topR 99) 0), [], []⟩ : He.DefD)
def d_OverEndinit : He.DefD := (⟨("OverEnd", some "__init__"), "__init__", "OverEnd.__init__", defArgs (inClass (topR 11) 0), defBody (inClass (topR 11) 0), defScope (inClass (topR 11) 0), [], []⟩ : He.DefD)
def d_Memorycalledflags : He.DefD := (⟨("Memory", some "called_flags"), "called_flags", "Memory.called_flags", defArgs (inClass (topR 58) 4), defBody (inClass (topR 58) 4), defScope (inClass (topR 58) 4), [], []⟩ : He.DefD)
def d_Boardcoming : He.DefD := (⟨("Board", some "coming"), "coming", "Board.coming", defArgs (inClass (topR 75) 4), defBody (inClass (topR 75) 4), defScope (inClass (topR 75) 4), [], []⟩ : He.DefD)
def d_Marksstandsat : He.DefD := (⟨("Marks", some "stands_at"), "stands_at", "Marks.stands_at", defArgs (inClass (topR 83) 2), defBody (inClass (topR 83) 2), defScope (inClass (topR 83) 2), [], []⟩ : He.DefD)
def d_Probemeetsmark : He.DefD := (⟨("Probe", some "meets_mark"), "meets_mark", "Probe.meets_mark", defArgs (inClass (topR 99) 22), defBody (inClass (topR 99) 22), defScope (inClass (topR 99) 22), [], []⟩ : He.DefD)
def d_Probenotegone : He.DefD := (⟨("Probe", some "note_gone"), "note_gone", "Probe.note_gone", defArgs (inClass (topR 99) 20), defBody (inClass (topR 99) 20), defScope (inClass (topR 99) 20), [], []⟩ : He.DefD)
def d_Probepeek : He.DefD := (⟨("Probe", some "peek"), "peek", "Probe.peek", defArgs (inClass (topR 99) 21), defBody (inClass (topR 99) 21), defScope (inClass (topR 99) 21), [], []⟩ : He.DefD)
def d_OverEndcomes : He.DefD := (⟨("OverEnd", some "comes"), "comes", "OverEnd.comes", defArgs (inClass (topR 11) 1), defBody (inClass (topR 11) 1), defScope (inClass (topR 11) 1), [], []⟩ : He.DefD)
def d_Mishapsbending : He.DefD := (⟨("Mishaps", some "bending"), "bending", "Mishaps.bending", defArgs (inClass (topR 89) 3), defBody (inClass (topR 89) 3), defScope (inClass (topR 89) 3), [], []⟩ : He.DefD)
def d_Mishapscome : He.DefD := (⟨("Mishaps", some "come"), "come", "Mishaps.come", defArgs (inClass (topR 89) 5), defBody (inClass (topR 89) 5), defScope (inClass (topR 89) 5), [], []⟩ : He.DefD)
def d_Framesgobackfrom : He.DefD := (⟨("Frames", some "go_back_from"), "go_back_from", "Frames.go_back_from", defArgs (inClass (topR 9) 3), defBody (inClass (topR 9) 3), defScope (inClass (topR 9) 3), [], []⟩ : He.DefD)
def d_Framesfollow : He.DefD := (⟨("Frames", some "follow"), "follow", "Frames.follow", defArgs (inClass (topR 9) 2), defBody (inClass (topR 9) 2), defScope (inClass (topR 9) 2), [], []⟩ : He.DefD)
def d_Historynote : He.DefD := (⟨("History", some "note"), "note", "History.note", defArgs (inClass (topR 78) 2), defBody (inClass (topR 78) 2), defScope (inClass (topR 78) 2), [], []⟩ : He.DefD)
def d_Framesinnermost : He.DefD := (⟨("Frames", some "innermost"), "innermost", "Frames.innermost", defArgs (inClass (topR 9) 4), defBody (inClass (topR 9) 4), defScope (inClass (topR 9) 4), [], []⟩ : He.DefD)
def d_Countsnotebeats : He.DefD := (⟨("Counts", some "note_beats"), "note_beats", "Counts.note_beats", defArgs (inClass (topR 79) 4), defBody (inClass (topR 79) 4), defScope (inClass (topR 79) 4), [], []⟩ : He.DefD)
def d_Countsnoteturn : He.DefD := (⟨("Counts", some "note_turn"), "note_turn", "Counts.note_turn", defArgs (inClass (topR 79) 2), defBody (inClass (topR 79) 2), defScope (inClass (topR 79) 2), [], []⟩ : He.DefD)
def d_barof : He.DefD := (⟨("bar_of", none), "bar_of", "bar_of", defArgs (topR 57), defBody (topR 57), defScope (topR 57), [], []⟩ : He.DefD)
def d_Boardstop : He.DefD := (⟨("Board", some "stop"), "stop", "Board.stop", defArgs (inClass (topR 75) 9), defBody (inClass (topR 75) 9), defScope (inClass (topR 75) 9), [], []⟩ : He.DefD)
def d_Boardmaytouch : He.DefD := (⟨("Board", some "may_touch"), "may_touch", "Board.may_touch", defArgs (inClass (topR 75) 8), defBody (inClass (topR 75) 8), defScope (inClass (topR 75) 8), [], []⟩ : He.DefD)
def d_Memorytakeline : He.DefD := (⟨("Memory", some "take_line"), "take_line", "Memory.take_line", defArgs (inClass (topR 58) 5), defBody (inClass (topR 58) 5), defScope (inClass (topR 58) 5), [], []⟩ : He.DefD)
def d_Boardcomeline : He.DefD := (⟨("Board", some "come_line"), "come_line", "Board.come_line", defArgs (inClass (topR 75) 13), defBody (inClass (topR 75) 13), defScope (inClass (topR 75) 13), [], []⟩ : He.DefD)
def d_Memorygotimer : He.DefD := (⟨("Memory", some "go_timer"), "go_timer", "Memory.go_timer", defArgs (inClass (topR 58) 6), defBody (inClass (topR 58) 6), defScope (inClass (topR 58) 6), [], []⟩ : He.DefD)
def d_Boardpassbeats : He.DefD := (⟨("Board", some "pass_beats"), "pass_beats", "Board.pass_beats", defArgs (inClass (topR 75) 12), defBody (inClass (topR 75) 12), defScope (inClass (topR 75) 12), [], []⟩ : He.DefD)
def d_Memoryput : He.DefD := (⟨("Memory", some "put"), "put", "Memory.put", defArgs (inClass (topR 58) 3), defBody (inClass (topR 58) 3), defScope (inClass (topR 58) 3), [], []⟩ : He.DefD)
def d_Boardputword : He.DefD := (⟨("Board", some "put_word"), "put_word", "Board.put_word", defArgs (inClass (topR 75) 11), defBody (inClass (topR 75) 11), defScope (inClass (topR 75) 11), [], []⟩ : He.DefD)
def d_Boardputbyturn : He.DefD := (⟨("Board", some "put_by_turn"), "put_by_turn", "Board.put_by_turn", defArgs (inClass (topR 75) 10), defBody (inClass (topR 75) 10), defScope (inClass (topR 75) 10), [], []⟩ : He.DefD)
def d_Boardbegininterrupt : He.DefD := (⟨("Board", some "begin_interrupt"), "begin_interrupt", "Board.begin_interrupt", defArgs (inClass (topR 75) 6), defBody (inClass (topR 75) 6), defScope (inClass (topR 75) 6), [], []⟩ : He.DefD)
def d_touchesof : He.DefD := (⟨("touches_of", none), "touches_of", "touches_of", defArgs (topR 19), defBody (topR 19), defScope (topR 19), [], []⟩ : He.DefD)
def d_Memoryread : He.DefD := (⟨("Memory", some "read"), "read", "Memory.read", defArgs (inClass (topR 58) 2), defBody (inClass (topR 58) 2), defScope (inClass (topR 58) 2), [], []⟩ : He.DefD)
def d_give : He.DefD := (⟨("give", none), "give", "give", defArgs (topR 20), defBody (topR 20), defScope (topR 20), [], []⟩ : He.DefD)
def d_dolit : He.DefD := (⟨("do_lit", none), "do_lit", "do_lit", defArgs (topR 21), defBody (topR 21), defScope (topR 21), [], []⟩ : He.DefD)
def d_doget : He.DefD := (⟨("do_get", none), "do_get", "do_get", defArgs (topR 22), defBody (topR 22), defScope (topR 22), [], []⟩ : He.DefD)
def d_doput : He.DefD := (⟨("do_put", none), "do_put", "do_put", defArgs (topR 23), defBody (topR 23), defScope (topR 23), [], []⟩ : He.DefD)
def d_doadd : He.DefD := (⟨("do_add", none), "do_add", "do_add", defArgs (topR 24), defBody (topR 24), defScope (topR 24), [], []⟩ : He.DefD)
def d_dosub : He.DefD := (⟨("do_sub", none), "do_sub", "do_sub", defArgs (topR 25), defBody (topR 25), defScope (topR 25), [], []⟩ : He.DefD)
def d_doand : He.DefD := (⟨("do_and", none), "do_and", "do_and", defArgs (topR 26), defBody (topR 26), defScope (topR 26), [], []⟩ : He.DefD)
def d_doxor : He.DefD := (⟨("do_xor", none), "do_xor", "do_xor", defArgs (topR 27), defBody (topR 27), defScope (topR 27), [], []⟩ : He.DefD)
def d_doputb : He.DefD := (⟨("do_putb", none), "do_putb", "do_putb", defArgs (topR 28), defBody (topR 28), defScope (topR 28), [], []⟩ : He.DefD)
def d_dotob : He.DefD := (⟨("do_tob", none), "do_tob", "do_tob", defArgs (topR 29), defBody (topR 29), defScope (topR 29), [], []⟩ : He.DefD)
def d_doswap : He.DefD := (⟨("do_swap", none), "do_swap", "do_swap", defArgs (topR 30), defBody (topR 30), defScope (topR 30), [], []⟩ : He.DefD)
def d_dogo : He.DefD := (⟨("do_go", none), "do_go", "do_go", defArgs (topR 31), defBody (topR 31), defScope (topR 31), [], []⟩ : He.DefD)
def d_doifz : He.DefD := (⟨("do_ifz", none), "do_ifz", "do_ifz", defArgs (topR 32), defBody (topR 32), defScope (topR 32), [], []⟩ : He.DefD)
def d_doifn : He.DefD := (⟨("do_ifn", none), "do_ifn", "do_ifn", defArgs (topR 33), defBody (topR 33), defScope (topR 33), [], []⟩ : He.DefD)
def d_docall : He.DefD := (⟨("do_call", none), "do_call", "do_call", defArgs (topR 34), defBody (topR 34), defScope (topR 34), [], []⟩ : He.DefD)
def d_doret : He.DefD := (⟨("do_ret", none), "do_ret", "do_ret", defArgs (topR 35), defBody (topR 35), defScope (topR 35), [], []⟩ : He.DefD)
def d_dopush : He.DefD := (⟨("do_push", none), "do_push", "do_push", defArgs (topR 36), defBody (topR 36), defScope (topR 36), [], []⟩ : He.DefD)
def d_dopop : He.DefD := (⟨("do_pop", none), "do_pop", "do_pop", defArgs (topR 37), defBody (topR 37), defScope (topR 37), [], []⟩ : He.DefD)
def d_dosleep : He.DefD := (⟨("do_sleep", none), "do_sleep", "do_sleep", defArgs (topR 38), defBody (topR 38), defScope (topR 38), [], []⟩ : He.DefD)
def d_dolet : He.DefD := (⟨("do_let", none), "do_let", "do_let", defArgs (topR 39), defBody (topR 39), defScope (topR 39), [], []⟩ : He.DefD)
def d_doback : He.DefD := (⟨("do_back", none), "do_back", "do_back", defArgs (topR 40), defBody (topR 40), defScope (topR 40), [], []⟩ : He.DefD)
def d_dohalf : He.DefD := (⟨("do_half", none), "do_half", "do_half", defArgs (topR 41), defBody (topR 41), defScope (topR 41), [], []⟩ : He.DefD)
def d_Boarddodeed : He.DefD := (⟨("Board", some "do_deed"), "do_deed", "Board.do_deed", defArgs (inClass (topR 75) 7), defBody (inClass (topR 75) 7), defScope (inClass (topR 75) 7), [], []⟩ : He.DefD)
def d_Boardturn : He.DefD := (⟨("Board", some "turn"), "turn", "Board.turn", defArgs (inClass (topR 75) 5), defBody (inClass (topR 75) 5), defScope (inClass (topR 75) 5), [], []⟩ : He.DefD)
def d_Probenoteturn : He.DefD := (⟨("Probe", some "note_turn"), "note_turn", "Probe.note_turn", defArgs (inClass (topR 99) 26), defBody (inClass (topR 99) 26), defScope (inClass (topR 99) 26), [], []⟩ : He.DefD)
def d_Mishapsdue : He.DefD := (⟨("Mishaps", some "due"), "due", "Mishaps.due", defArgs (inClass (topR 89) 4), defBody (inClass (topR 89) 4), defScope (inClass (topR 89) 4), [], []⟩ : He.DefD)
def d_Boardlosepower : He.DefD := (⟨("Board", some "lose_power"), "lose_power", "Board.lose_power", defArgs (inClass (topR 75) 3), defBody (inClass (topR 75) 3), defScope (inClass (topR 75) 3), [], []⟩ : He.DefD)
def d_Memoryturnbit : He.DefD := (⟨("Memory", some "turn_bit"), "turn_bit", "Memory.turn_bit", defArgs (inClass (topR 58) 7), defBody (inClass (topR 58) 7), defScope (inClass (topR 58) 7), [], []⟩ : He.DefD)
def d_Probetakefaults : He.DefD := (⟨("Probe", some "take_faults"), "take_faults", "Probe.take_faults", defArgs (inClass (topR 99) 25), defBody (inClass (topR 99) 25), defScope (inClass (topR 99) 25), [], []⟩ : He.DefD)
def d_Probefollowturn : He.DefD := (⟨("Probe", some "follow_turn"), "follow_turn", "Probe.follow_turn", defArgs (inClass (topR 99) 24), defBody (inClass (topR 99) 24), defScope (inClass (topR 99) 24), [], []⟩ : He.DefD)
def d_Watchesmet : He.DefD := (⟨("Watches", some "met"), "met", "Watches.met", defArgs (inClass (topR 95) 5), defBody (inClass (topR 95) 5), defScope (inClass (topR 95) 5), [], []⟩ : He.DefD)
def d_Probepassturn : He.DefD := (⟨("Probe", some "pass_turn"), "pass_turn", "Probe.pass_turn", defArgs (inClass (topR 99) 23), defBody (inClass (topR 99) 23), defScope (inClass (topR 99) 23), [], []⟩ : He.DefD)
def d_Probeletgo : He.DefD := (⟨("Probe", some "let_go"), "let_go", "Probe.let_go", defArgs (inClass (topR 99) 19), defBody (inClass (topR 99) 19), defScope (inClass (topR 99) 19), [], []⟩ : He.DefD)
def d_stepover : He.DefD := (⟨("step_over", none), "step_over", "step_over", defArgs (topR 12), defBody (topR 12), defScope (topR 12), [], []⟩ : He.DefD)
def d_lawcellat : He.DefD := (⟨("_law_cell_at", none), "_law_cell_at", "_law_cell_at", defArgs (topR 101), defBody (topR 101), defScope (topR 101), [], []⟩ : He.DefD)
def d_lawdraw : He.DefD := (⟨("_law_draw", none), "_law_draw", "_law_draw", defArgs (topR 103), defBody (topR 103), defScope (topR 103), [], []⟩ : He.DefD)
def d_lawone : He.DefD := (⟨("_law_one", none), "_law_one", "_law_one", defArgs (topR 104), defBody (topR 104), defScope (topR 104), [], []⟩ : He.DefD)
def d_lawdeeds : He.DefD := (⟨("_law_deeds", none), "_law_deeds", "_law_deeds", defArgs (topR 117), defBody (topR 117), defScope (topR 117), [], []⟩ : He.DefD)
def d_lawfilled : He.DefD := (⟨("_law_filled", none), "_law_filled", "_law_filled", defArgs (topR 118), defBody (topR 118), defScope (topR 118), [], []⟩ : He.DefD)
def d_lawimage : He.DefD := (⟨("_law_image", none), "_law_image", "_law_image", defArgs (topR 119), defBody (topR 119), defScope (topR 119), [], []⟩ : He.DefD)
def d_lawline : He.DefD := (⟨("_law_line", none), "_law_line", "_law_line", defArgs (topR 120), defBody (topR 120), defScope (topR 120), [], []⟩ : He.DefD)
def d_lawnew : He.DefD := (⟨("_law_new", none), "_law_new", "_law_new", defArgs (topR 105), defBody (topR 105), defScope (topR 105), [], []⟩ : He.DefD)
def d_lawmet : He.DefD := (⟨("_law_met", none), "_law_met", "_law_met", defArgs (topR 123), defBody (topR 123), defScope (topR 123), [], []⟩ : He.DefD)
def d_lawmarked : He.DefD := (⟨("_law_marked", none), "_law_marked", "_law_marked", defArgs (topR 122), defBody (topR 122), defScope (topR 122), [], []⟩ : He.DefD)
def d_lawclosed : He.DefD := (⟨("_law_closed", none), "_law_closed", "_law_closed", defArgs (topR 114), defBody (topR 114), defScope (topR 114), [], []⟩ : He.DefD)
def d_lawinner : He.DefD := (⟨("_law_inner", none), "_law_inner", "_law_inner", defArgs (topR 115), defBody (topR 115), defScope (topR 115), [], []⟩ : He.DefD)
def d_lawbar : He.DefD := (⟨("_law_bar", none), "_law_bar", "_law_bar", defArgs (topR 107), defBody (topR 107), defScope (topR 107), [], []⟩ : He.DefD)
def d_lawlay : He.DefD := (⟨("_law_lay", none), "_law_lay", "_law_lay", defArgs (topR 108), defBody (topR 108), defScope (topR 108), [], []⟩ : He.DefD)
def d_lawdo : He.DefD := (⟨("_law_do", none), "_law_do", "_law_do", defArgs (topR 113), defBody (topR 113), defScope (topR 113), [], []⟩ : He.DefD)
def d_lawhalt : He.DefD := (⟨("_law_halt", none), "_law_halt", "_law_halt", defArgs (topR 109), defBody (topR 109), defScope (topR 109), [], []⟩ : He.DefD)
def d_lawpass : He.DefD := (⟨("_law_pass", none), "_law_pass", "_law_pass", defArgs (topR 106), defBody (topR 106), defScope (topR 106), [], []⟩ : He.DefD)
def d_lawtouches : He.DefD := (⟨("_law_touches", none), "_law_touches", "_law_touches", defArgs (topR 111), defBody (topR 111), defScope (topR 111), [], []⟩ : He.DefD)
def d_lawdeed : He.DefD := (⟨("_law_deed", none), "_law_deed", "_law_deed", defArgs (topR 112), defBody (topR 112), defScope (topR 112), [], []⟩ : He.DefD)
def d_lawturn : He.DefD := (⟨("_law_turn", none), "_law_turn", "_law_turn", defArgs (topR 110), defBody (topR 110), defScope (topR 110), [], []⟩ : He.DefD)
def d_lawseen : He.DefD := (⟨("_law_seen", none), "_law_seen", "_law_seen", defArgs (topR 116), defBody (topR 116), defScope (topR 116), [], []⟩ : He.DefD)
def d_lawrun : He.DefD := (⟨("_law_run", none), "_law_run", "_law_run", defArgs (topR 124), defBody (topR 124), defScope (topR 124), [], []⟩ : He.DefD)
def d_framesof : He.DefD := (⟨("frames_of", none), "frames_of", "frames_of", defArgs (topR 13), defBody (topR 13), defScope (topR 13), [], []⟩ : He.DefD)
def d_straysof : He.DefD := (⟨("strays_of", none), "strays_of", "strays_of", defArgs (topR 14), defBody (topR 14), defScope (topR 14), [], []⟩ : He.DefD)
def d_Proberegisterof : He.DefD := (⟨("Probe", some "register_of"), "register_of", "Probe.register_of", defArgs (inClass (topR 99) 3), defBody (inClass (topR 99) 3), defScope (inClass (topR 99) 3), [], []⟩ : He.DefD)
def d_Probestoptold : He.DefD := (⟨("Probe", some "stop_told"), "stop_told", "Probe.stop_told", defArgs (inClass (topR 99) 4), defBody (inClass (topR 99) 4), defScope (inClass (topR 99) 4), [], []⟩ : He.DefD)
def d_Probeturns : He.DefD := (⟨("Probe", some "turns"), "turns", "Probe.turns", defArgs (inClass (topR 99) 6), defBody (inClass (topR 99) 6), defScope (inClass (topR 99) 6), [], []⟩ : He.DefD)
def d_lawsame : He.DefD := (⟨("_law_same", none), "_law_same", "_law_same", defArgs (topR 121), defBody (topR 121), defScope (topR 121), [], []⟩ : He.DefD)
def d_lawwell : He.DefD := (⟨("_law_well", none), "_law_well", "_law_well", defArgs (topR 102), defBody (topR 102), defScope (topR 102), [], []⟩ : He.DefD)
def d_peeksbyturn : He.DefD := (⟨("peeks_by_turn", none), "peeks_by_turn", "peeks_by_turn", defArgs (topR 98), defBody (topR 98), defScope (topR 98), [], []⟩ : He.DefD)
def d_Probego : He.DefD := (⟨("Probe", some "go"), "go", "Probe.go", defArgs (inClass (topR 99) 9), defBody (inClass (topR 99) 9), defScope (inClass (topR 99) 9), [.non], []⟩ : He.DefD)
def d_Memorywordat : He.DefD := (⟨("Memory", some "word_at"), "word_at", "Memory.word_at", defArgs (inClass (topR 58) 1), defBody (inClass (topR 58) 1), defScope (inClass (topR 58) 1), [], []⟩ : He.DefD)
def d_Probelook : He.DefD := (⟨("Probe", some "look"), "look", "Probe.look", defArgs (inClass (topR 99) 2), defBody (inClass (topR 99) 2), defScope (inClass (topR 99) 2), [], []⟩ : He.DefD)
def d_law : He.DefD := (⟨("law", none), "law", "law", defArgs (topR 125), defBody (topR 125), defScope (topR 125), [], []⟩ : He.DefD)
def fnL0 : List He.DefD := [d_Memoryinit, d_firstregisters, d_iswhole, d_isbetween, d_isword, d_isimage, d_islinerow, d_isline, d_Boardinit, d_Countsinit, d_Framesinit, d_Historyinit, d_Marksinit, d_Mishapsinit, d_Standsinit, d_Watchesinit, d_Probeinit, d_OverEndinit, d_Memorycalledflags, d_Boardcoming, d_Marksstandsat, d_Probemeetsmark, d_Probenotegone, d_Probepeek]
def fnL1 : List He.DefD := [d_OverEndcomes, d_Mishapsbending, d_Mishapscome, d_Framesgobackfrom, d_Framesfollow, d_Historynote, d_Framesinnermost, d_Countsnotebeats, d_Countsnoteturn, d_barof, d_Boardstop, d_Boardmaytouch, d_Memorytakeline, d_Boardcomeline, d_Memorygotimer, d_Boardpassbeats, d_Memoryput, d_Boardputword, d_Boardputbyturn, d_Boardbegininterrupt, d_touchesof, d_Memoryread, d_give, d_dolit]
def fnL2 : List He.DefD := [d_doget, d_doput, d_doadd, d_dosub, d_doand, d_doxor, d_doputb, d_dotob, d_doswap, d_dogo, d_doifz, d_doifn, d_docall, d_doret, d_dopush, d_dopop, d_dosleep, d_dolet, d_doback, d_dohalf, d_Boarddodeed, d_Boardturn, d_Probenoteturn, d_Mishapsdue]
def fnL3 : List He.DefD := [d_Boardlosepower, d_Memoryturnbit, d_Probetakefaults, d_Probefollowturn, d_Watchesmet, d_Probepassturn, d_Probeletgo, d_stepover, d_lawcellat, d_lawdraw, d_lawone, d_lawdeeds, d_lawfilled, d_lawimage, d_lawline, d_lawnew, d_lawmet, d_lawmarked, d_lawclosed, d_lawinner, d_lawbar, d_lawlay, d_lawdo, d_lawhalt]
def fnL4 : List He.DefD := [d_lawpass, d_lawtouches, d_lawdeed, d_lawturn, d_lawseen, d_lawrun, d_framesof, d_straysof, d_Proberegisterof, d_Probestoptold, d_Probeturns, d_lawsame, d_lawwell, d_peeksbyturn, d_Probego, d_Memorywordat, d_Probelook, d_law]
def fnLa : List He.DefD := fnL0 ++ fnL1
def fnLb : List He.DefD := fnL2 ++ fnL3 ++ fnL4
def fnL : List He.DefD := fnLa ++ fnLb

def tabD : He.Tab := (fun K => He.ga K "DOINGS", ["lit", "get", "put", "add", "sub", "and", "xor", "getb", "putb", "tob", "swap", "go", "ifz", "ifn", "call", "ret", "push", "pop", "sleep", "let", "back", "half"])
def tsL : List He.Tab := [tabD]
def xl0 (K : PySem.W.Frag) : List Bool := [He.tupB K "READS_AT_X" [.str "get", .str "add", .str "sub", .str "and", .str "xor"], He.tupB K "OP_NAMES" [.str "mark", .str "lit", .str "get", .str "put", .str "add", .str "sub", .str "and", .str "xor", .str "getb", .str "putb", .str "tob", .str "swap", .str "go", .str "ifz", .str "ifn", .str "call", .str "ret", .str "push", .str "pop", .str "sleep", .str "let", .str "back", .str "half"], He.tupB K "REGISTERS" [.str "a", .str "b", .str "pc", .str "sp"], He.eqO (PySem.W.nsIn K (He.ga K "DOINGS") "lit") (some (some (.ref (He.ga K "do_lit")))), He.eqO (PySem.W.nsIn K (He.ga K "DOINGS") "get") (some (some (.ref (He.ga K "do_get")))), He.eqO (PySem.W.nsIn K (He.ga K "DOINGS") "put") (some (some (.ref (He.ga K "do_put")))), He.eqO (PySem.W.nsIn K (He.ga K "DOINGS") "add") (some (some (.ref (He.ga K "do_add")))), He.eqO (PySem.W.nsIn K (He.ga K "DOINGS") "sub") (some (some (.ref (He.ga K "do_sub")))), He.eqO (PySem.W.nsIn K (He.ga K "DOINGS") "and") (some (some (.ref (He.ga K "do_and")))), He.eqO (PySem.W.nsIn K (He.ga K "DOINGS") "xor") (some (some (.ref (He.ga K "do_xor")))), He.eqO (PySem.W.nsIn K (He.ga K "DOINGS") "getb") (some (some (.ref (He.ga K "do_get")))), He.eqO (PySem.W.nsIn K (He.ga K "DOINGS") "putb") (some (some (.ref (He.ga K "do_putb")))), He.eqO (PySem.W.nsIn K (He.ga K "DOINGS") "tob") (some (some (.ref (He.ga K "do_tob")))), He.eqO (PySem.W.nsIn K (He.ga K "DOINGS") "swap") (some (some (.ref (He.ga K "do_swap")))), He.eqO (PySem.W.nsIn K (He.ga K "DOINGS") "go") (some (some (.ref (He.ga K "do_go")))), He.eqO (PySem.W.nsIn K (He.ga K "DOINGS") "ifz") (some (some (.ref (He.ga K "do_ifz")))), He.eqO (PySem.W.nsIn K (He.ga K "DOINGS") "ifn") (some (some (.ref (He.ga K "do_ifn")))), He.eqO (PySem.W.nsIn K (He.ga K "DOINGS") "call") (some (some (.ref (He.ga K "do_call")))), He.eqO (PySem.W.nsIn K (He.ga K "DOINGS") "ret") (some (some (.ref (He.ga K "do_ret")))), He.eqO (PySem.W.nsIn K (He.ga K "DOINGS") "push") (some (some (.ref (He.ga K "do_push"))))]
def xl1 (K : PySem.W.Frag) : List Bool := [He.eqO (PySem.W.nsIn K (He.ga K "DOINGS") "pop") (some (some (.ref (He.ga K "do_pop")))), He.eqO (PySem.W.nsIn K (He.ga K "DOINGS") "sleep") (some (some (.ref (He.ga K "do_sleep")))), He.eqO (PySem.W.nsIn K (He.ga K "DOINGS") "let") (some (some (.ref (He.ga K "do_let")))), He.eqO (PySem.W.nsIn K (He.ga K "DOINGS") "back") (some (some (.ref (He.ga K "do_back")))), He.eqO (PySem.W.nsIn K (He.ga K "DOINGS") "half") (some (some (.ref (He.ga K "do_half"))))]
def xlL (K : PySem.W.Frag) : List Bool := xl0 K ++ xl1 K
abbrev RR : PySem.W.OpenRow := PySem.W.OpenLaw.row PySem.Challenge.rw_boardheld_k42_whole_steps_over
abbrev hkH : PySem.W.Hook := hookH asL faL fnL tsL xlL 25
def obL (s : PySem.W.SharedT) : AlH := gath (HandSHeadRun.getT s) asL (obsH faL fnL tsL xlL)
theorem obL_eq (s : PySem.W.SharedT) : obL s = hkH.obs s.abs := by
  have e : HandSHeadRun.getT s = s.abs.heap.get? := funext (HandSHeadRun.getT_eq s)
  unfold obL
  rw [e]
  rfl
abbrev qV : Program := PySem.W.view RR.prog [125]
def o1 (K : PySem.W.Frag) : Bool := faLa.all fun f => f.ok K
def o2 (K : PySem.W.Frag) : Bool := faLb.all fun f => f.ok K
def o3 (K : PySem.W.Frag) : Bool := fnLa.all fun d => d.ok K
def o4 (K : PySem.W.Frag) : Bool := fnLb.all fun d => d.ok K
def o5 (K : PySem.W.Frag) : List He.FnW × List (Option (List (Option (Str × Int)))) × List Bool := (fnL.map fun d => He.fnW K d.at_, tsL.map fun t => He.dicW K (t.1 K), xlL K)
def hookP {α : Type} (o : PySem.W.Frag → α) (v : World → α) : PySem.W.Hook where
  α := α
  obs := fun s => gath s.heap.get? asL o
  val := v
  says := fun _ _ => True
  of := fun _ _ _ => trivial
  keeps := fun _ _ _ _ _ => trivial
theorem j2 {S A B U V W : Type} {x : Option S} {f : S → A} {g : S → B} {u : S → U} {v : S → V} {z : S → W} (mk : U → V → W) (hz : ∀ s, z s = mk (u s) (v s)) {a : A} {b : B} {u0 : U} {v0 : V}
    (h1 : x.map (fun s => (f s, g s, u s)) = some (a, b, u0)) (h2 : x.map (fun s => (f s, g s, v s)) = some (a, b, v0)) : x.map (fun s => (f s, g s, z s)) = some (a, b, mk u0 v0) := by
  cases x with
  | none => cases h1
  | some s =>
    have e1 : (f s, g s, u s) = (a, b, u0) := Option.some.inj h1
    have e2 : (f s, g s, v s) = (a, b, v0) := Option.some.inj h2
    injection e1 with e3 e4
    injection e4 with e4 e5
    injection e2 with _ e6
    injection e6 with _ e7
    show some (f s, g s, z s) = _
    rw [hz s, e3, e4, e5, e7]
def v1 (_ : World) : Bool := true
def v5 (w : World) : List He.FnW × List (Option (List (Option (Str × Int)))) × List Bool := (fnL.map He.DefD.val, tsL.map fun t => some (He.keysIn w.params t.2), List.replicate 25 true)
def ob {α : Type} (o : PySem.W.Frag → α) (s : PySem.W.SharedT) : α := gath (HandSHeadRun.getT s) asL o
abbrev RunP {α : Type} (o : PySem.W.Frag → α) (v : World → α) (w : World) : Prop := HandSHeadRun.RunEq RR qV (hookP o v) (ob o) 10000 looseL w
def o12 (K : PySem.W.Frag) : Bool := o1 K && o2 K
def o34 (K : PySem.W.Frag) : Bool := o3 K && o4 K
def oA (K : PySem.W.Frag) : Bool := o12 K && o34 K
theorem both {w : World} {p q : PySem.W.Frag → Bool} (h1 : RunP p v1 w) (h2 : RunP q v1 w) : RunP (fun K => p K && q K) v1 w := by
  intro os
  exact j2 (fun (a b : Bool) => a && b) (fun s => (gath_eq _ _ _).trans (congr (congrArg and (gath_eq _ _ _).symm) (gath_eq _ _ _).symm)) (h1 os) (h2 os)
theorem oA_eq (K : PySem.W.Frag) : oA K = ((faL.all fun f => f.ok K) && fnL.all fun d => d.ok K) := by
  unfold faL fnL
  rw [List.all_append, List.all_append]
  rfl
theorem run_of {w : World} (h1 : RunP o1 v1 w) (h2 : RunP o2 v1 w) (h3 : RunP o3 v1 w) (h4 : RunP o4 v1 w) (h5 : RunP o5 v5 w) : HandSHeadRun.RunEq RR qV hkH obL 10000 looseL w := by
  have hA : RunP oA v1 w := both (both h1 h2) (both h3 h4)
  intro os
  have a := fun s : PySem.W.SharedT => (gath_eq (HandSHeadRun.getT s) asL oA).trans (oA_eq _)
  have b := fun s : PySem.W.SharedT => gath_eq (HandSHeadRun.getT s) asL o5
  exact j2 (fun (a : Bool) (b : List He.FnW × List (Option (List (Option (Str × Int)))) × List Bool) => ((((a, b.1), b.2.1), b.2.2) : AlH)) (fun s => (gath_eq _ _ _).trans (congr (congrArg (fun (a : Bool) (b : List He.FnW × List (Option (List (Option (Str × Int)))) × List Bool) => ((((a, b.1), b.2.1), b.2.2) : AlH)) (a s).symm) (b s).symm)) (hA os) (h5 os)
set_option maxHeartbeats 0 in
theorem run1F (w : World) : RunP o1 v1 (w.withFollow "special-get-raises" false) := by
  intro os
  kernel_rfl
set_option maxHeartbeats 0 in
theorem run1T (w : World) : RunP o1 v1 (w.withFollow "special-get-raises" true) := by
  intro os
  kernel_rfl
set_option maxHeartbeats 0 in
theorem run2F (w : World) : RunP o2 v1 (w.withFollow "special-get-raises" false) := by
  intro os
  kernel_rfl
set_option maxHeartbeats 0 in
theorem run2T (w : World) : RunP o2 v1 (w.withFollow "special-get-raises" true) := by
  intro os
  kernel_rfl
set_option maxHeartbeats 0 in
theorem run3F (w : World) : RunP o3 v1 (w.withFollow "special-get-raises" false) := by
  intro os
  kernel_rfl
set_option maxHeartbeats 0 in
theorem run3T (w : World) : RunP o3 v1 (w.withFollow "special-get-raises" true) := by
  intro os
  kernel_rfl
set_option maxHeartbeats 0 in
theorem run4F (w : World) : RunP o4 v1 (w.withFollow "special-get-raises" false) := by
  intro os
  kernel_rfl
set_option maxHeartbeats 0 in
theorem run4T (w : World) : RunP o4 v1 (w.withFollow "special-get-raises" true) := by
  intro os
  kernel_rfl
set_option maxHeartbeats 0 in
theorem run5F (w : World) : RunP o5 v5 (w.withFollow "special-get-raises" false) := by
  intro os
  kernel_rfl
set_option maxHeartbeats 0 in
theorem run5T (w : World) : RunP o5 v5 (w.withFollow "special-get-raises" true) := by
  intro os
  kernel_rfl
theorem runF (w : World) : HandSHeadRun.RunEq RR qV hkH obL 10000 looseL (w.withFollow "special-get-raises" false) := run_of (run1F w) (run2F w) (run3F w) (run4F w) (run5F w)
theorem runT (w : World) : HandSHeadRun.RunEq RR qV hkH obL 10000 looseL (w.withFollow "special-get-raises" true) := run_of (run1T w) (run2T w) (run3T w) (run4T w) (run5T w)
theorem run (w : World) : HandSHeadRun.RunEq RR qV hkH obL 10000 looseL w := byRow2 "special-get-raises" runF runT w
end Bh

/-! A board in plain words. -/
namespace Bh
open PySem PySem.Spec PyProof.Rows L2
structure Bd where
  a : Int
  b : Int
  pc : Int
  sp : Int
  zero : Bool
  lets : Bool
  asleep : Bool
  beat : Int
  sent : List (Int × Int)
  mem : List Int
  line : List (Int × Int)
  la : Nat
  stop : Option (Str × List Int)
  tv : V
  dv : V
  ma : Addr
  sa : Addr
def rd (m : List Int) (i : Int) : Int := m.getD i.toNat 0
def stM (m : List Int) (i : Int) (v : Int) : List Int := m.set i.toNat v
def takeLineM (v : Int) (m : List Int) : List Int := if rd m 772 % 2 < v % 2 then stM (stM m 772 v) 770 (Builtin.bitOr (rd (stM m 772 v) 770) 2) else stM m 772 v
def goTimerM (m : List Int) : List Int := if rd m 769 = 0 then m else if rd m 769 ≤ rd m 768 + 1 then stM (stM m 770 (Builtin.bitOr (rd m 770) 1)) 768 0 else stM m 768 (rd m 768 + 1)
def putMM (a v : Int) (m : List Int) : List Int := if a = 770 then stM m 770 (Builtin.bitAnd (rd m 770) (65535 - v)) else stM m a v
def comeM (x : Bd) : Bd := if x.la < x.line.length ∧ (x.line.getD x.la (0, 0)).1 = x.beat then { x with mem := takeLineM (x.line.getD x.la (0, 0)).2 x.mem, la := x.la + 1 } else x
def passOneM (x : Bd) : Bd := { comeM { x with beat := x.beat + 1 } with mem := goTimerM (comeM { x with beat := x.beat + 1 }).mem }
def passM : Nat → Bd → Bd
  | 0, x => x
  | n + 1, x => passM n (passOneM x)
def sendM (a v : Int) (x : Bd) : Bd := if a = 773 then { x with sent := x.sent ++ [(x.beat, v)] } else x
def putWM (a v : Int) (x : Bd) : Bd := { sendM a v x with mem := putMM a v x.mem }
def giveM (v : Int) (x : Bd) : Bd := { x with a := v, zero := decide (v = 0) }
/-- what a deed does, its words read; pc leads behind it already -/
def doM (op : Nat) (n : Int) (ws : List Int) (x : Bd) : Bd :=
  match op with
  | 1 => giveM n x
  | 2 => giveM (ws.getD 0 0) x
  | 3 => putWM n x.a x
  | 4 => giveM ((x.a + ws.getD 0 0) % 65536) x
  | 5 => giveM ((x.a - ws.getD 0 0) % 65536) x
  | 6 => giveM (Builtin.bitAnd x.a (ws.getD 0 0)) x
  | 7 => giveM (Builtin.bitXor x.a (ws.getD 0 0)) x
  | 8 => giveM (ws.getD 0 0) x
  | 9 => putWM (n + x.b) x.a x
  | 10 => { x with b := x.a }
  | 11 => { giveM x.b x with b := x.a }
  | 12 => { x with pc := n }
  | 13 => if x.zero = true then { x with pc := n } else x
  | 14 => if 32768 ≤ x.a then { x with pc := n } else x
  | 15 => { putWM x.sp x.pc x with sp := x.sp - 1, pc := n }
  | 16 => { x with sp := x.sp + 1, pc := ws.getD 0 0 }
  | 17 => { putWM x.sp x.a x with sp := x.sp - 1 }
  | 18 => giveM (ws.getD 0 0) { x with sp := x.sp + 1 }
  | 19 => { x with asleep := true }
  | 20 => { x with lets := decide (n % 2 = 1) }
  | 21 => { x with sp := x.sp + 2, zero := decide (ws.getD 0 0 % 2 = 1), pc := ws.getD 1 0, lets := true }
  | 22 => giveM (x.a / 2) x
  | _ => x
/-- what a deed reads (false) and puts (true) -/
def touM (op : Nat) (n b sp : Int) : List (Bool × Int) :=
  match op with
  | 2 => [(false, n)]
  | 3 => [(true, n)]
  | 4 => [(false, n)]
  | 5 => [(false, n)]
  | 6 => [(false, n)]
  | 7 => [(false, n)]
  | 8 => [(false, n + b)]
  | 9 => [(true, n + b)]
  | 15 => [(true, sp)]
  | 16 => [(false, sp + 1)]
  | 17 => [(true, sp)]
  | 18 => [(false, sp + 1)]
  | 21 => [(false, sp + 1), (false, sp + 2)]
  | _ => []
/-- why a word can't be read or put there -/
def barM (t : Bool × Int) : Option Str :=
  if ¬ (0 ≤ t.2 ∧ t.2 < 774) then some "far" else if t.1 = false then none else if t.2 < 512 then some "flash" else if t.2 = 772 then some "still" else none
def firstBad : List (Bool × Int) → Option (Str × Int)
  | [] => none
  | t :: r => match barM t with
    | some w => some (w, t.2)
    | none => firstBad r
def readsM (m : List Int) (ts : List (Bool × Int)) : List Int := (ts.filter fun t => !t.1).map fun t => rd m t.2
def opM (x : Bd) : Nat := (rd x.mem x.pc / 1024).toNat
def xM (x : Bd) : Int := rd x.mem x.pc % 1024
def toM (x : Bd) : List (Bool × Int) := touM (opM x) (xM x) x.b x.sp
/-- the deed at pc, which can be done -/
def doneM (x : Bd) : Bd := passM (1 + (toM x).length) (doM (opM x) (xM x) (readsM x.mem (toM x)) { x with pc := x.pc + 1 })
def stopAt (w : Str) (ns : List Int) (x : Bd) : Str × Bd := ("stopped", { x with stop := some (w, ns) })
def deedM (x : Bd) : Str × Bd :=
  if ¬ (0 ≤ x.pc ∧ x.pc < 768) then stopAt "far" [x.pc, x.pc] x
  else if 23 ≤ opM x then stopAt "none" [x.pc] x
  else if opM x = 0 then stopAt "mark" [x.pc] x
  else match firstBad (toM x) with
    | some r => stopAt r.1 [x.pc, r.2] x
    | none => ("deed", doneM x)
def calledM (x : Bd) : Int := Builtin.bitAnd (rd x.mem 770) (rd x.mem 771)
def b2n (b : Bool) : Int := if b = true then 1 else 0
def begunM (x : Bd) : Bd :=
  let y := putWM (x.sp - 1) (b2n x.zero) (putWM x.sp x.pc x)
  passM 3 { y with sp := x.sp - 2, lets := false, pc := if Builtin.bitAnd (calledM x) 1 ≠ 0 then 1 else 2 }
def intM (x : Bd) : Str × Bd :=
  match firstBad [(true, x.sp), (true, x.sp - 1)] with
  | some r => stopAt r.1 [x.pc, r.2] x
  | none => ("interrupt", begunM x)
def turnM (x : Bd) : Str × Bd :=
  if x.stop ≠ none then ("stopped", x)
  else if x.asleep = true ∧ calledM x = 0 then ("asleep", passM 1 x)
  else if x.lets = true ∧ calledM x ≠ 0 then intM { x with asleep := false }
  else deedM { x with asleep := false }
/-- with other things in the fields touched and did -/
def Bd.tvd (x : Bd) (T D : V) : Bd := { x with tv := T, dv := D }
theorem tvd_come (x : Bd) (T D : V) : comeM (x.tvd T D) = (comeM x).tvd T D := by
  unfold comeM
  show (if x.la < x.line.length ∧ (x.line.getD x.la (0, 0)).1 = x.beat then _ else _) = Bd.tvd (if x.la < x.line.length ∧ (x.line.getD x.la (0, 0)).1 = x.beat then _ else _) T D
  split <;> rfl
theorem tvd_one (x : Bd) (T D : V) : passOneM (x.tvd T D) = (passOneM x).tvd T D := by
  have h := tvd_come { x with beat := x.beat + 1 } T D
  unfold passOneM
  show { comeM (Bd.tvd { x with beat := x.beat + 1 } T D) with mem := goTimerM (comeM (Bd.tvd { x with beat := x.beat + 1 } T D)).mem } = _
  rw [h]
  rfl
theorem tvd_pass : ∀ (n : Nat) (x : Bd) (T D : V), passM n (x.tvd T D) = (passM n x).tvd T D
  | 0, _, _, _ => rfl
  | n + 1, x, T, D => by
    show passM n (passOneM (x.tvd T D)) = (passM n (passOneM x)).tvd T D
    rw [tvd_one, tvd_pass n]
theorem tvd_put (a v : Int) (x : Bd) (T D : V) : putWM a v (x.tvd T D) = (putWM a v x).tvd T D := by
  unfold putWM sendM
  split <;> rfl
theorem tvd_do (op : Nat) (n : Int) (ws : List Int) (x : Bd) (T D : V) : doM op n ws (x.tvd T D) = (doM op n ws x).tvd T D := by
  unfold doM
  split
  all_goals first
    | rfl
    | (show putWM _ _ (x.tvd T D) = _; rw [tvd_put]; rfl)
    | (show { putWM x.sp x.pc (x.tvd T D) with sp := x.sp - 1, pc := n } = _; rw [tvd_put]; rfl)
    | (show { putWM x.sp x.a (x.tvd T D) with sp := x.sp - 1 } = _; rw [tvd_put]; rfl)
    | (show (if x.zero = true then _ else _) = Bd.tvd (if x.zero = true then _ else _) T D; split <;> rfl)
    | (show (if 32768 ≤ x.a then _ else _) = Bd.tvd (if 32768 ≤ x.a then _ else _) T D; split <;> rfl)
theorem tvd_done (x : Bd) (T D : V) : doneM (x.tvd T D) = (doneM x).tvd T D := by
  show passM (1 + (toM x).length) (doM (opM x) (xM x) (readsM x.mem (toM x)) (Bd.tvd { x with pc := x.pc + 1 } T D)) = (passM (1 + (toM x).length) (doM (opM x) (xM x) (readsM x.mem (toM x)) { x with pc := x.pc + 1 })).tvd T D
  rw [tvd_do, tvd_pass]
theorem tvd_begun (x : Bd) (T D : V) : begunM (x.tvd T D) = (begunM x).tvd T D := by
  show passM 3 { putWM (x.sp - 1) (b2n x.zero) (putWM x.sp x.pc (x.tvd T D)) with sp := x.sp - 2, lets := false, pc := if Builtin.bitAnd (calledM x) 1 ≠ 0 then 1 else 2 } = _
  rw [tvd_put, tvd_put]
  exact tvd_pass 3 { putWM (x.sp - 1) (b2n x.zero) (putWM x.sp x.pc x) with sp := x.sp - 2, lets := false, pc := if Builtin.bitAnd (calledM x) 1 ≠ 0 then 1 else 2 } T D
theorem deed_cases (x : Bd) : (∃ w ns, deedM x = (("stopped" : Str), { x with stop := some (w, ns) })) ∨ deedM x = (("deed" : Str), doneM x) := by
  unfold deedM
  split
  · exact .inl ⟨_, _, rfl⟩
  · split
    · exact .inl ⟨_, _, rfl⟩
    · split
      · exact .inl ⟨_, _, rfl⟩
      · split
        · exact .inl ⟨_, _, rfl⟩
        · exact .inr rfl
theorem tvd_deed (x : Bd) (T D : V) : deedM (x.tvd T D) = ((deedM x).1, (deedM x).2.tvd T D) := by
  unfold deedM
  show (if ¬ (0 ≤ x.pc ∧ x.pc < 768) then _ else if 23 ≤ opM x then _ else if opM x = 0 then _ else match firstBad (toM x) with
    | some r => _
    | none => _) = _
  split
  · rfl
  · split
    · rfl
    · split
      · rfl
      · split
        · rfl
        · rw [tvd_done]
theorem tvd_int (x : Bd) (T D : V) : intM (x.tvd T D) = ((intM x).1, (intM x).2.tvd T D) := by
  unfold intM
  show (match firstBad [(true, x.sp), (true, x.sp - 1)] with
    | some r => _
    | none => _) = _
  split
  · rfl
  · rw [tvd_begun]
theorem tvd_turn (x : Bd) (T D : V) : turnM (x.tvd T D) = ((turnM x).1, (turnM x).2.tvd T D) := by
  unfold turnM
  show (if x.stop ≠ none then _ else if x.asleep = true ∧ calledM x = 0 then (("asleep" : Str), passM 1 (x.tvd T D)) else if x.lets = true ∧ calledM x ≠ 0 then intM (Bd.tvd { x with asleep := false } T D) else deedM (Bd.tvd { x with asleep := false } T D)) = _
  split
  · rfl
  · split
    · rw [tvd_pass]
    · split
      · rw [tvd_int]
      · rw [tvd_deed]
theorem firstBad_cons (t : Bool × Int) (r : List (Bool × Int)) : firstBad (t :: r) = match barM t with
    | some w => some (w, t.2)
    | none => firstBad r := rfl
theorem barM_ok {t : Bool × Int} (h : barM t = none) : 0 ≤ t.2 ∧ t.2 < 774 := by
  unfold barM at h
  split at h
  · cases h
  · rename_i z
    exact Classical.not_not.mp z
theorem firstBad_ok : ∀ {ts : List (Bool × Int)}, firstBad ts = none → ∀ t ∈ ts, barM t = none
  | [], _, _, h => by cases h
  | t :: r, h, u, hu => by
    unfold firstBad at h
    cases e : barM t with
    | some w => rw [e] at h; cases h
    | none =>
      rw [e] at h
      rcases List.mem_cons.mp hu with rfl | h2
      · exact e
      · exact firstBad_ok h u h2
theorem touM_len (op : Nat) (n b sp : Int) : (touM op n b sp).length ≤ 2 := by
  unfold touM
  split <;> first | exact Nat.le_succ _ | exact Nat.le_refl _ | exact Nat.zero_le _
theorem stM_len (m : List Int) (i v : Int) : (stM m i v).length = m.length := List.length_set
theorem takeLineM_len (v : Int) (m : List Int) : (takeLineM v m).length = m.length := by
  unfold takeLineM
  split
  · rw [stM_len, stM_len]
  · rw [stM_len]
theorem goTimerM_len (m : List Int) : (goTimerM m).length = m.length := by
  unfold goTimerM
  split
  · rfl
  · split
    · rw [stM_len, stM_len]
    · rw [stM_len]
theorem putMM_len (a v : Int) (m : List Int) : (putMM a v m).length = m.length := by
  unfold putMM
  split
  · rw [stM_len]
  · rw [stM_len]
theorem atI_rd {m : List Int} {i : Int} (h0 : 0 ≤ i) (h1 : i < m.length) : atI (m.map V.int) i = some (.int (rd m i)) := by
  have hj : i.toNat < m.length := by omega
  have e : i = ((i.toNat : Nat) : Int) := (Int.toNat_of_nonneg h0).symm
  have q : atI (m.map V.int) ((i.toNat : Nat) : Int) = some (.int (rd m i)) := atI_nat (by
    unfold rd
    rw [List.getElem?_map, List.getElem?_eq_getElem hj, List.getD_eq_getElem?_getD, List.getElem?_eq_getElem hj]
    rfl)
  rw [← e] at q
  exact q
theorem ixN_in {n : Nat} {i : Int} (h0 : 0 ≤ i) (h1 : i < n) : ixN n i = some i.toNat := by
  unfold ixN
  rw [if_pos h0, if_pos h1]
theorem set_map (m : List Int) (i v : Int) : (m.map V.int).set i.toNat (.int v) = (stM m i v).map V.int := by
  unfold stM
  rw [List.map_set]
theorem rd_stM_same {m : List Int} {i v : Int} (h0 : 0 ≤ i) (h1 : i < m.length) : rd (stM m i v) i = v := by
  unfold rd stM
  have : i.toNat < m.length := by omega
  rw [List.getD_eq_getElem?_getD, List.getElem?_set_self this]
  rfl
theorem rd_stM_ne {m : List Int} {i j v : Int} (h0 : 0 ≤ i) (h1 : 0 ≤ j) (h : i ≠ j) : rd (stM m i v) j = rd m j := by
  unfold rd stM
  rw [List.getD_eq_getElem?_getD, List.getElem?_set_ne (by omega), ← List.getD_eq_getElem?_getD]
end Bh

/-! A board in the heap. -/
namespace Bh
open PySem PySem.Spec PyProof.Rows L2
theorem same_upd' {H : Hp} {p : Addr} {o : HO} (h : H p = none) : Same H (upd H p o) := fun b x e => by
  rw [upd_ne (ne_of_none e h)]
  exact e
theorem same_of {H0 H : Hp} {x : Addr} {o : HO} (sm : Same H0 H) (fx : H0 x = none) : Same H0 (upd H x o) := fun b y e => by
  rw [upd_ne (ne_of_none e fx)]
  exact sm _ _ e
theorem upd_upd {H : Hp} {p : Addr} {o o' : HO} : upd (upd H p o) p o' = upd H p o' := by
  funext b
  by_cases h : b = p
  · subst h
    rw [upd_same, upd_same]
  · rw [upd_ne h, upd_ne h, upd_ne h]
theorem upd_id {H : Hp} {p : Addr} {o : HO} (h : H p = some o) : upd H p o = H := by
  funext b
  by_cases e : b = p
  · subst e
    rw [upd_same, h]
  · rw [upd_ne e]
theorem ifN {c : Bool} {A B : Prop} (h1 : c = false → A) (h2 : c = true → B) : if (!c) = true then A else B := by
  cases c with
  | true => exact h2 rfl
  | false => exact h1 rfl
theorem ifJ {c : Bool} {A B : Prop} (h1 : B) (h2 : c = true → B → A) : if c = true then A else B := by
  cases c with
  | true => exact h2 rfl h1
  | false => exact h1
theorem ifB {c : Bool} {A B : Prop} (h1 : c = true → A) (h2 : c = false → B) : if c = true then A else B := by
  cases c with
  | true => exact h1 rfl
  | false => exact h2 rfl
section
variable {X : Cx}
theorem pgI {x : Str} {n : Int} {t : Tok} {pos : Pos} (hm : X.mg x = some (.int n t)) (hg : Gl X x := by rfl) (hd : (x == ("__debug__" : Str)) = false := by decide) : PE X (.Name x pos) (tC (.int n)) := pe_glob (v := .int n) hg hm ⟨t, rfl⟩ hd
theorem pgR {x : Str} {a : Addr} {pos : Pos} (hm : X.mg x = some (.ref a)) (hg : Gl X x := by rfl) (hd : (x == ("__debug__" : Str)) = false := by decide) : PE X (.Name x pos) (tC (.ref a)) := pe_glob (v := .ref a) hg hm rfl hd
theorem ix_listK {K : PySem.W.Frag} (h : X.K = K := by rfl) : IxR X (rIxL K) := by
  subst h
  exact ix_list
theorem ix_tupK {K : PySem.W.Frag} (h : X.K = K := by rfl) : IxR X (rIxT K) := by
  subst h
  exact ix_tup
end
theorem gtK {X : Cx} {K : PySem.W.Frag} {n : Nat} {es : List Expr} {k : Nat} {pos : Pos} {t : TGs} (hK : X.K = K) (hc : X.calm = true) (h : PGs X es t) (hn : (assignEach es X.env).length = n) (hst : (assignEach es X.env).findIdx? (·.1) = none) : PG X (.Tuple es k pos) (gTup K n t) := by
  subst hK
  subst hn
  exact pg_tup hc h rfl hst
theorem pe_fldK {X : Cx} {K : PySem.W.Frag} {e : Expr} {f : Str} {pos : Pos} {ta : TE} (hK : X.K = K) (he : PE X e ta) (hb : attributeBase e f X.env (eval e X.env) = eval e X.env) : PE X (.Attribute e f pos) (tFld K ta f) := by
  subst hK
  exact pe_fld he hb
section
variable (P : Program) (w : World) (K : PySem.W.Frag) (mg : Str → Option Value) (base : Heap)
/-- a def that may be called by its name -/
structure CalF (k : Nat) (nm : Str) (ps : List Str) (sp : Sp) (f : Addr) (fd : FuncData) : Prop where
  g : mg nm = some (.ref f)
  kp : PySem.W.keepIn K (.ref f) = true
  b : Binds K fd ps []
  G : FnOk P w K mg base CX0 k f fd ps sp
structure CalM (C : Addr) (k : Nat) (nm : Str) (ps : List Str) (sp : Sp) (f : Addr) (fd : FuncData) : Prop where
  c : Cls K C
  m : Meth K C nm f
  b : Binds K fd ps []
  G : FnOk P w K mg base CX0 k f fd ps sp
/-- a class that may be called by its name -/
structure CalC (C : Addr) (k : Nat) (nm : Str) (ps : List Str) (sp : Sp) (f : Addr) (fd : FuncData) : Prop where
  M : Mk K C f
  g : mg nm = some (.ref C)
  b : Binds K fd ps []
  I : FnOk P w K mg base CX0 k f fd ps sp
end
/-! ### fields -/
def bdF (r t m l : Addr) (z le as : Bool) (bt : Int) (sv : V) (la : Nat) (tv dv : V) : List (Str × V) :=
  [("registers", .ref r), ("zero", .bl z), ("lets", .bl le), ("asleep", .bl as), ("beat", .int bt), ("stopped", sv), ("sent", .ref t), ("memory", .ref m), ("line", .ref l), ("line_at", .int (la : Int)), ("touched", tv), ("did", dv), ("bend", .int 0)]
def mmF (w s : Addr) : List (Str × V) := [("words", .ref w), ("swapped", .ref s)]
section
variable {r t m l w s : Addr} {z le as z' : Bool} {bt bt' : Int} {la : Nat} {sv tv dv v : V}
theorem bF_reg : (bdF r t m l z le as bt sv la tv dv).lookup ("registers" : Str) = some (.ref r) := by kernel_rfl
theorem bF_zero : (bdF r t m l z le as bt sv la tv dv).lookup ("zero" : Str) = some (.bl z) := by kernel_rfl
theorem bF_lets : (bdF r t m l z le as bt sv la tv dv).lookup ("lets" : Str) = some (.bl le) := by kernel_rfl
theorem bF_asleep : (bdF r t m l z le as bt sv la tv dv).lookup ("asleep" : Str) = some (.bl as) := by kernel_rfl
theorem bF_beat : (bdF r t m l z le as bt sv la tv dv).lookup ("beat" : Str) = some (.int bt) := by kernel_rfl
theorem bF_stop : (bdF r t m l z le as bt sv la tv dv).lookup ("stopped" : Str) = some sv := by kernel_rfl
theorem bF_sent : (bdF r t m l z le as bt sv la tv dv).lookup ("sent" : Str) = some (.ref t) := by kernel_rfl
theorem bF_mem : (bdF r t m l z le as bt sv la tv dv).lookup ("memory" : Str) = some (.ref m) := by kernel_rfl
theorem bF_line : (bdF r t m l z le as bt sv la tv dv).lookup ("line" : Str) = some (.ref l) := by kernel_rfl
theorem bF_la : (bdF r t m l z le as bt sv la tv dv).lookup ("line_at" : Str) = some (.int (la : Int)) := by kernel_rfl
theorem bF_bend : (bdF r t m l z le as bt sv la tv dv).lookup ("bend" : Str) = some (.int 0) := by kernel_rfl
theorem bP_bend : putF "bend" (.int 0) (bdF r t m l z le as bt sv la tv dv) = bdF r t m l z le as bt sv la tv dv := by kernel_rfl
theorem bP_zero : putF "zero" (.bl z') (bdF r t m l z le as bt sv la tv dv) = bdF r t m l z' le as bt sv la tv dv := by kernel_rfl
theorem bP_lets : putF "lets" (.bl z') (bdF r t m l z le as bt sv la tv dv) = bdF r t m l z z' as bt sv la tv dv := by kernel_rfl
theorem bP_asleep : putF "asleep" (.bl z') (bdF r t m l z le as bt sv la tv dv) = bdF r t m l z le z' bt sv la tv dv := by kernel_rfl
theorem bP_beat : putF "beat" (.int bt') (bdF r t m l z le as bt sv la tv dv) = bdF r t m l z le as bt' sv la tv dv := by kernel_rfl
theorem bP_la {n : Nat} : putF "line_at" (.int ((la : Int) + 1)) (bdF r t m l z le as bt sv la tv dv) = bdF r t m l z le as bt sv (la + 1) tv dv := by kernel_rfl
theorem bP_stop : putF "stopped" v (bdF r t m l z le as bt sv la tv dv) = bdF r t m l z le as bt v la tv dv := by kernel_rfl
theorem bP_tou : putF "touched" v (bdF r t m l z le as bt sv la tv dv) = bdF r t m l z le as bt sv la v dv := by kernel_rfl
theorem bP_did : putF "did" v (bdF r t m l z le as bt sv la tv dv) = bdF r t m l z le as bt sv la tv v := by kernel_rfl
theorem bF_len : (bdF r t m l z le as bt sv la tv dv).length = 13 := rfl
theorem mF_w : (mmF w s).lookup ("words" : Str) = some (.ref w) := by kernel_rfl
theorem mF_s : (mmF w s).lookup ("swapped" : Str) = some (.ref s) := by kernel_rfl
theorem bN_coming : (bdF r t m l z le as bt sv la tv dv).lookup ("coming" : Str) = none := by kernel_rfl
theorem bN_do : (bdF r t m l z le as bt sv la tv dv).lookup ("do_deed" : Str) = none := by kernel_rfl
theorem bN_may : (bdF r t m l z le as bt sv la tv dv).lookup ("may_touch" : Str) = none := by kernel_rfl
theorem bN_pbt : (bdF r t m l z le as bt sv la tv dv).lookup ("put_by_turn" : Str) = none := by kernel_rfl
theorem bN_pw : (bdF r t m l z le as bt sv la tv dv).lookup ("put_word" : Str) = none := by kernel_rfl
theorem bN_pass : (bdF r t m l z le as bt sv la tv dv).lookup ("pass_beats" : Str) = none := by kernel_rfl
theorem bN_come : (bdF r t m l z le as bt sv la tv dv).lookup ("come_line" : Str) = none := by kernel_rfl
theorem bN_begin : (bdF r t m l z le as bt sv la tv dv).lookup ("begin_interrupt" : Str) = none := by kernel_rfl
theorem bN_stop : (bdF r t m l z le as bt sv la tv dv).lookup ("stop" : Str) = none := by kernel_rfl
theorem bN_turn : (bdF r t m l z le as bt sv la tv dv).lookup ("turn" : Str) = none := by kernel_rfl
theorem mN_at : (mmF w s).lookup ("word_at" : Str) = none := by kernel_rfl
theorem mN_read : (mmF w s).lookup ("read" : Str) = none := by kernel_rfl
theorem mN_put : (mmF w s).lookup ("put" : Str) = none := by kernel_rfl
theorem mN_called : (mmF w s).lookup ("called_flags" : Str) = none := by kernel_rfl
theorem mN_take : (mmF w s).lookup ("take_line" : Str) = none := by kernel_rfl
theorem mN_timer : (mmF w s).lookup ("go_timer" : Str) = none := by kernel_rfl
end
def regD (a b pc sp : Int) : List (Key × V) := [(Sum.inr "a", .int a), (Sum.inr "b", .int b), (Sum.inr "pc", .int pc), (Sum.inr "sp", .int sp)]
section
variable {a b pc sp v : Int}
theorem rG_a : valV (regD a b pc sp) (Sum.inr "a") = some (.int a) := by kernel_rfl
theorem rG_b : valV (regD a b pc sp) (Sum.inr "b") = some (.int b) := by kernel_rfl
theorem rG_pc : valV (regD a b pc sp) (Sum.inr "pc") = some (.int pc) := by kernel_rfl
theorem rG_sp : valV (regD a b pc sp) (Sum.inr "sp") = some (.int sp) := by kernel_rfl
theorem rP_a : putK (regD a b pc sp) (Sum.inr "a") (.int v) = regD v b pc sp := by kernel_rfl
theorem rP_b : putK (regD a b pc sp) (Sum.inr "b") (.int v) = regD a v pc sp := by kernel_rfl
theorem rP_pc : putK (regD a b pc sp) (Sum.inr "pc") (.int v) = regD a b v sp := by kernel_rfl
theorem rP_sp : putK (regD a b pc sp) (Sum.inr "sp") (.int v) = regD a b pc v := by kernel_rfl
end
/-! ### lists of tuples -/
def TupsAt (H : Hp) : List V → List (Int × Int) → Prop := Paired fun v u => ∃ t, v = .ref t ∧ H t = some (.tup [.int u.1, .int u.2])
theorem TupsAt.mono {H H' : Hp} (k : ∀ t xs, H t = some (.tup xs) → H' t = some (.tup xs)) : ∀ {us : List V} {ls : List (Int × Int)}, TupsAt H us ls → TupsAt H' us ls
  | _, _, .nil => .nil
  | _, _, .cons h r => .cons (let ⟨t, e, q⟩ := h; ⟨t, e, k _ _ q⟩) (TupsAt.mono k r)
theorem TupsAt.snoc {H : Hp} {t : Addr} {u : Int × Int} (ht : H t = some (.tup [.int u.1, .int u.2])) : ∀ {us : List V} {ls : List (Int × Int)}, TupsAt H us ls → TupsAt H (us ++ [.ref t]) (ls ++ [u])
  | _, _, .nil => .cons ⟨t, rfl, ht⟩ .nil
  | _, _, .cons h r => .cons h (TupsAt.snoc ht r)
theorem TupsAt.len {H : Hp} : ∀ {us : List V} {ls : List (Int × Int)}, TupsAt H us ls → us.length = ls.length
  | _, _, .nil => rfl
  | _, _, .cons _ r => by rw [List.length_cons, List.length_cons, TupsAt.len r]
theorem TupsAt.get {H : Hp} : ∀ {us : List V} {ls : List (Int × Int)} {i : Nat}, TupsAt H us ls → i < ls.length → ∃ t, us[i]? = some (.ref t) ∧ H t = some (.tup [.int (ls.getD i (0, 0)).1, .int (ls.getD i (0, 0)).2])
  | _, _, _, .nil, h => by cases h
  | _, _, 0, .cons h r, _ => by
    obtain ⟨t, rfl, q⟩ := h
    exact ⟨t, rfl, q⟩
  | _, _, i + 1, .cons h r, hi => by
    obtain ⟨t, e1, e2⟩ := TupsAt.get (i := i) r (by rw [List.length_cons] at hi; omega)
    exact ⟨t, by rw [List.getElem?_cons_succ]; exact e1, by rw [List.getD_cons_succ]; exact e2⟩
/-! ### the board -/
structure Ad where
  dx : Addr
  r : Addr
  m : Addr
  dm : Addr
  w : Addr
  s : Addr
  t : Addr
  l : Addr
def StopAt (H : Hp) (v : V) : Option (Str × List Int) → Prop
  | none => v = .non
  | some r => ∃ q, v = .ref q ∧ H q = some (.tup (.str r.1 :: r.2.map V.int))
theorem StopAt.mono {H H' : Hp} (k : ∀ t xs, H t = some (.tup xs) → H' t = some (.tup xs)) {v : V} : ∀ {o : Option (Str × List Int)}, StopAt H v o → StopAt H' v o
  | none, h => h
  | some r, ⟨q, e, h⟩ => ⟨q, e, k _ _ h⟩
/-- the stop, and what stands in the fields touched and did -/
def OthAt (H : Hp) (sv tv dv : V) (so : Option (Str × List Int)) (tx dx : V) : Prop := StopAt H sv so ∧ tv = tx ∧ dv = dx
theorem OthAt.mono {H H' : Hp} (k : ∀ t xs, H t = some (.tup xs) → H' t = some (.tup xs)) {sv tv dv tx dx : V} {so : Option (Str × List Int)} (h : OthAt H sv tv dv so tx dx) : OthAt H' sv tv dv so tx dx := ⟨h.1.mono k, h.2⟩
theorem OthAt.mono' {H H' : Hp} {sv tv dv tx dx : V} {so : Option (Str × List Int)} (h : OthAt H sv tv dv so tx dx) (k : ∀ t xs, H t = some (.tup xs) → H' t = some (.tup xs)) : OthAt H' sv tv dv so tx dx := ⟨h.1.mono k, h.2⟩
structure Bp (CB CM : Addr) (H0 H : Hp) (p : Addr) (A : Ad) (ts ls : List V) (x : Bd) : Prop where
  sm : Same H0 H
  fp : H0 p = none
  fr : H0 A.r = none
  fw : H0 A.w = none
  ft : H0 A.t = none
  fm : H0 A.m = none
  fs : H0 A.s = none
  fl : H0 A.l = none
  hp : ∃ sv tv dv, H p = some (.ins CB A.dx (bdF A.r A.t A.m A.l x.zero x.lets x.asleep x.beat sv x.la tv dv)) ∧ OthAt H sv tv dv x.stop x.tv x.dv
  hr : H A.r = some (.dK (regD x.a x.b x.pc x.sp))
  hm : H A.m = some (.ins CM A.dm (mmF A.w A.s))
  hw : H A.w = some (.lst (x.mem.map V.int))
  hs : H A.s = some (.dK [])
  ht : H A.t = some (.lst ts)
  hl : H A.l = some (.lst ls)
  pm : p ≠ A.m
  rs : A.r ≠ A.s
  wt : A.w ≠ A.t
  wl : A.w ≠ A.l
  tl : A.t ≠ A.l
  am : A.m = x.ma
  as : A.s = x.sa
  us : TupsAt H ts x.sent
  ll : TupsAt H ls x.line
  lm : x.mem.length = 774
def BoardAt (CB CM : Addr) (H0 H : Hp) (p : Addr) (x : Bd) : Prop := ∃ A ts ls, Bp CB CM H0 H p A ts ls x
section
variable {CB CM p : Addr} {H0 H : Hp} {A : Ad} {ts ls : List V} {x : Bd}
theorem Bp.more (h : Bp CB CM H0 H p A ts ls x) {q : Addr} {o : HO} (hq : H q = none) : Bp CB CM H0 (upd H q o) p A ts ls x where
  sm := h.sm.trans (same_upd' hq)
  fp := h.fp
  fr := h.fr
  fw := h.fw
  ft := h.ft
  fm := h.fm
  fs := h.fs
  fl := h.fl
  hp := let ⟨sv, tv, dv, e, z⟩ := h.hp; ⟨sv, tv, dv, same_upd' hq _ _ e, z.mono fun t xs e => same_upd' hq _ _ e⟩
  hr := same_upd' hq _ _ h.hr
  hm := same_upd' hq _ _ h.hm
  hw := same_upd' hq _ _ h.hw
  hs := same_upd' hq _ _ h.hs
  ht := same_upd' hq _ _ h.ht
  hl := same_upd' hq _ _ h.hl
  pm := h.pm
  rs := h.rs
  wt := h.wt
  wl := h.wl
  tl := h.tl
  am := h.am
  as := h.as
  us := h.us.mono fun t xs e => same_upd' hq _ _ e
  ll := h.ll.mono fun t xs e => same_upd' hq _ _ e
  lm := h.lm
/-- its object changes -/
theorem Bp.fld (h : Bp CB CM H0 H p A ts ls x) {z le as : Bool} {bt : Int} {sv : V} {la : Nat} {tv dv : V} {so : Option (Str × List Int)} {tx dx : V} (hso : OthAt H sv tv dv so tx dx) : Bp CB CM H0 (upd H p (.ins CB A.dx (bdF A.r A.t A.m A.l z le as bt sv la tv dv))) p A ts ls { x with zero := z, lets := le, asleep := as, beat := bt, la := la, stop := so, tv := tx, dv := dx } := by
  obtain ⟨sv0, tv0, dv0, hp, hz⟩ := h.hp
  exact {
    sm := same_of h.sm h.fp
    fp := h.fp
    fr := h.fr
    fw := h.fw
    ft := h.ft
    fm := h.fm
    fs := h.fs
    fl := h.fl
    hp := ⟨sv, tv, dv, upd_same, hso.mono fun t xs e => by rw [upd_ne (ne_of e hp (by intro q; cases q))]; exact e⟩
    hr := by rw [upd_ne (ne_of h.hr hp (by intro q; cases q))]; exact h.hr
    hm := by rw [upd_ne h.pm.symm]; exact h.hm
    hw := by rw [upd_ne (ne_of h.hw hp (by intro q; cases q))]; exact h.hw
    hs := by rw [upd_ne (ne_of h.hs hp (by intro q; cases q))]; exact h.hs
    ht := by rw [upd_ne (ne_of h.ht hp (by intro q; cases q))]; exact h.ht
    hl := by rw [upd_ne (ne_of h.hl hp (by intro q; cases q))]; exact h.hl
    pm := h.pm
    rs := h.rs
    wt := h.wt
    wl := h.wl
    tl := h.tl
    am := h.am
    as := h.as
    us := h.us.mono fun t xs e => by rw [upd_ne (ne_of e hp (by intro q; cases q))]; exact e
    ll := h.ll.mono fun t xs e => by rw [upd_ne (ne_of e hp (by intro q; cases q))]; exact e
    lm := h.lm }
theorem Bp.regs (h : Bp CB CM H0 H p A ts ls x) {a b pc sp : Int} : Bp CB CM H0 (upd H A.r (.dK (regD a b pc sp))) p A ts ls { x with a := a, b := b, pc := pc, sp := sp } := by
  obtain ⟨sv0, tv0, dv0, hp, hz⟩ := h.hp
  exact {
    sm := same_of h.sm h.fr
    fp := h.fp
    fr := h.fr
    fw := h.fw
    ft := h.ft
    fm := h.fm
    fs := h.fs
    fl := h.fl
    hp := ⟨sv0, tv0, dv0, by rw [upd_ne (ne_of hp h.hr (by intro q; cases q))]; exact hp, hz.mono fun t xs e => by rw [upd_ne (ne_of e h.hr (by intro q; cases q))]; exact e⟩
    hr := upd_same
    hm := by rw [upd_ne (ne_of h.hm h.hr (by intro q; cases q))]; exact h.hm
    hw := by rw [upd_ne (ne_of h.hw h.hr (by intro q; cases q))]; exact h.hw
    hs := by rw [upd_ne h.rs.symm]; exact h.hs
    ht := by rw [upd_ne (ne_of h.ht h.hr (by intro q; cases q))]; exact h.ht
    hl := by rw [upd_ne (ne_of h.hl h.hr (by intro q; cases q))]; exact h.hl
    pm := h.pm
    rs := h.rs
    wt := h.wt
    wl := h.wl
    tl := h.tl
    am := h.am
    as := h.as
    us := h.us.mono fun t xs e => by rw [upd_ne (ne_of e h.hr (by intro q; cases q))]; exact e
    ll := h.ll.mono fun t xs e => by rw [upd_ne (ne_of e h.hr (by intro q; cases q))]; exact e
    lm := h.lm }
theorem Bp.wds (h : Bp CB CM H0 H p A ts ls x) {m : List Int} (hm : m.length = 774) : Bp CB CM H0 (upd H A.w (.lst (m.map V.int))) p A ts ls { x with mem := m } := by
  obtain ⟨sv0, tv0, dv0, hp, hz⟩ := h.hp
  exact {
    sm := same_of h.sm h.fw
    fp := h.fp
    fr := h.fr
    fw := h.fw
    ft := h.ft
    fm := h.fm
    fs := h.fs
    fl := h.fl
    hp := ⟨sv0, tv0, dv0, by rw [upd_ne (ne_of hp h.hw (by intro q; cases q))]; exact hp, hz.mono fun t xs e => by rw [upd_ne (ne_of e h.hw (by intro q; cases q))]; exact e⟩
    hr := by rw [upd_ne (ne_of h.hr h.hw (by intro q; cases q))]; exact h.hr
    hm := by rw [upd_ne (ne_of h.hm h.hw (by intro q; cases q))]; exact h.hm
    hw := upd_same
    hs := by rw [upd_ne (ne_of h.hs h.hw (by intro q; cases q))]; exact h.hs
    ht := by rw [upd_ne h.wt.symm]; exact h.ht
    hl := by rw [upd_ne h.wl.symm]; exact h.hl
    pm := h.pm
    rs := h.rs
    wt := h.wt
    wl := h.wl
    tl := h.tl
    am := h.am
    as := h.as
    us := h.us.mono fun t xs e => by rw [upd_ne (ne_of e h.hw (by intro q; cases q))]; exact e
    ll := h.ll.mono fun t xs e => by rw [upd_ne (ne_of e h.hw (by intro q; cases q))]; exact e
    lm := hm }
theorem Bp.snd (h : Bp CB CM H0 H p A ts ls x) {q : Addr} {u : Int × Int} (hq : H q = some (.tup [.int u.1, .int u.2])) : Bp CB CM H0 (upd H A.t (.lst (ts ++ [.ref q]))) p A (ts ++ [.ref q]) ls { x with sent := x.sent ++ [u] } := by
  obtain ⟨sv0, tv0, dv0, hp, hz⟩ := h.hp
  exact {
    sm := same_of h.sm h.ft
    fp := h.fp
    fr := h.fr
    fw := h.fw
    ft := h.ft
    fm := h.fm
    fs := h.fs
    fl := h.fl
    hp := ⟨sv0, tv0, dv0, by rw [upd_ne (ne_of hp h.ht (by intro q; cases q))]; exact hp, hz.mono fun t xs e => by rw [upd_ne (ne_of e h.ht (by intro q; cases q))]; exact e⟩
    hr := by rw [upd_ne (ne_of h.hr h.ht (by intro q; cases q))]; exact h.hr
    hm := by rw [upd_ne (ne_of h.hm h.ht (by intro q; cases q))]; exact h.hm
    hw := by rw [upd_ne h.wt]; exact h.hw
    hs := by rw [upd_ne (ne_of h.hs h.ht (by intro q; cases q))]; exact h.hs
    ht := upd_same
    hl := by rw [upd_ne h.tl.symm]; exact h.hl
    pm := h.pm
    rs := h.rs
    wt := h.wt
    wl := h.wl
    tl := h.tl
    am := h.am
    as := h.as
    us := (TupsAt.snoc hq h.us).mono fun t xs e => by rw [upd_ne (ne_of e h.ht (by intro q; cases q))]; exact e
    ll := h.ll.mono fun t xs e => by rw [upd_ne (ne_of e h.ht (by intro q; cases q))]; exact e
    lm := h.lm }
end
theorem Bp.same {CB CM p : Addr} {H0 H H1 : Hp} {A : Ad} {ts ls : List V} {x : Bd} (h : Bp CB CM H0 H p A ts ls x) (s : Same H H1) : Bp CB CM H0 H1 p A ts ls x where
  sm := h.sm.trans s
  fp := h.fp
  fr := h.fr
  fw := h.fw
  ft := h.ft
  fm := h.fm
  fs := h.fs
  fl := h.fl
  hp := let ⟨sv, tv, dv, e, z⟩ := h.hp; ⟨sv, tv, dv, s _ _ e, z.mono fun t xs e => s _ _ e⟩
  hr := s _ _ h.hr
  hm := s _ _ h.hm
  hw := s _ _ h.hw
  hs := s _ _ h.hs
  ht := s _ _ h.ht
  hl := s _ _ h.hl
  pm := h.pm
  rs := h.rs
  wt := h.wt
  wl := h.wl
  tl := h.tl
  am := h.am
  as := h.as
  us := h.us.mono fun t xs e => s _ _ e
  ll := h.ll.mono fun t xs e => s _ _ e
  lm := h.lm
/-- all that is not the board's own stands in the base -/
def baseOf (H : Hp) (p : Addr) (A : Ad) : Hp := fun b => if b = p ∨ b = A.r ∨ b = A.w ∨ b = A.t ∨ b = A.m ∨ b = A.s ∨ b = A.l then none else H b
theorem Bp.rebase {CB CM p : Addr} {H0 H : Hp} {A : Ad} {ts ls : List V} {x : Bd} (h : Bp CB CM H0 H p A ts ls x) : Bp CB CM (baseOf H p A) H p A ts ls x where
  sm := fun b o e => by
    unfold baseOf at e
    split at e
    · cases e
    · exact e
  fp := if_pos (.inl rfl)
  fr := if_pos (.inr (.inl rfl))
  fw := if_pos (.inr (.inr (.inl rfl)))
  ft := if_pos (.inr (.inr (.inr (.inl rfl))))
  fm := if_pos (.inr (.inr (.inr (.inr (.inl rfl)))))
  fs := if_pos (.inr (.inr (.inr (.inr (.inr (.inl rfl))))))
  fl := if_pos (.inr (.inr (.inr (.inr (.inr (.inr rfl))))))
  hp := h.hp
  hr := h.hr
  hm := h.hm
  hw := h.hw
  hs := h.hs
  ht := h.ht
  hl := h.hl
  pm := h.pm
  rs := h.rs
  wt := h.wt
  wl := h.wl
  tl := h.tl
  am := h.am
  as := h.as
  us := h.us
  ll := h.ll
  lm := h.lm
theorem Bp.base_at {CB CM p : Addr} {H0 H : Hp} {A : Ad} {ts ls : List V} {x : Bd} (h : Bp CB CM H0 H p A ts ls x) {b : Addr} (h1 : b ≠ p) (h2 : b ≠ A.r) (h3 : b ≠ A.w) (h4 : b ≠ A.t) (h5 : b ≠ A.m) (h6 : b ≠ A.s) (h7 : b ≠ A.l) : baseOf H p A b = H b := if_neg fun z => by
  rcases z with z | z | z | z | z | z | z
  · exact h1 z
  · exact h2 z
  · exact h3 z
  · exact h4 z
  · exact h5 z
  · exact h6 z
  · exact h7 z
theorem Bp.base_tup {CB CM p : Addr} {H0 H : Hp} {A : Ad} {ts ls : List V} {x : Bd} (h : Bp CB CM H0 H p A ts ls x) : ∀ t xs, H t = some (.tup xs) → baseOf H p A t = some (.tup xs) := fun t xs e => by
  obtain ⟨sv, tv, dv, hp, _⟩ := h.hp
  rw [h.base_at (ne_of e hp (by intro q; cases q)) (ne_of e h.hr (by intro q; cases q)) (ne_of e h.hw (by intro q; cases q)) (ne_of e h.ht (by intro q; cases q)) (ne_of e h.hm (by intro q; cases q)) (ne_of e h.hs (by intro q; cases q)) (ne_of e h.hl (by intro q; cases q))]
  exact e
theorem Bp.base_same {CB CM p : Addr} {H0 H : Hp} {A : Ad} {ts ls : List V} {x : Bd} (h : Bp CB CM H0 H p A ts ls x) : Same H0 (baseOf H p A) := fun b o e => by
  rw [h.base_at (ne_of_none e h.fp) (ne_of_none e h.fr) (ne_of_none e h.fw) (ne_of_none e h.ft) (ne_of_none e h.fm) (ne_of_none e h.fs) (ne_of_none e h.fl)]
  exact h.sm _ _ e
theorem Bp.base_eq {CB CM p : Addr} {H0 H : Hp} {A : Ad} {ts ls : List V} {x : Bd} (h : Bp CB CM H0 H p A ts ls x) {H' : Hp} {b : Addr} {o : HO} (e : H0 b = some o) : baseOf H' p A b = H' b := if_neg fun z => by
  rcases z with z | z | z | z | z | z | z
  · exact ne_of_none e h.fp z
  · exact ne_of_none e h.fr z
  · exact ne_of_none e h.fw z
  · exact ne_of_none e h.ft z
  · exact ne_of_none e h.fm z
  · exact ne_of_none e h.fs z
  · exact ne_of_none e h.fl z
theorem BoardAt.unbase {CB CM p : Addr} {H0 H1 H : Hp} {x : Bd} (s : Same H0 H1) (h : BoardAt CB CM H1 H p x) : BoardAt CB CM H0 H p x := by
  obtain ⟨A, ts, ls, h⟩ := h
  exact ⟨A, ts, ls, {
    sm := s.trans h.sm
    fp := s.free h.fp
    fr := s.free h.fr
    fw := s.free h.fw
    ft := s.free h.ft
    fm := s.free h.fm
    fs := s.free h.fs
    fl := s.free h.fl
    hp := h.hp
    hr := h.hr
    hm := h.hm
    hw := h.hw
    hs := h.hs
    ht := h.ht
    hl := h.hl
    pm := h.pm
    rs := h.rs
    wt := h.wt
    wl := h.wl
    tl := h.tl
    am := h.am
    as := h.as
    us := h.us
    ll := h.ll
    lm := h.lm }⟩
/-- a thing of another's is laid: it stands in the base too -/
theorem Bp.grow {CB CM p l : Addr} {Hb H : Hp} {A : Ad} {ts ls : List V} {x : Bd} {o : HO} (B : Bp CB CM Hb H p A ts ls x) (n : H l = none) : Bp CB CM (upd Hb l o) (upd H l o) p A ts ls x := by
  obtain ⟨sv, tv, dv, hp, hz⟩ := B.hp
  have B2 := B.same (same_upd' (o := o) n)
  have sm : Same (upd Hb l o) (upd H l o) := fun b y q => by
    by_cases z : b = l
    · rw [z, upd_same] at q
      rw [z, upd_same]
      exact q
    · rw [upd_ne z] at q
      exact B2.sm _ _ q
  have ne : ∀ {b : Addr} {y : HO}, H b = some y → b ≠ l := fun q => ne_of_none q n
  exact { B2 with
    sm := sm
    fp := by rw [upd_ne (ne hp)]; exact B.fp
    fr := by rw [upd_ne (ne B.hr)]; exact B.fr
    fw := by rw [upd_ne (ne B.hw)]; exact B.fw
    ft := by rw [upd_ne (ne B.ht)]; exact B.ft
    fm := by rw [upd_ne (ne B.hm)]; exact B.fm
    fs := by rw [upd_ne (ne B.hs)]; exact B.fs
    fl := by rw [upd_ne (ne B.hl)]; exact B.fl }
theorem BoardAt.sm {CB CM p : Addr} {Hb H : Hp} {x : Bd} (R : BoardAt CB CM Hb H p x) : Same Hb H := by
  obtain ⟨A, ts, ls, B⟩ := R
  exact B.sm
theorem dg {H : Hp} {r : Addr} {kvs : List (Key × V)} {k : Key} {v : V} (e : H r = some (.dK kvs)) (h : valV kvs k = some v) : DGet H r (kV k) (some v) := h ▸ DGet.k e
theorem dp {H : Hp} {r : Addr} {a b pc sp : Int} {kvs : List (Key × V)} {k : Key} {v : V} (e : H r = some (.dK (regD a b pc sp))) (h : putK (regD a b pc sp) k v = kvs) : DPut H r (kV k) v (upd H r (.dK kvs)) := by
  subst h
  exact DPut.k e (by show 4 < sizeLine; decide)
end Bh

/-! The program's small defs: the memory, what words and images are. -/
namespace Bh
open PySem PySem.Spec PyProof.Rows L2
def topS (i : Nat) : Stmt := PySem.Challenge.pw_boardheld_k42_whole_steps_over.main.body.getD i (.Pass ⟨0, 0, 0, 0⟩)
def rdN : List Str := ["get", "add", "sub", "and", "xor"]
def opN : List Str := ["mark", "lit", "get", "put", "add", "sub", "and", "xor", "getb", "putb", "tob", "swap", "go", "ifz", "ifn", "call", "ret", "push", "pop", "sleep", "let", "back", "half"]
structure Tx (K : PySem.W.Frag) (mg : Str → Option Value) (CB CM : Addr) : Prop where
  g_FLASH_END : ∃ t, mg "FLASH_END" = some (.int 512 t)
  g_RAM_END : ∃ t, mg "RAM_END" = some (.int 768 t)
  g_PLACES_END : ∃ t, mg "PLACES_END" = some (.int 774 t)
  g_COUNT : ∃ t, mg "COUNT" = some (.int 768 t)
  g_TOP : ∃ t, mg "TOP" = some (.int 769 t)
  g_FLAGS : ∃ t, mg "FLAGS" = some (.int 770 t)
  g_MASK : ∃ t, mg "MASK" = some (.int 771 t)
  g_LINE_IN : ∃ t, mg "LINE_IN" = some (.int 772 t)
  g_LINE_OUT : ∃ t, mg "LINE_OUT" = some (.int 773 t)
  g_TIMER_FLAG : ∃ t, mg "TIMER_FLAG" = some (.int 1 t)
  g_LINE_FLAG : ∃ t, mg "LINE_FLAG" = some (.int 2 t)
  g_WORD_MOST : ∃ t, mg "WORD_MOST" = some (.int 65535 t)
  g_ERASED : ∃ t, mg "ERASED" = some (.int 65535 t)
  g_X_SPAN : ∃ t, mg "X_SPAN" = some (.int 1024 t)
  g_LINE_MOST : ∃ t, mg "LINE_MOST" = some (.int 3 t)
  g_STACK_TOP : ∃ t, mg "STACK_TOP" = some (.int 767 t)
  g_INTERRUPT_BEATS : ∃ t, mg "INTERRUPT_BEATS" = some (.int 3 t)
  g_TIMER_PC : ∃ t, mg "TIMER_PC" = some (.int 1 t)
  g_LINE_PC : ∃ t, mg "LINE_PC" = some (.int 2 t)
  g_WORDS : ∃ t, mg "WORDS" = some (.int 65536 t)
  g_HIGH : ∃ t, mg "HIGH" = some (.int 32768 t)
  z_len : mg "len" = none
  z_range : mg "range" = none
  z_isinstance : mg "isinstance" = none
  z_all : mg "all" = none
  z_int : mg "int" = none
  z_bool : mg "bool" = none
  z_list : mg "list" = none
  z_tuple : mg "tuple" = none
  z_divmod : mg "divmod" = none
  g_READS_AT_X : ∃ a, mg "READS_AT_X" = some (.ref a) ∧ ∀ H, SqT K H a (rdN.map V.str)
  g_OP_NAMES : ∃ a, mg "OP_NAMES" = some (.ref a) ∧ ∀ H, SqT K H a (opN.map V.str)
  cB : Cls K CB
  cM : Cls K CM
  n_registers : NoAttr K CB "registers"
  n_zero : NoAttr K CB "zero"
  n_lets : NoAttr K CB "lets"
  n_asleep : NoAttr K CB "asleep"
  n_beat : NoAttr K CB "beat"
  n_stopped : NoAttr K CB "stopped"
  n_sent : NoAttr K CB "sent"
  n_memory : NoAttr K CB "memory"
  n_line : NoAttr K CB "line"
  n_line_at : NoAttr K CB "line_at"
  n_touched : NoAttr K CB "touched"
  n_did : NoAttr K CB "did"
  n_bend : NoAttr K CB "bend"
  n_words : NoAttr K CM "words"
  n_swapped : NoAttr K CM "swapped"
structure MemAt (CM : Addr) (H : Hp) (m dm w s : Addr) (mem : List Int) : Prop where
  hm : H m = some (.ins CM dm (mmF w s))
  hw : H w = some (.lst (mem.map V.int))
  hs : H s = some (.dK [])
  lm : mem.length = 774
theorem Bp.mem {CB CM p : Addr} {H0 H : Hp} {A : Ad} {ts ls : List V} {x : Bd} (h : Bp CB CM H0 H p A ts ls x) : MemAt CM H A.m A.dm A.w A.s x.mem := ⟨h.hm, h.hw, h.hs, h.lm⟩
def kS (b : Bool) : Str := if b = true then "w" else "r"
theorem ne_wr : decide (V.str "w" = V.str "r") = false := by decide +kernel
theorem hsz {n : Nat} (h : n ≤ 100000) : n ≤ sizeLine := Nat.le_trans h (by decide)
theorem natI {n k : Nat} (h : n < k) : (n : Int) < k := by omega
def oS : Option Str → V
  | none => .non
  | some w => .str w
def spBar : Sp := fun vs H Q _ => ∃ t : Bool × Int, vs = [.str (kS t.1), .int t.2] ∧ Q (oS (barM t)) H
def spMRead (CM : Addr) : Sp := fun vs H Q _ => ∃ (m dm w s : Addr) (mem : List Int) (i pc : Int), vs = [.ref m, .int i, .int pc] ∧ MemAt CM H m dm w s mem ∧ 0 ≤ i ∧ i < 774 ∧ Q (.int (rd mem i)) H
def spMAt (CM : Addr) : Sp := fun vs H Q _ => ∃ (m dm w s : Addr) (mem : List Int) (i : Int), vs = [.ref m, .int i] ∧ MemAt CM H m dm w s mem ∧ 0 ≤ i ∧ i < 774 ∧ Q (.int (rd mem i)) H
def spMPut (CM : Addr) : Sp := fun vs H Q _ => ∃ (m dm w s : Addr) (mem : List Int) (i v : Int), vs = [.ref m, .int i, .int v] ∧ MemAt CM H m dm w s mem ∧ 0 ≤ i ∧ i < 774 ∧ Q .non (upd H w (.lst ((putMM i v mem).map V.int)))
def spMCall (CM : Addr) : Sp := fun vs H Q _ => ∃ (m dm w s : Addr) (mem : List Int), vs = [.ref m] ∧ MemAt CM H m dm w s mem ∧ Q (.int (Builtin.bitAnd (rd mem 770) (rd mem 771))) H
def spMTake (CM : Addr) : Sp := fun vs H Q _ => ∃ (m dm w s : Addr) (mem : List Int) (v : Int), vs = [.ref m, .int v] ∧ MemAt CM H m dm w s mem ∧ Q .non (upd H w (.lst ((takeLineM v mem).map V.int)))
def spMTim (CM : Addr) : Sp := fun vs H Q _ => ∃ (m dm w s : Addr) (mem : List Int), vs = [.ref m] ∧ MemAt CM H m dm w s mem ∧ Q .non (upd H w (.lst ((goTimerM mem).map V.int)))
def memOf (ns : List Int) : List Int := ns ++ List.replicate (512 - ns.length) 65535 ++ List.replicate 262 0
def spMI (CM : Addr) : Sp := fun vs H Q _ => ∃ (m dm im : Addr) (ns : List Int), vs = [.ref m, .ref im] ∧ H m = some (.ins CM dm []) ∧ H im = some (.lst (ns.map V.int)) ∧ ns.length ≤ 512 ∧
  ∀ (H' : Hp) (w s : Addr), MemAt CM H' m dm w s (memOf ns) → (∀ b o, b ≠ m → H b = some o → H' b = some o) → H w = none → H s = none → Q .non H'
def spWhole : Sp := fun vs H Q _ => ∃ i : Int, vs = [.int i] ∧ Q (.bl true) H
def spBetw : Sp := fun vs H Q _ => ∃ i a b : Int, vs = [.int i, .int a, .int b] ∧ Q (.bl (decide (a ≤ i ∧ i ≤ b))) H
def spWord : Sp := fun vs H Q _ => ∃ i : Int, vs = [.int i] ∧ Q (.bl (decide (0 ≤ i ∧ i ≤ 65535))) H
def WordsOk (ns : List Int) : Prop := ∀ n ∈ ns, 0 ≤ n ∧ n ≤ 65535
def spImg : Sp := fun vs H Q _ => ∃ (im : Addr) (ns : List Int), vs = [.ref im] ∧ H im = some (.lst (ns.map V.int)) ∧ ns.length ≤ 512 ∧ WordsOk ns ∧ ∀ H', Same H H' → Q (.bl true) H'
/-- the rows rise from behind n on -/
def riseM : Int → List (Int × Int) → Prop
  | _, [] => True
  | n, r :: rs => n < r.1 ∧ 0 ≤ r.2 ∧ r.2 ≤ 3 ∧ riseM r.1 rs
def spLRow : Sp := fun vs H Q _ => ∃ (t : Addr) (r : Int × Int) (n : Int), vs = [.ref t, .int n] ∧ H t = some (.tup [.int r.1, .int r.2]) ∧ n < r.1 ∧ 0 ≤ r.2 ∧ r.2 ≤ 3 ∧ Q (.bl true) H
def spLine : Sp := fun vs H Q _ => ∃ (l : Addr) (us : List V) (ls : List (Int × Int)), vs = [.ref l] ∧ H l = some (.lst us) ∧ TupsAt H us ls ∧ riseM 0 ls ∧ Q (.bl true) H
section
variable {P : Program} {w : World} {K : PySem.W.Frag} {mg : Str → Option Value} {base : Heap} {CB CM : Addr}
abbrev sFbar : Stmt := topS 57
def scFbarN : List Str := ["kind", "address"]
theorem scFbar : FnScope scFbarN ["kind", "address"] (defScope sFbar) := ⟨rfl, rfl, rfl, by decide +kernel, rfl, by decide +kernel, by decide +kernel⟩
theorem ok_Fbar {f : Addr} {fd : FuncData} (F : Fun K "bar_of" "bar_of" sFbar f fd) (T : Tx K mg CB CM) : FnOk P w K mg base CX0 1 f fd ["kind", "address"] (spBar) := by
  refine F.ok scFbar (fun vs H Q E h => by obtain ⟨t, rfl, _⟩ := h; rfl) (fun cdv A outer s H vs Q E hr h => ?_)
  have hu := hu_of hr
  obtain ⟨t_FLASH_END, g_FLASH_END⟩ := T.g_FLASH_END
  obtain ⟨t_LINE_IN, g_LINE_IN⟩ := T.g_LINE_IN
  obtain ⟨t_PLACES_END, g_PLACES_END⟩ := T.g_PLACES_END
  obtain ⟨⟨b, a⟩, rfl, q⟩ := h
  refine ⟨_, (pss_cons (ps_if (pt_not (pt_chain op_le op_lt pe_int (pv 1) (pgI g_PLACES_END))) (pss_one (ps_ret pe_str)) pss_nil)
    (pss_cons (ps_if (pt_cmpR op_eq (pv 0) pe_str (nomark _)) (pss_one (ps_ret pe_non)) pss_nil)
    (pss_cons (ps_if (pt_cmpR op_lt (pv 1) (pgI g_FLASH_END) (nomark _)) (pss_one (ps_ret pe_str)) pss_nil)
    (pss_cons (ps_if (pt_cmpR op_eq (pv 1) (pgI g_LINE_IN) (nomark _)) (pss_one (ps_ret pe_str)) pss_nil)
    (pss_one (ps_ret pe_non)))))), ?_⟩
  have far : ¬ (0 ≤ a ∧ a < 774) → Q (.str "far") H := fun h => by
    unfold barM at q
    rw [if_pos h] at q
    exact q
  refine ⟨_, rfl, _, _, rfl, rfl, _, rfl, ifB (fun t0 => ?_) (fun t0 => ⟨_, rfl, far fun z => absurd z.1 (of_decide_eq_false t0)⟩)⟩
  refine ⟨_, _, rfl, rfl, _, rfl, ifN (fun t1 => far fun z => absurd z.2 (of_decide_eq_false t1)) (fun t1 => ?_)⟩
  have t0 := of_decide_eq_true t0
  have t1 := of_decide_eq_true t1
  unfold barM at q
  rw [if_neg (fun z => z ⟨t0, t1⟩)] at q
  cases b with
  | false => exact ⟨_, rfl, rfl, _, rfl, q⟩
  | true =>
    refine ⟨_, rfl, rfl, _, rfl, ?_⟩
    show if decide (V.str "w" = V.str "r") = true then _ else _
    rw [ne_wr, if_neg Bool.false_ne_true]
    rw [if_neg (show ¬ ((true : Bool) = false) by decide)] at q
    refine ⟨_, rfl, _, _, rfl, rfl, _, rfl, ifB (fun h => ?_) (fun h => ?_)⟩
    · rw [if_pos (of_decide_eq_true h)] at q
      exact q
    · rw [if_neg (of_decide_eq_false h)] at q
      refine ⟨_, rfl, rfl, _, rfl, ifB (fun h2 => ?_) (fun h2 => ?_)⟩
      · rw [if_pos (V.int.inj (of_decide_eq_true h2))] at q
        exact q
      · rw [if_neg (fun z => of_decide_eq_false h2 (congrArg V.int z))] at q
        exact q
abbrev sMat : Stmt := inClass (topS 58) 1
def scMatN : List Str := ["self", "address"]
theorem scMat : FnScope scMatN ["self", "address"] (defScope sMat) := ⟨rfl, rfl, rfl, by decide +kernel, rfl, by decide +kernel, by decide +kernel⟩
theorem ok_Mat {f : Addr} {fd : FuncData} (F : Fun K "word_at" "Memory.word_at" sMat f fd) (T : Tx K mg CB CM) : FnOk P w K mg base CX0 1 f fd ["self", "address"] (spMAt CM) := by
  refine F.ok scMat (fun vs H Q E h => by obtain ⟨_, _, _, _, _, _, rfl, _⟩ := h; rfl) (fun cdv A outer s H vs Q E hr h => ?_)
  have hu := hu_of hr
  obtain ⟨t_PLACES_END, g_PLACES_END⟩ := T.g_PLACES_END
  obtain ⟨m, dm, w_, s_, mem, i, rfl, M, i0, i1, q⟩ := h
  refine ⟨_, (pss_cons (ps_if (pt_chain op_le op_lt pe_int (pv 1) (pgI g_PLACES_END)) (pss_one (ps_ret (pe_ix ix_list (pe_fld (pv 0) rfl) (pv 1) (fun _ _ => rfl)))) pss_nil)
    (pss_one (ps_ret pe_non))), ?_⟩
  refine ⟨_, rfl, _, _, rfl, rfl, _, rfl, ?_⟩
  rw [if_pos (decide_eq_true i0)]
  refine ⟨_, _, rfl, rfl, _, rfl, ifB (fun _ => ?_) (fun h => absurd i1 (of_decide_eq_false h))⟩
  exact ⟨_, rfl, m, CM, dm, _, _, rfl, M.hm, T.cM, T.n_words, mF_w, _, rfl, w_, _, _, _, rfl, rfl, SqL.of M.hw, atI_rd i0 (by rw [M.lm]; exact i1), q⟩
abbrev sMread : Stmt := inClass (topS 58) 2
def scMreadN : List Str := ["self", "address", "pc"]
theorem scMread : FnScope scMreadN ["self", "address", "pc"] (defScope sMread) := ⟨rfl, rfl, rfl, by decide +kernel, rfl, by decide +kernel, by decide +kernel⟩
theorem ok_Mread {f : Addr} {fd : FuncData} (F : Fun K "read" "Memory.read" sMread f fd) (T : Tx K mg CB CM) : FnOk P w K mg base CX0 1 f fd ["self", "address", "pc"] (spMRead CM) := by
  refine F.ok scMread (fun vs H Q E h => by obtain ⟨_, _, _, _, _, _, _, rfl, _⟩ := h; rfl) (fun cdv A outer s H vs Q E hr h => ?_)
  have hu := hu_of hr
  obtain ⟨m, dm, w_, s_, mem, i, pc, rfl, M, i0, i1, q⟩ := h
  refine ⟨_, (pss_cons (ps_if (PW.pt (pw_and (pt_cmp (pc_din hu (pv 1) (pe_fld (pv 0) rfl))) (pw_and1 (pt_cmpR op_ne (pv 1) (pv 2) (nomark _))))) (pss_one (ps_ret pe_int)) pss_nil)
    (pss_one (ps_ret (pe_ix ix_list (pe_fld (pv 0) rfl) (pv 1) (fun _ _ => rfl))))), ?_⟩
  refine ⟨_, rfl, _, rfl, m, CM, dm, _, _, rfl, M.hm, T.cM, T.n_swapped, mF_s, s_, _, rfl, DGet.k (k := Sum.inl i) M.hs, _, rfl, ?_⟩
  exact ⟨_, rfl, m, CM, dm, _, _, rfl, M.hm, T.cM, T.n_words, mF_w, _, rfl, w_, _, _, _, rfl, rfl, SqL.of M.hw, atI_rd i0 (by rw [M.lm]; exact i1), q⟩
abbrev sMput : Stmt := inClass (topS 58) 3
def scMputN : List Str := ["self", "address", "word"]
theorem scMput : FnScope scMputN ["self", "address", "word"] (defScope sMput) := ⟨rfl, rfl, rfl, by decide +kernel, rfl, by decide +kernel, by decide +kernel⟩
theorem ok_Mput {f : Addr} {fd : FuncData} (F : Fun K "put" "Memory.put" sMput f fd) (T : Tx K mg CB CM) : FnOk P w K mg base CX0 1 f fd ["self", "address", "word"] (spMPut CM) := by
  refine F.ok scMput (fun vs H Q E h => by obtain ⟨_, _, _, _, _, _, _, rfl, _⟩ := h; rfl) (fun cdv A outer s H vs Q E hr h => ?_)
  have hu := hu_of hr
  obtain ⟨t_FLAGS, g_FLAGS⟩ := T.g_FLAGS
  obtain ⟨t_WORD_MOST, g_WORD_MOST⟩ := T.g_WORD_MOST
  obtain ⟨m, dm, w_, s_, mem, i, v, rfl, M, i0, i1, q⟩ := h
  refine ⟨_, (pss_one (ps_if (pt_cmpR op_eq (pv 1) (pgI g_FLAGS) (nomark _)) (pss_one (ps_asg (pe_op op_and (pe_ix ix_list (pe_fld (pv 0) rfl) (pgI g_FLAGS) (fun _ _ => rfl)) (pe_op op_sub (pgI g_WORD_MOST) (pv 2))) (pg_sub (pe_fld (pv 0) rfl) (pgI g_FLAGS) set_list))) (pss_one (ps_asg (pv 2) (pg_sub (pe_fld (pv 0) rfl) (pv 1) set_list))))), ?_⟩
  unfold putMM at q
  refine ⟨_, rfl, rfl, _, rfl, ifB (fun h => ?_) (fun h => ?_)⟩
  · have e := V.int.inj (of_decide_eq_true h)
    rw [if_pos e] at q
    refine ⟨_, rfl, m, CM, dm, _, _, rfl, M.hm, T.cM, T.n_words, mF_w, w_, _, _, _, rfl, rfl, SqL.of M.hw, atI_rd (by decide) (by rw [M.lm]; decide), _, rfl, _, _, rfl, rfl, _, _, rfl, rfl, ?_⟩
    refine ⟨_, rfl, m, CM, dm, _, _, rfl, M.hm, T.cM, T.n_words, mF_w, w_, _, _, _, rfl, rfl, M.hw, ixN_in (by decide) (by rw [List.length_map, M.lm]; decide), ?_⟩
    rw [set_map]
    exact q
  · have e : ¬ i = 770 := fun z => of_decide_eq_false h (by rw [z])
    rw [if_neg e] at q
    refine ⟨_, rfl, _, rfl, m, CM, dm, _, _, rfl, M.hm, T.cM, T.n_words, mF_w, _, rfl, w_, _, _, _, rfl, rfl, M.hw, ixN_in i0 (by rw [List.length_map, M.lm]; exact i1), ?_⟩
    rw [set_map]
    exact q
abbrev sMcalled : Stmt := inClass (topS 58) 4
def scMcalledN : List Str := ["self"]
theorem scMcalled : FnScope scMcalledN ["self"] (defScope sMcalled) := ⟨rfl, rfl, rfl, by decide +kernel, rfl, by decide +kernel, by decide +kernel⟩
theorem ok_Mcalled {f : Addr} {fd : FuncData} (F : Fun K "called_flags" "Memory.called_flags" sMcalled f fd) (T : Tx K mg CB CM) : FnOk P w K mg base CX0 1 f fd ["self"] (spMCall CM) := by
  refine F.ok scMcalled (fun vs H Q E h => by obtain ⟨_, _, _, _, _, rfl, _⟩ := h; rfl) (fun cdv A outer s H vs Q E hr h => ?_)
  have hu := hu_of hr
  obtain ⟨t_FLAGS, g_FLAGS⟩ := T.g_FLAGS
  obtain ⟨t_MASK, g_MASK⟩ := T.g_MASK
  obtain ⟨m, dm, w_, s_, mem, rfl, M, q⟩ := h
  refine ⟨_, (pss_one (ps_ret (pe_op op_and (pe_ix ix_list (pe_fld (pv 0) rfl) (pgI g_FLAGS) (fun _ _ => rfl)) (pe_ix ix_list (pe_fld (pv 0) rfl) (pgI g_MASK) (fun _ _ => rfl))))), ?_⟩
  exact ⟨_, rfl, m, CM, dm, _, _, rfl, M.hm, T.cM, T.n_words, mF_w, w_, _, _, _, rfl, rfl, SqL.of M.hw, atI_rd (by decide) (by rw [M.lm]; decide), _, rfl, m, CM, dm, _, _, rfl, M.hm, T.cM, T.n_words, mF_w, w_, _, _, _, rfl, rfl, SqL.of M.hw, atI_rd (by decide) (by rw [M.lm]; decide), _, _, rfl, rfl, q⟩
abbrev sMtake : Stmt := inClass (topS 58) 5
def scMtakeN : List Str := ["self", "value", "rises"]
theorem scMtake : FnScope scMtakeN ["self", "value"] (defScope sMtake) := ⟨rfl, rfl, rfl, by decide +kernel, rfl, by decide +kernel, by decide +kernel⟩
theorem ok_Mtake {f : Addr} {fd : FuncData} (F : Fun K "take_line" "Memory.take_line" sMtake f fd) (T : Tx K mg CB CM) : FnOk P w K mg base CX0 1 f fd ["self", "value"] (spMTake CM) := by
  refine F.ok scMtake (fun vs H Q E h => by obtain ⟨_, _, _, _, _, _, rfl, _⟩ := h; rfl) (fun cdv A outer s H vs Q E hr h => ?_)
  have hu := hu_of hr
  obtain ⟨t_FLAGS, g_FLAGS⟩ := T.g_FLAGS
  obtain ⟨t_LINE_FLAG, g_LINE_FLAG⟩ := T.g_LINE_FLAG
  obtain ⟨t_LINE_IN, g_LINE_IN⟩ := T.g_LINE_IN
  obtain ⟨m, dm, w_, s_, mem, v, rfl, M, q⟩ := h
  refine ⟨_, (pss_cons (ps_set (i := 2) scMtake.nd rfl (.inl rfl) (pe_cmpR op_gt (pe_op op_mod (pv 1) pe_int) (pe_op op_mod (pe_ix ix_list (pe_fld (pv 0) rfl) (pgI g_LINE_IN) (fun _ _ => rfl)) pe_int) (nomark _)))
    (pss_cons (ps_asg (pv 1) (pg_sub (pe_fld (pv 0) rfl) (pgI g_LINE_IN) set_list))
    (pss_one (ps_if (pt_val (pv 2)) (pss_one (ps_asg (pe_op op_or (pe_ix ix_list (pe_fld (pv 0) rfl) (pgI g_FLAGS) (fun _ _ => rfl)) (pgI g_LINE_FLAG)) (pg_sub (pe_fld (pv 0) rfl) (pgI g_FLAGS) set_list))) pss_nil)))), ?_⟩
  unfold takeLineM at q
  refine ⟨_, rfl, _, _, rfl, rfl, (by show (0 : Int) < 2; decide), _, rfl, m, CM, dm, _, _, rfl, M.hm, T.cM, T.n_words, mF_w, w_, _, _, _, rfl, rfl, SqL.of M.hw, atI_rd (by decide) (by rw [M.lm]; decide), _, _, rfl, rfl, (by show (0 : Int) < 2; decide), _, _, rfl, rfl, ?_⟩
  refine ⟨_, rfl, _, rfl, m, CM, dm, _, _, rfl, M.hm, T.cM, T.n_words, mF_w, w_, _, _, _, rfl, rfl, M.hw, ixN_in (by decide) (by rw [List.length_map, M.lm]; decide), ?_⟩
  rw [set_map]
  have mw : m ≠ w_ := ne_of M.hm M.hw (by intro q; cases q)
  have hw2 : upd H w_ (.lst ((stM mem 772 v).map V.int)) w_ = some (.lst ((stM mem 772 v).map V.int)) := upd_same
  have hm2 : upd H w_ (.lst ((stM mem 772 v).map V.int)) m = some (.ins CM dm (mmF w_ s_)) := by rw [upd_ne mw]; exact M.hm
  have l2 : (stM mem 772 v).length = 774 := by rw [stM_len]; exact M.lm
  refine ⟨_, rfl, _, rfl, ifB (fun h => ?_) (fun h => ?_)⟩
  · rw [if_pos (of_decide_eq_true h)] at q
    refine ⟨_, rfl, m, CM, dm, _, _, rfl, hm2, T.cM, T.n_words, mF_w, w_, _, _, _, rfl, rfl, SqL.of hw2, atI_rd (by decide) (by rw [l2]; decide), _, _, rfl, rfl, ?_⟩
    refine ⟨_, rfl, m, CM, dm, _, _, rfl, hm2, T.cM, T.n_words, mF_w, w_, _, _, _, rfl, rfl, hw2, ixN_in (by decide) (by rw [List.length_map, l2]; decide), ?_⟩
    rw [set_map, upd_upd]
    exact q
  · rw [if_neg (of_decide_eq_false h)] at q
    exact q
abbrev sMtimer : Stmt := inClass (topS 58) 6
def scMtimerN : List Str := ["self", "top", "count"]
theorem scMtimer : FnScope scMtimerN ["self"] (defScope sMtimer) := ⟨rfl, rfl, rfl, by decide +kernel, rfl, by decide +kernel, by decide +kernel⟩
theorem ok_Mtimer {f : Addr} {fd : FuncData} (F : Fun K "go_timer" "Memory.go_timer" sMtimer f fd) (T : Tx K mg CB CM) : FnOk P w K mg base CX0 1 f fd ["self"] (spMTim CM) := by
  refine F.ok scMtimer (fun vs H Q E h => by obtain ⟨_, _, _, _, _, rfl, _⟩ := h; rfl) (fun cdv A outer s H vs Q E hr h => ?_)
  have hu := hu_of hr
  obtain ⟨t_COUNT, g_COUNT⟩ := T.g_COUNT
  obtain ⟨t_FLAGS, g_FLAGS⟩ := T.g_FLAGS
  obtain ⟨t_TIMER_FLAG, g_TIMER_FLAG⟩ := T.g_TIMER_FLAG
  obtain ⟨t_TOP, g_TOP⟩ := T.g_TOP
  obtain ⟨m, dm, w_, s_, mem, rfl, M, q⟩ := h
  refine ⟨_, (pss_cons (ps_set (i := 1) scMtimer.nd rfl (.inl rfl) (pe_ix ix_list (pe_fld (pv 0) rfl) (pgI g_TOP) (fun _ _ => rfl)))
    (pss_cons (ps_if (pt_cmpR op_eq (pv 1) pe_int (nomark _)) (pss_one ps_retN) pss_nil)
    (pss_cons (ps_set (i := 2) scMtimer.nd rfl (.inl rfl) (pe_op op_add (pe_ix ix_list (pe_fld (pv 0) rfl) (pgI g_COUNT) (fun _ _ => rfl)) pe_int))
    (pss_cons (ps_if (pt_cmpR op_ge (pv 2) (pv 1) (nomark _)) (pss_cons (ps_set (i := 2) scMtimer.nd rfl (.inl rfl) pe_int)
    (pss_one (ps_asg (pe_op op_or (pe_ix ix_list (pe_fld (pv 0) rfl) (pgI g_FLAGS) (fun _ _ => rfl)) (pgI g_TIMER_FLAG)) (pg_sub (pe_fld (pv 0) rfl) (pgI g_FLAGS) set_list)))) pss_nil)
    (pss_one (ps_asg (pv 2) (pg_sub (pe_fld (pv 0) rfl) (pgI g_COUNT) set_list))))))), ?_⟩
  unfold goTimerM at q
  refine ⟨_, rfl, m, CM, dm, _, _, rfl, M.hm, T.cM, T.n_words, mF_w, w_, _, _, _, rfl, rfl, SqL.of M.hw, atI_rd (by decide) (by rw [M.lm]; decide), ?_⟩
  refine ⟨_, rfl, rfl, _, rfl, ifB (fun h => ?_) (fun h => ?_)⟩
  · rw [if_pos (V.int.inj (of_decide_eq_true h)), upd_id M.hw] at q
    exact q
  · rw [if_neg (fun z => of_decide_eq_false h (by rw [z]))] at q
    refine ⟨_, rfl, m, CM, dm, _, _, rfl, M.hm, T.cM, T.n_words, mF_w, w_, _, _, _, rfl, rfl, SqL.of M.hw, atI_rd (by decide) (by rw [M.lm]; decide), _, _, rfl, rfl, ?_⟩
    refine ⟨_, rfl, _, rfl, _, _, rfl, rfl, _, rfl, ifB (fun h2 => ?_) (fun h2 => ?_)⟩
    · rw [if_pos (of_decide_eq_true h2)] at q
      have mw : m ≠ w_ := ne_of M.hm M.hw (by intro q; cases q)
      refine ⟨_, rfl, m, CM, dm, _, _, rfl, M.hm, T.cM, T.n_words, mF_w, w_, _, _, _, rfl, rfl, SqL.of M.hw, atI_rd (by decide) (by rw [M.lm]; decide), _, _, rfl, rfl, ?_⟩
      refine ⟨_, rfl, m, CM, dm, _, _, rfl, M.hm, T.cM, T.n_words, mF_w, w_, _, _, _, rfl, rfl, M.hw, ixN_in (by decide) (by rw [List.length_map, M.lm]; decide), ?_⟩
      rw [set_map]
      refine ⟨_, rfl, _, rfl, m, CM, dm, _, _, rfl, (by rw [upd_ne mw]; exact M.hm), T.cM, T.n_words, mF_w, w_, _, _, _, rfl, rfl, upd_same, ixN_in (by decide) (by rw [List.length_map, stM_len, M.lm]; decide), ?_⟩
      rw [set_map, upd_upd]
      exact q
    · rw [if_neg (of_decide_eq_false h2)] at q
      refine ⟨_, rfl, _, rfl, m, CM, dm, _, _, rfl, M.hm, T.cM, T.n_words, mF_w, w_, _, _, _, rfl, rfl, M.hw, ixN_in (by decide) (by rw [List.length_map, M.lm]; decide), ?_⟩
      rw [set_map]
      exact q
end
end Bh

/-! What words, images and lines are; a memory is made. -/
namespace Bh
open PySem PySem.Spec PyProof.Rows L2
theorem flat_rep (n : Nat) (v : Int) : (List.replicate n [V.int v]).flatten = (List.replicate n v).map V.int := by
  induction n with
  | zero => rfl
  | succ n ih => rw [List.replicate_succ, List.flatten_cons, ih, List.replicate_succ, List.map_cons]; rfl
section
variable {P : Program} {w : World} {K : PySem.W.Frag} {mg : Str → Option Value} {base : Heap} {CB CM : Addr}
abbrev sFwhole : Stmt := topS 63
def scFwholeN : List Str := ["thing"]
theorem scFwhole : FnScope scFwholeN ["thing"] (defScope sFwhole) := ⟨rfl, rfl, rfl, by decide +kernel, rfl, by decide +kernel, by decide +kernel⟩
theorem ok_Fwhole {f : Addr} {fd : FuncData} (F : Fun K "is_whole" "is_whole" sFwhole f fd) (T : Tx K mg CB CM) : FnOk P w K mg base CX0 1 f fd ["thing"] (spWhole) := by
  refine F.ok scFwhole (fun vs H Q E h => by obtain ⟨_, rfl, _⟩ := h; rfl) (fun cdv A outer s H vs Q E hr h => ?_)
  have hu := hu_of hr
  have z_bool := T.z_bool
  have z_int := T.z_int
  have z_isinstance := T.z_isinstance
  obtain ⟨i, rfl, q⟩ := h
  refine ⟨_, (pss_one (ps_ret (pe_and (pe_callB call_isi (by rfl) z_isinstance (by decide +kernel) (pa_cons (pv 0) (pa_cons (pe_bltn (v := .ty "int") (u := .type "int") (by rfl) z_int (by decide +kernel) rfl) pa_nil))) (pe_one (pe_not (pe_callB call_isi (by rfl) z_isinstance (by decide +kernel) (pa_cons (pv 0) (pa_cons (pe_bltn (v := .ty "bool") (u := .type "bool") (by rfl) z_bool (by decide +kernel) rfl) pa_nil)))))))), ?_⟩
  refine ⟨_, rfl, .int i, .ty "int", _, _, true, rfl, .ty "int", .base (.int i), kit_ty (by decide +kernel), _, rfl, ifB (fun _ => ?_) (fun h => by cases h)⟩
  exact ⟨_, rfl, .int i, .ty "bool", _, _, false, rfl, .ty "bool", .base (.int i), kit_ty (by decide +kernel), _, rfl, q⟩
abbrev sFbetw : Stmt := topS 64
def scFbetwN : List Str := ["thing", "least", "greatest"]
theorem scFbetw : FnScope scFbetwN ["thing", "least", "greatest"] (defScope sFbetw) := ⟨rfl, rfl, rfl, by decide +kernel, rfl, by decide +kernel, by decide +kernel⟩
theorem ok_Fbetw {f : Addr} {fd : FuncData} {fF_whole : Addr} {dF_whole : FuncData} (F : Fun K "is_between" "is_between" sFbetw f fd) (T : Tx K mg CB CM)
    (F_whole : CalF P w K mg base 1 "is_whole" ["thing"] (spWhole) fF_whole dF_whole) : FnOk P w K mg base CX0 2 f fd ["thing", "least", "greatest"] (spBetw) := by
  refine F.ok scFbetw (fun vs H Q E h => by obtain ⟨_, _, _, rfl, _⟩ := h; rfl) (fun cdv A outer s H vs Q E hr h => ?_)
  have hu := hu_of hr
  obtain ⟨i, a, b, rfl, q⟩ := h
  refine ⟨_, (pss_one (ps_ret (pe_and (pe_call F_whole.G (hr.mono (by decide)) (by rfl) F_whole.g F_whole.kp F_whole.b .nil pass0 (pa_cons (pv 0) pa_nil)) (pe_one (pe_chain op_le op_le (pv 1) (pv 0) (pv 2)))))), ?_⟩
  refine ⟨_, rfl, i, rfl, _, rfl, ifB (fun _ => ?_) (fun h => by cases h)⟩
  refine ⟨_, rfl, _, rfl, _, _, rfl, rfl, _, rfl, ifB (fun h => ?_) (fun h => ?_)⟩
  · have h' := of_decide_eq_true h
    have e : decide (a ≤ i ∧ i ≤ b) = decide (i ≤ b) := by simp [h']
    rw [e] at q
    exact ⟨_, rfl, _, _, rfl, rfl, q⟩
  · have h' := of_decide_eq_false h
    have e : decide (a ≤ i ∧ i ≤ b) = false := by simp [h']
    rw [e] at q
    exact q
abbrev sFword : Stmt := topS 65
def scFwordN : List Str := ["thing"]
theorem scFword : FnScope scFwordN ["thing"] (defScope sFword) := ⟨rfl, rfl, rfl, by decide +kernel, rfl, by decide +kernel, by decide +kernel⟩
theorem ok_Fword {f : Addr} {fd : FuncData} {fF_betw : Addr} {dF_betw : FuncData} (F : Fun K "is_word" "is_word" sFword f fd) (T : Tx K mg CB CM)
    (F_betw : CalF P w K mg base 2 "is_between" ["thing", "least", "greatest"] (spBetw) fF_betw dF_betw) : FnOk P w K mg base CX0 3 f fd ["thing"] (spWord) := by
  refine F.ok scFword (fun vs H Q E h => by obtain ⟨_, rfl, _⟩ := h; rfl) (fun cdv A outer s H vs Q E hr h => ?_)
  have hu := hu_of hr
  obtain ⟨t_WORD_MOST, g_WORD_MOST⟩ := T.g_WORD_MOST
  obtain ⟨i, rfl, q⟩ := h
  refine ⟨_, (pss_one (ps_ret (pe_call F_betw.G (hr.mono (by decide)) (by rfl) F_betw.g F_betw.kp F_betw.b .nil pass0 (pa_cons (pv 0) (pa_cons pe_int (pa_cons (pgI g_WORD_MOST) pa_nil)))))), ?_⟩
  exact ⟨_, rfl, i, 0, 65535, rfl, q⟩
abbrev sFimage : Stmt := topS 66
def scFimageN : List Str := ["thing", "word"]
theorem scFimage : FnScope scFimageN ["thing"] (defScope sFimage) := ⟨rfl, rfl, rfl, by decide +kernel, rfl, by decide +kernel, by decide +kernel⟩
theorem ok_Fimage {f : Addr} {fd : FuncData} {fF_word : Addr} {dF_word : FuncData} (F : Fun K "is_image" "is_image" sFimage f fd) (T : Tx K mg CB CM)
    (F_word : CalF P w K mg base 3 "is_word" ["thing"] (spWord) fF_word dF_word) : FnOk P w K mg base CX0 4 f fd ["thing"] (spImg) := by
  refine F.ok scFimage (fun vs H Q E h => by obtain ⟨_, _, rfl, _⟩ := h; rfl) (fun cdv A outer s H vs Q E hr h => ?_)
  have hu := hu_of hr
  obtain ⟨t_FLASH_END, g_FLASH_END⟩ := T.g_FLASH_END
  have z_all := T.z_all
  have z_isinstance := T.z_isinstance
  have z_len := T.z_len
  have z_list := T.z_list
  obtain ⟨im, ns, rfl, hm, hl, hw, q⟩ := h
  refine ⟨_, (pss_one (ps_ret (pe_and (pe_callB call_isi (by rfl) z_isinstance (by decide +kernel) (pa_cons (pv 0) (pa_cons (pe_bltn (v := .ty "list") (u := .type "list") (by rfl) z_list (by decide +kernel) rfl) pa_nil))) (pe_and (pe_cmpR op_le (pe_callB call_len_seq (by rfl) z_len PySem.boot_len (pa_cons (pv 0) pa_nil)) (pgI g_FLASH_END) (nomark _)) (pe_one (pe_callB (cr_all rfl) (by rfl) z_all (by decide +kernel) (pa_cons (pe_lc (own := [("word", 1)]) (g := gName 1) (tt := tYes) (by rfl) scFimage.nd (pi_list (pv 0)) (blkOk_by (own := [("word", 1)]) (N := scFimageN) (sc := defScope sFimage) (by decide +kernel)) (fun _ _ _ _ _ => (pg_name (i := 1) scFimage.nd rfl (.inl rfl))) (fun _ _ _ _ _ => pts_nil) (fun _ _ _ _ _ => (pe_call F_word.G (hr.mono (by decide)) (by rfl) F_word.g F_word.kp F_word.b .nil pass0 (pa_cons (pv 1) pa_nil)))) pa_nil))))))), ?_⟩
  refine ⟨_, rfl, .ref im, .ty "list", _, _, true, rfl, .ty "list", .base (.lst hm), kit_ty (by decide +kernel), _, rfl, ifB (fun _ => ?_) (fun h => by cases h)⟩
  refine ⟨_, rfl, im, _, rfl, .inl (SqL.of hm), _, _, rfl, rfl, _, rfl, ifB (fun _ => ?_) (fun h => absurd (show ((ns.map V.int).length : Int) ≤ 512 by rw [List.length_map]; omega) (of_decide_eq_false h))⟩
  refine ⟨_, rfl, im, rfl, ⟨_, SqL.of hm⟩, fun D nD => ?_⟩
  refine lc_list (K := K) (a := im) (xs := ns.map V.int) (fun i H' => Same H H' ∧ H' D = some (.lst ((List.replicate i true).map V.bl))) ⟨same_upd' nD, upd_same⟩ (fun i H' _ h => SqL.of (h.1 _ _ hm)) ?_ ?_
  · rintro j v H' hv ⟨sm, hD⟩
    obtain ⟨n, hn, rfl⟩ : ∃ n, ns[j]? = some n ∧ V.int n = v := by
      rw [List.getElem?_map] at hv
      cases e : ns[j]? with
      | none => rw [e] at hv; cases hv
      | some n => rw [e] at hv; exact ⟨n, rfl, Option.some.inj hv⟩
    have hj := (List.getElem?_eq_some_iff.mp hn).1
    refine ⟨rfl, ?_⟩
    refine ⟨_, rfl, n, rfl, ?_⟩
    rw [decide_eq_true (hw n (List.mem_of_getElem? hn))]
    refine ⟨_, hD, ?_, same_of sm nD, ?_⟩
    · rw [List.length_map, List.length_replicate]
      exact small1000 (by omega)
    · rw [upd_same, List.replicate_succ', List.map_append]
      rfl
  · rintro H4 ⟨sm, hD⟩
    refine ⟨D, _, rfl, SqL.of hD, ?_⟩
    have e : (List.replicate (ns.map V.int).length true).all id = true := by simp
    rw [e]
    exact q _ sm
abbrev sFlrow : Stmt := topS 68
def scFlrowN : List Str := ["row", "last"]
theorem scFlrow : FnScope scFlrowN ["row", "last"] (defScope sFlrow) := ⟨rfl, rfl, rfl, by decide +kernel, rfl, by decide +kernel, by decide +kernel⟩
theorem ok_Flrow {f : Addr} {fd : FuncData} {fF_betw : Addr} {dF_betw : FuncData} {fF_whole : Addr} {dF_whole : FuncData} (F : Fun K "is_line_row" "is_line_row" sFlrow f fd) (T : Tx K mg CB CM)
    (F_betw : CalF P w K mg base 2 "is_between" ["thing", "least", "greatest"] (spBetw) fF_betw dF_betw)
    (F_whole : CalF P w K mg base 1 "is_whole" ["thing"] (spWhole) fF_whole dF_whole) : FnOk P w K mg base CX0 3 f fd ["row", "last"] (spLRow) := by
  refine F.ok scFlrow (fun vs H Q E h => by obtain ⟨_, _, _, rfl, _⟩ := h; rfl) (fun cdv A outer s H vs Q E hr h => ?_)
  have hu := hu_of hr
  obtain ⟨t_LINE_MOST, g_LINE_MOST⟩ := T.g_LINE_MOST
  have z_isinstance := T.z_isinstance
  have z_len := T.z_len
  have z_tuple := T.z_tuple
  obtain ⟨t, r, n, rfl, ht, h1, h2, h3, q⟩ := h
  refine ⟨_, (pss_cons (ps_if (PW.pt (pw_or (pt_not (pt_val (pe_callB call_isi (by rfl) z_isinstance (by decide +kernel) (pa_cons (pv 0) (pa_cons (pe_bltn (v := .ty "tuple") (u := .type "tuple") (by rfl) z_tuple (by decide +kernel) rfl) pa_nil))))) (pw_or1 (pt_cmpR op_ne (pe_callB call_len_seq (by rfl) z_len PySem.boot_len (pa_cons (pv 0) pa_nil)) pe_int (nomark _))))) (pss_one (ps_ret pe_bl)) pss_nil)
    (pss_one (ps_ret (pe_and (pe_call F_whole.G (hr.mono (by decide)) (by rfl) F_whole.g F_whole.kp F_whole.b .nil pass0 (pa_cons (pe_ix ix_tup (pv 0) pe_int (fun _ _ => rfl)) pa_nil)) (pe_and (pe_cmpR op_gt (pe_ix ix_tup (pv 0) pe_int (fun _ _ => rfl)) (pv 1) (nomark _)) (pe_one (pe_call F_betw.G (hr.mono (by decide)) (by rfl) F_betw.g F_betw.kp F_betw.b .nil pass0 (pa_cons (pe_ix ix_tup (pv 0) pe_int (fun _ _ => rfl)) (pa_cons pe_int (pa_cons (pgI g_LINE_MOST) pa_nil)))))))))), ?_⟩
  refine ⟨_, rfl, .ref t, .ty "tuple", _, _, true, rfl, .ty "tuple", .base (.tup ht), kit_ty (by decide +kernel), _, rfl, ifN (fun h => by cases h) (fun _ => ?_)⟩
  refine ⟨_, rfl, t, _, rfl, .inr (SqT.of ht), rfl, _, rfl, ifN (fun h => absurd rfl (of_decide_eq_false h)) (fun _ => ?_)⟩
  refine ⟨_, rfl, t, _, 0, _, rfl, rfl, SqT.of ht, atI_nat (j := 0) rfl, _, rfl, _, rfl, ifB (fun _ => ?_) (fun h => by cases h)⟩
  refine ⟨_, rfl, t, _, 0, _, rfl, rfl, SqT.of ht, atI_nat (j := 0) rfl, _, rfl, _, _, rfl, rfl, _, rfl, ifB (fun _ => ?_) (fun h => absurd h1 (of_decide_eq_false h))⟩
  refine ⟨_, rfl, t, _, 1, _, rfl, rfl, SqT.of ht, atI_nat (j := 1) rfl, r.2, 0, 3, rfl, ?_⟩
  rw [decide_eq_true (⟨h2, h3⟩ : 0 ≤ r.2 ∧ r.2 ≤ 3)]
  exact q
theorem rise_get : ∀ {ls : List (Int × Int)} {n : Int} {i : Nat} {r : Int × Int}, riseM n ls → ls[i]? = some r → (if i = 0 then n else (ls.getD (i - 1) (0, 0)).1) < r.1 ∧ 0 ≤ r.2 ∧ r.2 ≤ 3
  | [], _, _, _, _, h => by cases h
  | u :: us, n, 0, r, ⟨a, b, c, _⟩, h => by
    cases h
    exact ⟨a, b, c⟩
  | u :: us, n, 1, r, ⟨_, _, _, d⟩, h => by
    have := rise_get (i := 0) d h
    exact this
  | u :: us, n, i + 2, r, ⟨_, _, _, d⟩, h => by
    have := rise_get (i := i + 1) d h
    exact this
abbrev sFline : Stmt := topS 67
def scFlineN : List Str := ["thing", "last", "row"]
theorem scFline : FnScope scFlineN ["thing"] (defScope sFline) := ⟨rfl, rfl, rfl, by decide +kernel, rfl, by decide +kernel, by decide +kernel⟩
theorem ok_Fline {f : Addr} {fd : FuncData} {fF_lrow : Addr} {dF_lrow : FuncData} (F : Fun K "is_line" "is_line" sFline f fd) (T : Tx K mg CB CM)
    (F_lrow : CalF P w K mg base 3 "is_line_row" ["row", "last"] (spLRow) fF_lrow dF_lrow) : FnOk P w K mg base CX0 4 f fd ["thing"] (spLine) := by
  refine F.ok scFline (fun vs H Q E h => by obtain ⟨_, _, _, rfl, _⟩ := h; rfl) (fun cdv A outer s H vs Q E hr h => ?_)
  have hu := hu_of hr
  have z_isinstance := T.z_isinstance
  have z_list := T.z_list
  obtain ⟨l, us, ls, rfl, hl, ht, hr2, q⟩ := h
  refine ⟨_, (pss_cons (ps_if (pt_not (pt_val (pe_callB call_isi (by rfl) z_isinstance (by decide +kernel) (pa_cons (pv 0) (pa_cons (pe_bltn (v := .ty "list") (u := .type "list") (by rfl) z_list (by decide +kernel) rfl) pa_nil))))) (pss_one (ps_ret pe_bl)) pss_nil)
    (pss_cons (ps_set (i := 1) scFline.nd rfl (.inl rfl) pe_int)
    (pss_cons (ps_for PassesOwn.never rfl (pi_list (pv 0)) (pg_name (i := 2) scFline.nd rfl (.inl rfl))
      (pss_cons (ps_if (pt_not (pt_val (pe_call F_lrow.G (hr.mono (by decide)) (by rfl) F_lrow.g F_lrow.kp F_lrow.b .nil pass0 (pa_cons (pv 2) (pa_cons (pv 1) pa_nil))))) (pss_one (ps_ret pe_bl)) pss_nil)
    (pss_one (ps_set (i := 1) scFline.nd rfl (.inl rfl) (pe_ix ix_tup (pv 2) pe_int (fun _ _ => rfl))))))
    (pss_one (ps_ret pe_bl))))), ?_⟩
  refine ⟨_, rfl, .ref l, .ty "list", _, _, true, rfl, .ty "list", .base (.lst hl), kit_ty (by decide +kernel), _, rfl, ifN (fun h => by cases h) (fun _ => ?_)⟩
  refine ⟨_, rfl, l, rfl, ⟨_, SqL.of hl⟩, ?_⟩
  refine for_list (K := K) (a := l) (xs := us) (fun i σ H' => H' = H ∧ ∃ y, σ = [some (.ref l), some (.int (if i = 0 then 0 else (ls.getD (i - 1) (0, 0)).1)), y]) ⟨rfl, none, rfl⟩ (fun i σ H' _ h => by obtain ⟨rfl, _⟩ := h; exact SqL.of hl) ?_ ?_
  · rintro i v σ H' hv ⟨rfl, y, rfl⟩
    have hi : i < ls.length := by
      rw [← TupsAt.len ht]
      exact (List.getElem?_eq_some_iff.mp hv).1
    obtain ⟨t, e1, e2⟩ := TupsAt.get ht hi
    have hv2 : v = .ref t := Option.some.inj (hv.symm.trans e1)
    subst hv2
    have hg : ls[i]? = some (ls.getD i (0, 0)) := by rw [List.getD_eq_getElem?_getD, List.getElem?_eq_getElem hi]; rfl
    obtain ⟨r1, r2, r3⟩ := rise_get hr2 hg
    refine ⟨_, rfl, _, rfl, t, _, _, rfl, e2, r1, r2, r3, _, rfl, ifN (fun h => by cases h) (fun _ => ?_)⟩
    refine ⟨_, rfl, t, _, 0, _, rfl, rfl, SqT.of e2, atI_nat (j := 0) rfl, rfl, some (.ref t), rfl⟩
  · rintro σ H' ⟨rfl, y, rfl⟩
    exact q
abbrev sCmem : Stmt := inClass (topS 58) 0
def scCmemN : List Str := ["self", "image", "erased", "nought"]
theorem scCmem : FnScope scCmemN ["self", "image"] (defScope sCmem) := ⟨rfl, rfl, rfl, by decide +kernel, rfl, by decide +kernel, by decide +kernel⟩
theorem ok_Cmem {f : Addr} {fd : FuncData} (F : Fun K "__init__" "Memory.__init__" sCmem f fd) (T : Tx K mg CB CM) : FnOk P w K mg base CX0 1 f fd ["self", "image"] (spMI CM) := by
  refine F.ok scCmem (fun vs H Q E h => by obtain ⟨_, _, _, _, rfl, _⟩ := h; rfl) (fun cdv A outer s H vs Q E hr h => ?_)
  have hu := hu_of hr
  obtain ⟨t_ERASED, g_ERASED⟩ := T.g_ERASED
  obtain ⟨t_FLASH_END, g_FLASH_END⟩ := T.g_FLASH_END
  obtain ⟨t_PLACES_END, g_PLACES_END⟩ := T.g_PLACES_END
  have z_len := T.z_len
  have z_list := T.z_list
  obtain ⟨m, dm, im, ns, rfl, hm, him, hl, q⟩ := h
  refine ⟨_, (pss_cons (ps_set (i := 2) scCmem.nd rfl (.inl rfl) (pe_op op_rep (pe_lst (pa_cons (pgI g_ERASED) pa_nil)) (pe_op op_sub (pgI g_FLASH_END) (pe_callB call_len_seq (by rfl) z_len PySem.boot_len (pa_cons (pv 1) pa_nil)))))
    (pss_cons (ps_set (i := 3) scCmem.nd rfl (.inl rfl) (pe_op op_rep (pe_lst (pa_cons pe_int pa_nil)) (pe_op op_sub (pgI g_PLACES_END) (pgI g_FLASH_END))))
    (pss_cons (ps_fld (pv 0) (pe_op op_cat (pe_op op_cat (pe_callTy call_list_of (by rfl) z_list (by decide +kernel) (pa_cons (pv 1) pa_nil)) (pv 2)) (pv 3)) rfl)
    (pss_one (ps_fld (pv 0) pe_dnewK rfl))))), ?_⟩
  have mim : m ≠ im := ne_of hm him (by intro q; cases q)
  refine ⟨(by show 1 ≤ sizeLine; decide), fun l1 n1 => ?_⟩
  have s1 : Same H (upd H l1 (.lst [.int 65535])) := same_upd' n1
  refine ⟨_, rfl, im, _, rfl, .inl (SqL.of (s1 _ _ him)), _, _, rfl, rfl, l1, _, _, rfl, rfl, upd_same, ?_, ?_, ?_, fun l2 n2 => ?_⟩
  · rw [List.length_map]; omega
  · rw [List.length_map]; omega
  · rw [List.length_map, List.length_singleton]; exact hsz (by omega)
  have e2 : (List.replicate (512 - ((ns.map V.int).length : Int)).toNat [V.int 65535]).flatten = (List.replicate (512 - ns.length) (65535 : Int)).map V.int := by
    rw [List.length_map, show (512 - (ns.length : Int)).toNat = 512 - ns.length by omega]
    exact flat_rep _ _
  rw [e2]
  have s2 := s1.trans (same_upd' (o := .lst ((List.replicate (512 - ns.length) (65535 : Int)).map V.int)) n2)
  have h2 : upd (upd H l1 (.lst [.int 65535])) l2 (.lst ((List.replicate (512 - ns.length) (65535 : Int)).map V.int)) l2 = _ := upd_same
  generalize upd (upd H l1 (.lst [.int 65535])) l2 (.lst ((List.replicate (512 - ns.length) (65535 : Int)).map V.int)) = H2 at *
  refine ⟨(by show 1 ≤ sizeLine; decide), fun l3 n3 => ?_⟩
  have s3 := s2.trans (same_upd' (o := .lst [.int 0]) n3)
  have h23 := same_upd' (o := .lst [.int 0]) n3 _ _ h2
  refine ⟨_, _, rfl, rfl, l3, _, _, rfl, rfl, upd_same, by omega, by omega, (by show 1 * 262 ≤ sizeLine; decide), fun l4 n4 => ?_⟩
  have e4 : (List.replicate ((774 : Int) - 512).toNat [V.int 0]).flatten = (List.replicate 262 (0 : Int)).map V.int := flat_rep 262 0
  rw [e4]
  have s4 := s3.trans (same_upd' (o := .lst ((List.replicate 262 (0 : Int)).map V.int)) n4)
  have h24 := same_upd' (o := .lst ((List.replicate 262 (0 : Int)).map V.int)) n4 _ _ h23
  have h4 : upd (upd H2 l3 (.lst [.int 0])) l4 (.lst ((List.replicate 262 (0 : Int)).map V.int)) l4 = _ := upd_same
  generalize upd (upd H2 l3 (.lst [.int 0])) l4 (.lst ((List.replicate 262 (0 : Int)).map V.int)) = H4 at *
  refine ⟨_, rfl, im, _, rfl, .inl (SqL.of (s4 _ _ him)), fun l5 n5 => ?_⟩
  have s5 := s4.trans (same_upd' (o := .lst (ns.map V.int)) n5)
  have h25 := same_upd' (o := .lst (ns.map V.int)) n5 _ _ h24
  have h45 := same_upd' (o := .lst (ns.map V.int)) n5 _ _ h4
  refine ⟨_, rfl, l5, l2, _, _, rfl, rfl, upd_same, h25, ?_, fun l6 n6 => ?_⟩
  · rw [List.length_map, List.length_map, List.length_replicate]; exact hsz (by omega)
  have s6 := s5.trans (same_upd' (o := .lst (ns.map V.int ++ (List.replicate (512 - ns.length) (65535 : Int)).map V.int)) n6)
  have h46 := same_upd' (o := .lst (ns.map V.int ++ (List.replicate (512 - ns.length) (65535 : Int)).map V.int)) n6 _ _ h45
  refine ⟨_, rfl, l6, l4, _, _, rfl, rfl, upd_same, h46, ?_, fun l7 n7 => ?_⟩
  · rw [List.length_append, List.length_map, List.length_map, List.length_map, List.length_replicate, List.length_replicate]; exact hsz (by omega)
  have em : ns.map V.int ++ (List.replicate (512 - ns.length) (65535 : Int)).map V.int ++ (List.replicate 262 (0 : Int)).map V.int = (memOf ns).map V.int := by
    unfold memOf
    rw [List.map_append, List.map_append]
  rw [em]
  have s7 := s6.trans (same_upd' (o := .lst ((memOf ns).map V.int)) n7)
  have f7 : H l7 = none := s6.free n7
  generalize upd (upd H4 l5 (.lst (ns.map V.int))) l6 (.lst (ns.map V.int ++ (List.replicate (512 - ns.length) (65535 : Int)).map V.int)) = H6 at *
  have h7 : upd H6 l7 (.lst ((memOf ns).map V.int)) l7 = _ := upd_same
  generalize upd H6 l7 (.lst ((memOf ns).map V.int)) = H7 at *
  have ml : m ≠ l7 := ne_of_none hm f7
  refine ⟨_, rfl, m, CM, dm, [], rfl, s7 _ _ hm, T.cM, T.n_words, (by show 0 < 1000; decide), ?_⟩
  intro s_ ns_
  have ms : m ≠ s_ := fun e => by rw [← e, upd_same] at ns_; cases ns_
  rw [upd_ne ms.symm] at ns_
  refine ⟨_, rfl, m, CM, dm, _, rfl, (by rw [upd_ne ms]; exact upd_same), T.cM, T.n_swapped, (by show 1 < 1000; decide), ?_⟩
  refine q _ l7 s_ ?_ ?_ f7 (s7.free ns_)
  · refine ⟨?_, ?_, ?_, ?_⟩
    · rw [upd_same]
      exact congrArg (fun z => some (HO.ins CM dm z)) (by kernel_rfl)
    · rw [upd_ne ml.symm, upd_ne (ne_of_none h7 ns_), upd_ne ml.symm]
      exact h7
    · rw [upd_ne ms.symm, upd_same]
    · unfold memOf
      rw [List.length_append, List.length_append, List.length_replicate, List.length_replicate]
      omega
  · intro b o hb e
    rw [upd_ne hb, upd_ne (ne_of_none (s7 _ _ e) ns_), upd_ne hb]
    exact s7 _ _ e
end
end Bh

/-! What deeds touch, and what they do. -/
namespace Bh
open PySem PySem.Spec PyProof.Rows L2
def touN (nm : Str) (n b sp : Int) : List (Bool × Int) :=
  if nm ∈ rdN then [(false, n)] else if nm = "put" then [(true, n)] else if nm = "getb" then [(false, n + b)] else if nm = "putb" then [(true, n + b)]
  else if nm ∈ [("call" : Str), "push"] then [(true, sp)] else if nm ∈ [("ret" : Str), "pop"] then [(false, sp + 1)] else if nm = "back" then [(false, sp + 1), (false, sp + 2)] else []
def nmOf (op : Nat) : Str := opN.getD op Str.empty
theorem touN_op (op : Nat) (h : op < 23) (n b sp : Int) : touN (nmOf op) n b sp = touM op n b sp := by
  match op, h with
  | 0, _ => kernel_rfl
  | 1, _ => kernel_rfl
  | 2, _ => kernel_rfl
  | 3, _ => kernel_rfl
  | 4, _ => kernel_rfl
  | 5, _ => kernel_rfl
  | 6, _ => kernel_rfl
  | 7, _ => kernel_rfl
  | 8, _ => kernel_rfl
  | 9, _ => kernel_rfl
  | 10, _ => kernel_rfl
  | 11, _ => kernel_rfl
  | 12, _ => kernel_rfl
  | 13, _ => kernel_rfl
  | 14, _ => kernel_rfl
  | 15, _ => kernel_rfl
  | 16, _ => kernel_rfl
  | 17, _ => kernel_rfl
  | 18, _ => kernel_rfl
  | 19, _ => kernel_rfl
  | 20, _ => kernel_rfl
  | 21, _ => kernel_rfl
  | 22, _ => kernel_rfl
  | n + 23, h => omega
def TouAt (H : Hp) : List V → List (Bool × Int) → Prop := Paired fun v t => ∃ q, v = .ref q ∧ H q = some (.tup [.str (kS t.1), .int t.2])
theorem TouAt.mono {H H' : Hp} (k : ∀ t xs, H t = some (.tup xs) → H' t = some (.tup xs)) : ∀ {us : List V} {ls : List (Bool × Int)}, TouAt H us ls → TouAt H' us ls
  | _, _, .nil => .nil
  | _, _, .cons h r => .cons (let ⟨t, e, q⟩ := h; ⟨t, e, k _ _ q⟩) (TouAt.mono k r)
theorem TouAt.len {H : Hp} : ∀ {us : List V} {ls : List (Bool × Int)}, TouAt H us ls → us.length = ls.length
  | _, _, .nil => rfl
  | _, _, .cons _ r => by rw [List.length_cons, List.length_cons, TouAt.len r]
theorem TouAt.get {H : Hp} : ∀ {us : List V} {ls : List (Bool × Int)} {i : Nat} {v : V}, TouAt H us ls → us[i]? = some v → ∃ q t, v = .ref q ∧ ls[i]? = some t ∧ H q = some (.tup [.str (kS t.1), .int t.2])
  | _, _, _, _, .nil, h => by cases h
  | _, _, 0, _, .cons h r, e => by
    obtain ⟨t, rfl, q⟩ := h
    cases e
    exact ⟨t, _, rfl, rfl, q⟩
  | _, _, i + 1, _, .cons h r, e => TouAt.get (i := i) r e
theorem in_strs (z : Str) : ∀ ys : List Str, inV (.str z) (ys.map V.str) = decide (z ∈ ys)
  | [] => rfl
  | y :: ys => by
    have ih := in_strs z ys
    unfold inV at ih ⊢
    rw [List.map_cons, List.any_cons, ih]
    show ((y == z) || decide (z ∈ ys)) = decide (z ∈ y :: ys)
    by_cases e : y = z
    · subst e
      simp
    · have e2 : ¬ z = y := fun q => e q.symm
      have : (y == z) = false := by simpa using e
      rw [this]
      simp [e2]
theorem flat_strs' (ys : List Str) : (ys.map V.str).all flatV = true := by
  rw [List.all_eq_true]
  intro v hv
  obtain ⟨y, _, rfl⟩ := List.mem_map.mp hv
  rfl
def spTou : Sp := fun vs H Q _ => ∃ (nm : Str) (n : Int) (r : Addr) (a b pc sp : Int), vs = [.str nm, .int n, .ref r] ∧ H r = some (.dK (regD a b pc sp)) ∧
  ∀ (H' : Hp) (l : Addr) (us : List V), Same H H' → H l = none → H' l = some (.lst us) → TouAt H' us (touN nm n b sp) → Q (.ref l) H'
/-- how many words it reads -/
def nR (op : Nat) : Nat :=
  match op with
  | 2 => 1
  | 4 => 1
  | 5 => 1
  | 6 => 1
  | 7 => 1
  | 8 => 1
  | 16 => 1
  | 18 => 1
  | 21 => 2
  | _ => 0
def spDo (CB CM : Addr) (op : Nat) : Sp := fun vs H Q _ => ∃ (H0 : Hp) (p lw : Addr) (x : Bd) (n : Int) (ws : List Int), vs = [.ref p, .int n, .ref lw] ∧ BoardAt CB CM H0 H p x ∧ H lw = some (.lst (ws.map V.int)) ∧ ws.length = nR op ∧
  (∀ t ∈ touM op n x.b x.sp, 0 ≤ t.2 ∧ t.2 < 774) ∧ x.sent.length < 1000000 ∧ ∀ H', BoardAt CB CM H0 H' p (doM op n ws x) → Q .non H'
def spGive (CB CM : Addr) : Sp := fun vs H Q _ => ∃ (H0 : Hp) (p : Addr) (x : Bd) (v : Int), vs = [.ref p, .int v] ∧ BoardAt CB CM H0 H p x ∧ ∀ H', BoardAt CB CM H0 H' p (giveM v x) → Q .non H'
def spPw (CB CM : Addr) : Sp := fun vs H Q _ => ∃ (H0 : Hp) (p : Addr) (x : Bd) (a v : Int), vs = [.ref p, .int a, .int v] ∧ BoardAt CB CM H0 H p x ∧ x.sent.length < 1000000 ∧ 0 ≤ a ∧ a < 774 ∧ ∀ H', BoardAt CB CM H0 H' p (putWM a v x) → Q .non H'
theorem len1 {α : Type} {l : List α} (h : l.length = 1) : ∃ v, l = [v] := by
  match l, h with
  | [v], _ => exact ⟨v, rfl⟩
theorem len2 {α : Type} {l : List α} (h : l.length = 2) : ∃ v w, l = [v, w] := by
  match l, h with
  | [v, w], _ => exact ⟨v, w, rfl⟩
section
variable {P : Program} {w : World} {K : PySem.W.Frag} {mg : Str → Option Value} {base : Heap} {CB CM : Addr}
abbrev sFtou : Stmt := topS 19
def scFtouN : List Str := ["name", "x", "registers"]
theorem scFtou : FnScope scFtouN ["name", "x", "registers"] (defScope sFtou) := ⟨rfl, rfl, rfl, by decide +kernel, rfl, by decide +kernel, by decide +kernel⟩
theorem ok_Ftou {f : Addr} {fd : FuncData} (F : Fun K "touches_of" "touches_of" sFtou f fd) (T : Tx K mg CB CM) : FnOk P w K mg base CX0 1 f fd ["name", "x", "registers"] (spTou) := by
  refine F.ok scFtou (fun vs H Q E h => by obtain ⟨_, _, _, _, _, _, _, rfl, _⟩ := h; rfl) (fun cdv A outer s H vs Q E hr h => ?_)
  have hu := hu_of hr
  obtain ⟨nm, n, r, a, b, pc, sp, rfl, hR, q⟩ := h
  obtain ⟨aR, g_READS_AT_X, vR⟩ := T.g_READS_AT_X
  unfold touN at q
  refine ⟨_, (pss_cons (ps_if (pt_cmpR op_in_seq (pv 0) (pgR g_READS_AT_X) (by rfl)) (pss_one (ps_ret (pe_lst (pa_cons (pe_tup (pa_cons pe_str (pa_cons (pv 1) pa_nil))) pa_nil)))) pss_nil)
    (pss_cons (ps_if (pt_cmpR op_eq (pv 0) pe_str (nomark _)) (pss_one (ps_ret (pe_lst (pa_cons (pe_tup (pa_cons pe_str (pa_cons (pv 1) pa_nil))) pa_nil)))) pss_nil)
    (pss_cons (ps_if (pt_cmpR op_eq (pv 0) pe_str (nomark _)) (pss_one (ps_ret (pe_lst (pa_cons (pe_tup (pa_cons pe_str (pa_cons (pe_op op_add (pv 1) (pe_dget hu (pv 2) pe_str (fun _ _ => rfl))) pa_nil))) pa_nil)))) pss_nil)
    (pss_cons (ps_if (pt_cmpR op_eq (pv 0) pe_str (nomark _)) (pss_one (ps_ret (pe_lst (pa_cons (pe_tup (pa_cons pe_str (pa_cons (pe_op op_add (pv 1) (pe_dget hu (pv 2) pe_str (fun _ _ => rfl))) pa_nil))) pa_nil)))) pss_nil)
    (pss_cons (ps_if (pt_cmpR op_in_seq (pv 0) (pe_tup (pa_cons pe_str (pa_cons pe_str pa_nil))) (by rfl)) (pss_one (ps_ret (pe_lst (pa_cons (pe_tup (pa_cons pe_str (pa_cons (pe_dget hu (pv 2) pe_str (fun _ _ => rfl)) pa_nil))) pa_nil)))) pss_nil)
    (pss_cons (ps_if (pt_cmpR op_in_seq (pv 0) (pe_tup (pa_cons pe_str (pa_cons pe_str pa_nil))) (by rfl)) (pss_one (ps_ret (pe_lst (pa_cons (pe_tup (pa_cons pe_str (pa_cons (pe_op op_add (pe_dget hu (pv 2) pe_str (fun _ _ => rfl)) pe_int) pa_nil))) pa_nil)))) pss_nil)
    (pss_cons (ps_if (pt_cmpR op_eq (pv 0) pe_str (nomark _)) (pss_one (ps_ret (pe_lst (pa_cons (pe_tup (pa_cons pe_str (pa_cons (pe_op op_add (pe_dget hu (pv 2) pe_str (fun _ _ => rfl)) pe_int) pa_nil))) (pa_cons (pe_tup (pa_cons pe_str (pa_cons (pe_op op_add (pe_dget hu (pv 2) pe_str (fun _ _ => rfl)) pe_int) pa_nil))) pa_nil))))) pss_nil)
    (pss_one (ps_ret (pe_lst pa_nil)))))))))), ?_⟩
  refine ⟨_, rfl, aR, _, rfl, .inr (vR _), rfl, flat_strs' rdN, _, rfl, ?_⟩
  rw [if_neg Bool.false_ne_true, in_strs]
  refine ifB (fun h => ?_) (fun h => ?_)
  · rw [if_pos (of_decide_eq_true h)] at q
    exact ⟨_, rfl, (by show 2 ≤ sizeLine; decide), fun t nt => ⟨(by show 1 ≤ sizeLine; decide), fun l nl => q _ l [.ref t] ((same_upd' nt).trans (same_upd' nl)) ((same_upd' nt).free nl) upd_same (.cons ⟨t, rfl, same_upd' nl _ _ upd_same⟩ .nil)⟩⟩
  rw [if_neg (of_decide_eq_false h)] at q
  refine ⟨_, rfl, rfl, _, rfl, ifB (fun h => ?_) (fun h => ?_)⟩
  · rw [if_pos (V.str.inj (of_decide_eq_true h))] at q
    exact ⟨_, rfl, (by show 2 ≤ sizeLine; decide), fun t nt => ⟨(by show 1 ≤ sizeLine; decide), fun l nl => q _ l [.ref t] ((same_upd' nt).trans (same_upd' nl)) ((same_upd' nt).free nl) upd_same (.cons ⟨t, rfl, same_upd' nl _ _ upd_same⟩ .nil)⟩⟩
  rw [if_neg (fun z => of_decide_eq_false h (congrArg V.str z))] at q
  refine ⟨_, rfl, rfl, _, rfl, ifB (fun h => ?_) (fun h => ?_)⟩
  · rw [if_pos (V.str.inj (of_decide_eq_true h))] at q
    exact ⟨_, rfl, _, rfl, r, _, rfl, dg (k := Sum.inr "b") hR rG_b, _, _, rfl, rfl, (by show 2 ≤ sizeLine; decide), fun t nt => ⟨(by show 1 ≤ sizeLine; decide), fun l nl => q _ l [.ref t] ((same_upd' nt).trans (same_upd' nl)) ((same_upd' nt).free nl) upd_same (.cons ⟨t, rfl, same_upd' nl _ _ upd_same⟩ .nil)⟩⟩
  rw [if_neg (fun z => of_decide_eq_false h (congrArg V.str z))] at q
  refine ⟨_, rfl, rfl, _, rfl, ifB (fun h => ?_) (fun h => ?_)⟩
  · rw [if_pos (V.str.inj (of_decide_eq_true h))] at q
    exact ⟨_, rfl, _, rfl, r, _, rfl, dg (k := Sum.inr "b") hR rG_b, _, _, rfl, rfl, (by show 2 ≤ sizeLine; decide), fun t nt => ⟨(by show 1 ≤ sizeLine; decide), fun l nl => q _ l [.ref t] ((same_upd' nt).trans (same_upd' nl)) ((same_upd' nt).free nl) upd_same (.cons ⟨t, rfl, same_upd' nl _ _ upd_same⟩ .nil)⟩⟩
  rw [if_neg (fun z => of_decide_eq_false h (congrArg V.str z))] at q
  refine ⟨_, rfl, (by show 2 ≤ sizeLine; decide), fun c1 nc1 => ?_⟩
  have sc1 := same_upd' (o := .tup [V.str "call", V.str "push"]) nc1
  have hc1 : upd H c1 (.tup [V.str "call", V.str "push"]) c1 = some (.tup ([("call" : Str), "push"].map V.str)) := upd_same
  generalize upd H c1 (.tup [V.str "call", V.str "push"]) = H1 at *
  refine ⟨c1, _, rfl, .inr (SqT.of hc1), rfl, flat_strs' _, _, rfl, ?_⟩
  rw [if_neg Bool.false_ne_true, in_strs]
  refine ifB (fun h => ?_) (fun h => ?_)
  · rw [if_pos (of_decide_eq_true h)] at q
    exact ⟨_, rfl, r, _, rfl, dg (k := Sum.inr "sp") (sc1 _ _ hR) rG_sp, (by show 2 ≤ sizeLine; decide), fun t nt => ⟨(by show 1 ≤ sizeLine; decide), fun l nl => q _ l [.ref t] ((sc1.trans (same_upd' nt)).trans (same_upd' nl)) ((sc1.trans (same_upd' nt)).free nl) upd_same (.cons ⟨t, rfl, same_upd' nl _ _ upd_same⟩ .nil)⟩⟩
  rw [if_neg (of_decide_eq_false h)] at q
  refine ⟨_, rfl, (by show 2 ≤ sizeLine; decide), fun c2 nc2 => ?_⟩
  have sc2 := sc1.trans (same_upd' (o := .tup [V.str "ret", V.str "pop"]) nc2)
  have hc2 : upd H1 c2 (.tup [V.str "ret", V.str "pop"]) c2 = some (.tup ([("ret" : Str), "pop"].map V.str)) := upd_same
  generalize upd H1 c2 (.tup [V.str "ret", V.str "pop"]) = H2 at *
  refine ⟨c2, _, rfl, .inr (SqT.of hc2), rfl, flat_strs' _, _, rfl, ?_⟩
  rw [if_neg Bool.false_ne_true, in_strs]
  refine ifB (fun h => ?_) (fun h => ?_)
  · rw [if_pos (of_decide_eq_true h)] at q
    exact ⟨_, rfl, r, _, rfl, dg (k := Sum.inr "sp") (sc2 _ _ hR) rG_sp, _, _, rfl, rfl, (by show 2 ≤ sizeLine; decide), fun t nt => ⟨(by show 1 ≤ sizeLine; decide), fun l nl => q _ l [.ref t] ((sc2.trans (same_upd' nt)).trans (same_upd' nl)) ((sc2.trans (same_upd' nt)).free nl) upd_same (.cons ⟨t, rfl, same_upd' nl _ _ upd_same⟩ .nil)⟩⟩
  rw [if_neg (of_decide_eq_false h)] at q
  refine ⟨_, rfl, rfl, _, rfl, ifB (fun h => ?_) (fun h => ?_)⟩
  · rw [if_pos (V.str.inj (of_decide_eq_true h))] at q
    refine ⟨_, rfl, r, _, rfl, dg (k := Sum.inr "sp") (sc2 _ _ hR) rG_sp, _, _, rfl, rfl, (by show 2 ≤ sizeLine; decide), fun t nt => ?_⟩
    have sc3 := sc2.trans (same_upd' (o := .tup [V.str "r", V.int (sp + 1)]) nt)
    have ht : upd H2 t (.tup [V.str "r", V.int (sp + 1)]) t = some (.tup [V.str "r", V.int (sp + 1)]) := upd_same
    generalize upd H2 t (.tup [V.str "r", V.int (sp + 1)]) = H3 at *
    refine ⟨_, rfl, r, _, rfl, dg (k := Sum.inr "sp") (sc3 _ _ hR) rG_sp, _, _, rfl, rfl, (by show 2 ≤ sizeLine; decide), fun t2 nt2 => ⟨(by show 2 ≤ sizeLine; decide), fun l nl => ?_⟩⟩
    exact q _ l [.ref t, .ref t2] ((sc3.trans (same_upd' nt2)).trans (same_upd' nl)) ((sc3.trans (same_upd' nt2)).free nl) upd_same (.cons ⟨t, rfl, same_upd' nl _ _ (same_upd' nt2 _ _ ht)⟩ (.cons ⟨t2, rfl, same_upd' nl _ _ upd_same⟩ .nil))
  rw [if_neg (fun z => of_decide_eq_false h (congrArg V.str z))] at q
  exact ⟨Nat.zero_le _, fun l nl => q _ l [] (sc2.trans (same_upd' nl)) (sc2.free nl) upd_same .nil⟩
abbrev sFgive : Stmt := topS 20
def scFgiveN : List Str := ["board", "word"]
theorem scFgive : FnScope scFgiveN ["board", "word"] (defScope sFgive) := ⟨rfl, rfl, rfl, by decide +kernel, rfl, by decide +kernel, by decide +kernel⟩
theorem ok_Fgive {f : Addr} {fd : FuncData} (F : Fun K "give" "give" sFgive f fd) (T : Tx K mg CB CM) : FnOk P w K mg base CX0 1 f fd ["board", "word"] (spGive CB CM) := by
  refine F.ok scFgive (fun vs H Q E h => by obtain ⟨_, _, _, _, rfl, _⟩ := h; rfl) (fun cdv A outer s H vs Q E hr h => ?_)
  have hu := hu_of hr
  obtain ⟨H0, p, x, v, rfl, R, k⟩ := h
  obtain ⟨A, ts, ls, B⟩ := R
  obtain ⟨sv, tv, dv, hp, hz⟩ := B.hp
  refine ⟨_, (pss_cons (ps_dput hu (pe_fld (pv 0) rfl) pe_str (pv 1) rfl)
    (pss_one (ps_fld (pv 0) (pe_cmpR op_eq (pv 1) pe_int (nomark _)) rfl))), ?_⟩
  refine ⟨_, rfl, _, rfl, p, CB, A.dx, _, _, rfl, hp, T.cB, T.n_registers, bF_reg, A.r, _, rfl, dp (k := Sum.inr "a") B.hr rP_a, ?_⟩
  have B1 := B.regs (a := v) (b := x.b) (pc := x.pc) (sp := x.sp)
  obtain ⟨sv1, tv1, dv1, hp1, hz1⟩ := B1.hp
  refine ⟨_, rfl, rfl, _, rfl, p, CB, A.dx, _, rfl, hp1, T.cB, T.n_zero, (by show 13 < 1000; decide), ?_⟩
  rw [bP_zero]
  have B2 := B1.fld (z := decide (V.int v = V.int 0)) (le := x.lets) (as := x.asleep) (bt := x.beat) (sv := sv1) (la := x.la) (tv := tv1) (dv := dv1) hz1
  have e : decide (V.int v = V.int 0) = decide (v = 0) := by
    by_cases h : v = 0
    · rw [decide_eq_true h, h]; rfl
    · rw [decide_eq_false h]; exact decide_eq_false fun z => h (V.int.inj z)
  rw [e] at B2 ⊢
  exact k _ ⟨A, ts, ls, B2⟩
abbrev sMpw : Stmt := inClass (topS 75) 11
def scMpwN : List Str := ["self", "address", "word"]
theorem scMpw : FnScope scMpwN ["self", "address", "word"] (defScope sMpw) := ⟨rfl, rfl, rfl, by decide +kernel, rfl, by decide +kernel, by decide +kernel⟩
theorem ok_Mpw {f : Addr} {fd : FuncData} {fM_put : Addr} {dM_put : FuncData} (F : Fun K "put_word" "Board.put_word" sMpw f fd) (T : Tx K mg CB CM)
    (M_put : CalM P w K mg base CM 1 "put" ["self", "address", "word"] (spMPut CM) fM_put dM_put) : FnOk P w K mg base CX0 2 f fd ["self", "address", "word"] (spPw CB CM) := by
  refine F.ok scMpw (fun vs H Q E h => by obtain ⟨_, _, _, _, _, rfl, _⟩ := h; rfl) (fun cdv A outer s H vs Q E hr h => ?_)
  have hu := hu_of hr
  obtain ⟨t_LINE_OUT, g_LINE_OUT⟩ := T.g_LINE_OUT
  obtain ⟨H0, p, x, a, v, rfl, R, hsl, a0, a1, k⟩ := h
  obtain ⟨A, ts, ls, B⟩ := R
  obtain ⟨sv, tv, dv, hp, hz⟩ := B.hp
  refine ⟨_, (pss_cons (ps_if (pt_cmpR op_eq (pv 1) (pgI g_LINE_OUT) (nomark _)) (pss_one (ps_expr (pe_bm PySem.F.plainAttrs_list PySem.F.slot_list_append PySem.F.type_list_append mt_append (pe_fld (pv 0) rfl) (pa_cons (pe_tup (pa_cons (pe_fld (pv 0) rfl) (pa_cons (pv 2) pa_nil))) pa_nil)))) pss_nil)
    (pss_one (ps_expr (pe_meth (pe_fld (pv 0) rfl) M_put.c M_put.m M_put.G (hr.mono (by decide)) M_put.b .nil pass0 (pa_cons (pv 1) (pa_cons (pv 2) pa_nil)))))), ?_⟩
  have fin : ∀ H1 y ts1, Bp CB CM H0 H1 p A ts1 ls y → y = sendM a v x → ∃ sv tv dv, H1 p = some (.ins CB A.dx (bdF A.r A.t A.m A.l y.zero y.lets y.asleep y.beat sv y.la tv dv)) ∧ MemAt CM H1 A.m A.dm A.w A.s y.mem ∧ Q .non (upd H1 A.w (.lst ((putMM a v y.mem).map V.int))) := fun H1 y ts1 B1 e => by
    obtain ⟨sv, tv, dv, hp, hz⟩ := B1.hp
    refine ⟨sv, tv, dv, hp, B1.mem, k _ ⟨A, ts1, ls, ?_⟩⟩
    have B2 := B1.wds (m := putMM a v y.mem) (by rw [putMM_len]; exact B1.lm)
    have e2 : putWM a v x = { y with mem := putMM a v y.mem } := by
      unfold putWM
      rw [e]
      have : (sendM a v x).mem = x.mem := by unfold sendM; split <;> rfl
      rw [this]
    rw [e2]
    exact B2
  refine ⟨_, rfl, rfl, _, rfl, ifB (fun h => ?_) (fun h => ?_)⟩
  · have ea := V.int.inj (of_decide_eq_true h)
    refine ⟨_, rfl, p, CB, A.dx, _, _, rfl, hp, T.cB, T.n_sent, bF_sent, .inl ⟨rfl, _, SqL.of B.ht⟩, _, rfl, p, CB, A.dx, _, _, rfl, hp, T.cB, T.n_beat, bF_beat, _, rfl, (by show 2 ≤ sizeLine; decide), fun q nq => ?_⟩
    have B1 := B.more (o := .tup [V.int x.beat, V.int v]) nq
    refine ⟨A.t, ts, _, rfl, rfl, B1.ht, (by rw [TupsAt.len B.us]; exact Nat.lt_of_lt_of_le hsl (by decide)), ?_⟩
    have B2 := B1.snd (q := q) (u := (x.beat, v)) upd_same
    obtain ⟨sv2, tv2, dv2, hp2, M2, fin2⟩ := fin _ _ _ B2 (by unfold sendM; rw [if_pos ea])
    exact ⟨_, rfl, p, CB, A.dx, _, _, rfl, hp2, T.cB, T.n_memory, bF_mem, A.m, A.dm, _, rfl, M2.hm, mN_put, _, rfl, _, rfl, A.m, A.dm, A.w, A.s, _, a, v, rfl, M2, a0, a1, fin2⟩
  · have ea : ¬ a = 773 := fun z => of_decide_eq_false h (congrArg V.int z)
    obtain ⟨sv2, tv2, dv2, hp2, M2, fin2⟩ := fin _ _ _ B (by unfold sendM; rw [if_neg ea])
    exact ⟨_, rfl, p, CB, A.dx, _, _, rfl, hp2, T.cB, T.n_memory, bF_mem, A.m, A.dm, _, rfl, M2.hm, mN_put, _, rfl, _, rfl, A.m, A.dm, A.w, A.s, _, a, v, rfl, M2, a0, a1, fin2⟩
abbrev sMpbt : Stmt := inClass (topS 75) 10
def scMpbtN : List Str := ["self", "address", "word"]
theorem scMpbt : FnScope scMpbtN ["self", "address", "word"] (defScope sMpbt) := ⟨rfl, rfl, rfl, by decide +kernel, rfl, by decide +kernel, by decide +kernel⟩
theorem ok_Mpbt {f : Addr} {fd : FuncData} {fM_pw : Addr} {dM_pw : FuncData} (F : Fun K "put_by_turn" "Board.put_by_turn" sMpbt f fd) (T : Tx K mg CB CM)
    (M_pw : CalM P w K mg base CB 2 "put_word" ["self", "address", "word"] (spPw CB CM) fM_pw dM_pw) : FnOk P w K mg base CX0 3 f fd ["self", "address", "word"] (spPw CB CM) := by
  refine F.ok scMpbt (fun vs H Q E h => by obtain ⟨_, _, _, _, _, rfl, _⟩ := h; rfl) (fun cdv A outer s H vs Q E hr h => ?_)
  have hu := hu_of hr
  obtain ⟨H0, p, x, a, v, rfl, R, hsl, a0, a1, k⟩ := h
  obtain ⟨A, ts, ls, B⟩ := R
  obtain ⟨sv, tv, dv, hp, hz⟩ := B.hp
  refine ⟨_, (pss_cons (ps_if (pt_cmp (pc_din hu (pv 1) (pe_fld (pe_fld (pv 0) rfl) rfl))) (pss_one (ps_ddel (pe_fld (pe_fld (pv 0) rfl) rfl) (pv 1))) pss_nil)
    (pss_one (ps_expr (pe_meth (pv 0) M_pw.c M_pw.m M_pw.G (hr.mono (by decide)) M_pw.b .nil pass0 (pa_cons (pv 1) (pa_cons (pv 2) pa_nil)))))), ?_⟩
  refine ⟨_, rfl, _, rfl, p, CB, A.dx, _, _, rfl, hp, T.cB, T.n_memory, bF_mem, A.m, CM, A.dm, _, _, rfl, B.hm, T.cM, T.n_swapped, mF_s, A.s, _, rfl, DGet.k (k := Sum.inl a) B.hs, _, rfl, ?_⟩
  exact ⟨_, rfl, p, A.dx, _, rfl, hp, bN_pw, _, rfl, _, rfl, H0, p, x, a, v, rfl, ⟨A, ts, ls, B⟩, hsl, a0, a1, k⟩
end
end Bh

/-! What each deed does. -/
namespace Bh
open PySem PySem.Spec PyProof.Rows L2
section
variable {P : Program} {w : World} {K : PySem.W.Frag} {mg : Str → Option Value} {base : Heap} {CB CM : Addr}
abbrev sD1 : Stmt := topS 21
def scD1N : List Str := ["board", "x", "words"]
theorem scD1 : FnScope scD1N ["board", "x", "words"] (defScope sD1) := ⟨rfl, rfl, rfl, by decide +kernel, rfl, by decide +kernel, by decide +kernel⟩
theorem ok_D1 {f : Addr} {fd : FuncData} {fF_give : Addr} {dF_give : FuncData} (F : Fun K "do_lit" "do_lit" sD1 f fd) (T : Tx K mg CB CM)
    (F_give : CalF P w K mg base 1 "give" ["board", "word"] (spGive CB CM) fF_give dF_give) : FnOk P w K mg base CX0 4 f fd ["board", "x", "words"] (spDo CB CM 1) := by
  refine F.ok scD1 (fun vs H Q E h => by obtain ⟨_, _, _, _, _, _, rfl, _⟩ := h; rfl) (fun cdv A outer s H vs Q E hr h => ?_)
  have hu := hu_of hr
  obtain ⟨H0, p, lw, x, n, ws, rfl, R, hlw, hws, hto, hsl, k⟩ := h
  refine ⟨_, (pss_one (ps_expr (pe_call F_give.G (hr.mono (by decide)) (by rfl) F_give.g F_give.kp F_give.b .nil pass0 (pa_cons (pv 0) (pa_cons (pv 1) pa_nil))))), ?_⟩
  exact ⟨_, rfl, _, rfl, H0, p, x, n, rfl, R, k⟩
abbrev sD2 : Stmt := topS 22
def scD2N : List Str := ["board", "x", "words"]
theorem scD2 : FnScope scD2N ["board", "x", "words"] (defScope sD2) := ⟨rfl, rfl, rfl, by decide +kernel, rfl, by decide +kernel, by decide +kernel⟩
theorem ok_D2 {f : Addr} {fd : FuncData} {fF_give : Addr} {dF_give : FuncData} (F : Fun K "do_get" "do_get" sD2 f fd) (T : Tx K mg CB CM)
    (F_give : CalF P w K mg base 1 "give" ["board", "word"] (spGive CB CM) fF_give dF_give) : FnOk P w K mg base CX0 4 f fd ["board", "x", "words"] (spDo CB CM 2) := by
  refine F.ok scD2 (fun vs H Q E h => by obtain ⟨_, _, _, _, _, _, rfl, _⟩ := h; rfl) (fun cdv A outer s H vs Q E hr h => ?_)
  have hu := hu_of hr
  obtain ⟨H0, p, lw, x, n, ws, rfl, R, hlw, hws, hto, hsl, k⟩ := h
  obtain ⟨v, rfl⟩ := len1 hws
  refine ⟨_, (pss_one (ps_expr (pe_call F_give.G (hr.mono (by decide)) (by rfl) F_give.g F_give.kp F_give.b .nil pass0 (pa_cons (pv 0) (pa_cons (pe_ix ix_list (pv 2) pe_int (fun _ _ => rfl)) pa_nil))))), ?_⟩
  exact ⟨_, rfl, _, rfl, lw, _, 0, _, rfl, rfl, SqL.of hlw, atI_nat (j := 0) rfl, H0, p, x, v, rfl, R, k⟩
abbrev sD8 : Stmt := topS 22
def scD8N : List Str := ["board", "x", "words"]
theorem scD8 : FnScope scD8N ["board", "x", "words"] (defScope sD8) := ⟨rfl, rfl, rfl, by decide +kernel, rfl, by decide +kernel, by decide +kernel⟩
theorem ok_D8 {f : Addr} {fd : FuncData} {fF_give : Addr} {dF_give : FuncData} (F : Fun K "do_get" "do_get" sD8 f fd) (T : Tx K mg CB CM)
    (F_give : CalF P w K mg base 1 "give" ["board", "word"] (spGive CB CM) fF_give dF_give) : FnOk P w K mg base CX0 4 f fd ["board", "x", "words"] (spDo CB CM 8) := by
  refine F.ok scD8 (fun vs H Q E h => by obtain ⟨_, _, _, _, _, _, rfl, _⟩ := h; rfl) (fun cdv A outer s H vs Q E hr h => ?_)
  have hu := hu_of hr
  obtain ⟨H0, p, lw, x, n, ws, rfl, R, hlw, hws, hto, hsl, k⟩ := h
  obtain ⟨v, rfl⟩ := len1 hws
  refine ⟨_, (pss_one (ps_expr (pe_call F_give.G (hr.mono (by decide)) (by rfl) F_give.g F_give.kp F_give.b .nil pass0 (pa_cons (pv 0) (pa_cons (pe_ix ix_list (pv 2) pe_int (fun _ _ => rfl)) pa_nil))))), ?_⟩
  exact ⟨_, rfl, _, rfl, lw, _, 0, _, rfl, rfl, SqL.of hlw, atI_nat (j := 0) rfl, H0, p, x, v, rfl, R, k⟩
abbrev sD3 : Stmt := topS 23
def scD3N : List Str := ["board", "x", "words"]
theorem scD3 : FnScope scD3N ["board", "x", "words"] (defScope sD3) := ⟨rfl, rfl, rfl, by decide +kernel, rfl, by decide +kernel, by decide +kernel⟩
theorem ok_D3 {f : Addr} {fd : FuncData} {fM_pbt : Addr} {dM_pbt : FuncData} (F : Fun K "do_put" "do_put" sD3 f fd) (T : Tx K mg CB CM)
    (M_pbt : CalM P w K mg base CB 3 "put_by_turn" ["self", "address", "word"] (spPw CB CM) fM_pbt dM_pbt) : FnOk P w K mg base CX0 4 f fd ["board", "x", "words"] (spDo CB CM 3) := by
  refine F.ok scD3 (fun vs H Q E h => by obtain ⟨_, _, _, _, _, _, rfl, _⟩ := h; rfl) (fun cdv A outer s H vs Q E hr h => ?_)
  have hu := hu_of hr
  obtain ⟨H0, p, lw, x, n, ws, rfl, R, hlw, hws, hto, hsl, k⟩ := h
  obtain ⟨A, ts, ls, B⟩ := R
  obtain ⟨sv, tv, dv, hp, hz⟩ := B.hp
  obtain ⟨t0, t1⟩ := hto (true, n) (List.mem_singleton.mpr rfl)
  refine ⟨_, (pss_one (ps_expr (pe_meth (pv 0) M_pbt.c M_pbt.m M_pbt.G (hr.mono (by decide)) M_pbt.b .nil pass0 (pa_cons (pv 1) (pa_cons (pe_dget hu (pe_fld (pv 0) rfl) pe_str (fun _ _ => rfl)) pa_nil))))), ?_⟩
  exact ⟨_, rfl, p, A.dx, _, rfl, hp, bN_pbt, _, rfl, _, rfl, p, CB, A.dx, _, _, rfl, hp, T.cB, T.n_registers, bF_reg, A.r, _, rfl, dg (k := Sum.inr "a") B.hr rG_a, H0, p, x, n, x.a, rfl, ⟨A, ts, ls, B⟩, hsl, t0, t1, k⟩
abbrev sD4 : Stmt := topS 24
def scD4N : List Str := ["board", "x", "words"]
theorem scD4 : FnScope scD4N ["board", "x", "words"] (defScope sD4) := ⟨rfl, rfl, rfl, by decide +kernel, rfl, by decide +kernel, by decide +kernel⟩
theorem ok_D4 {f : Addr} {fd : FuncData} {fF_give : Addr} {dF_give : FuncData} (F : Fun K "do_add" "do_add" sD4 f fd) (T : Tx K mg CB CM)
    (F_give : CalF P w K mg base 1 "give" ["board", "word"] (spGive CB CM) fF_give dF_give) : FnOk P w K mg base CX0 4 f fd ["board", "x", "words"] (spDo CB CM 4) := by
  refine F.ok scD4 (fun vs H Q E h => by obtain ⟨_, _, _, _, _, _, rfl, _⟩ := h; rfl) (fun cdv A outer s H vs Q E hr h => ?_)
  have hu := hu_of hr
  obtain ⟨t_WORDS, g_WORDS⟩ := T.g_WORDS
  obtain ⟨H0, p, lw, x, n, ws, rfl, R, hlw, hws, hto, hsl, k⟩ := h
  obtain ⟨v, rfl⟩ := len1 hws
  obtain ⟨A, ts, ls, B⟩ := R
  obtain ⟨sv, tv, dv, hp, hz⟩ := B.hp
  refine ⟨_, (pss_one (ps_expr (pe_call F_give.G (hr.mono (by decide)) (by rfl) F_give.g F_give.kp F_give.b .nil pass0 (pa_cons (pv 0) (pa_cons (pe_op op_mod (pe_op op_add (pe_dget hu (pe_fld (pv 0) rfl) pe_str (fun _ _ => rfl)) (pe_ix ix_list (pv 2) pe_int (fun _ _ => rfl))) (pgI g_WORDS)) pa_nil))))), ?_⟩
  exact ⟨_, rfl, _, rfl, p, CB, A.dx, _, _, rfl, hp, T.cB, T.n_registers, bF_reg, A.r, _, rfl, dg (k := Sum.inr "a") B.hr rG_a, _, rfl, lw, _, 0, _, rfl, rfl, SqL.of hlw, atI_nat (j := 0) rfl, _, _, rfl, rfl, _, _, rfl, rfl, (by show (0 : Int) < 65536; decide), H0, p, x, (x.a + v) % 65536, rfl, ⟨A, ts, ls, B⟩, k⟩
abbrev sD5 : Stmt := topS 25
def scD5N : List Str := ["board", "x", "words"]
theorem scD5 : FnScope scD5N ["board", "x", "words"] (defScope sD5) := ⟨rfl, rfl, rfl, by decide +kernel, rfl, by decide +kernel, by decide +kernel⟩
theorem ok_D5 {f : Addr} {fd : FuncData} {fF_give : Addr} {dF_give : FuncData} (F : Fun K "do_sub" "do_sub" sD5 f fd) (T : Tx K mg CB CM)
    (F_give : CalF P w K mg base 1 "give" ["board", "word"] (spGive CB CM) fF_give dF_give) : FnOk P w K mg base CX0 4 f fd ["board", "x", "words"] (spDo CB CM 5) := by
  refine F.ok scD5 (fun vs H Q E h => by obtain ⟨_, _, _, _, _, _, rfl, _⟩ := h; rfl) (fun cdv A outer s H vs Q E hr h => ?_)
  have hu := hu_of hr
  obtain ⟨t_WORDS, g_WORDS⟩ := T.g_WORDS
  obtain ⟨H0, p, lw, x, n, ws, rfl, R, hlw, hws, hto, hsl, k⟩ := h
  obtain ⟨v, rfl⟩ := len1 hws
  obtain ⟨A, ts, ls, B⟩ := R
  obtain ⟨sv, tv, dv, hp, hz⟩ := B.hp
  refine ⟨_, (pss_one (ps_expr (pe_call F_give.G (hr.mono (by decide)) (by rfl) F_give.g F_give.kp F_give.b .nil pass0 (pa_cons (pv 0) (pa_cons (pe_op op_mod (pe_op op_sub (pe_dget hu (pe_fld (pv 0) rfl) pe_str (fun _ _ => rfl)) (pe_ix ix_list (pv 2) pe_int (fun _ _ => rfl))) (pgI g_WORDS)) pa_nil))))), ?_⟩
  exact ⟨_, rfl, _, rfl, p, CB, A.dx, _, _, rfl, hp, T.cB, T.n_registers, bF_reg, A.r, _, rfl, dg (k := Sum.inr "a") B.hr rG_a, _, rfl, lw, _, 0, _, rfl, rfl, SqL.of hlw, atI_nat (j := 0) rfl, _, _, rfl, rfl, _, _, rfl, rfl, (by show (0 : Int) < 65536; decide), H0, p, x, (x.a - v) % 65536, rfl, ⟨A, ts, ls, B⟩, k⟩
abbrev sD6 : Stmt := topS 26
def scD6N : List Str := ["board", "x", "words"]
theorem scD6 : FnScope scD6N ["board", "x", "words"] (defScope sD6) := ⟨rfl, rfl, rfl, by decide +kernel, rfl, by decide +kernel, by decide +kernel⟩
theorem ok_D6 {f : Addr} {fd : FuncData} {fF_give : Addr} {dF_give : FuncData} (F : Fun K "do_and" "do_and" sD6 f fd) (T : Tx K mg CB CM)
    (F_give : CalF P w K mg base 1 "give" ["board", "word"] (spGive CB CM) fF_give dF_give) : FnOk P w K mg base CX0 4 f fd ["board", "x", "words"] (spDo CB CM 6) := by
  refine F.ok scD6 (fun vs H Q E h => by obtain ⟨_, _, _, _, _, _, rfl, _⟩ := h; rfl) (fun cdv A outer s H vs Q E hr h => ?_)
  have hu := hu_of hr
  obtain ⟨H0, p, lw, x, n, ws, rfl, R, hlw, hws, hto, hsl, k⟩ := h
  obtain ⟨v, rfl⟩ := len1 hws
  obtain ⟨A, ts, ls, B⟩ := R
  obtain ⟨sv, tv, dv, hp, hz⟩ := B.hp
  refine ⟨_, (pss_one (ps_expr (pe_call F_give.G (hr.mono (by decide)) (by rfl) F_give.g F_give.kp F_give.b .nil pass0 (pa_cons (pv 0) (pa_cons (pe_op op_and (pe_dget hu (pe_fld (pv 0) rfl) pe_str (fun _ _ => rfl)) (pe_ix ix_list (pv 2) pe_int (fun _ _ => rfl))) pa_nil))))), ?_⟩
  exact ⟨_, rfl, _, rfl, p, CB, A.dx, _, _, rfl, hp, T.cB, T.n_registers, bF_reg, A.r, _, rfl, dg (k := Sum.inr "a") B.hr rG_a, _, rfl, lw, _, 0, _, rfl, rfl, SqL.of hlw, atI_nat (j := 0) rfl, _, _, rfl, rfl, H0, p, x, Builtin.bitAnd x.a v, rfl, ⟨A, ts, ls, B⟩, k⟩
abbrev sD7 : Stmt := topS 27
def scD7N : List Str := ["board", "x", "words"]
theorem scD7 : FnScope scD7N ["board", "x", "words"] (defScope sD7) := ⟨rfl, rfl, rfl, by decide +kernel, rfl, by decide +kernel, by decide +kernel⟩
theorem ok_D7 {f : Addr} {fd : FuncData} {fF_give : Addr} {dF_give : FuncData} (F : Fun K "do_xor" "do_xor" sD7 f fd) (T : Tx K mg CB CM)
    (F_give : CalF P w K mg base 1 "give" ["board", "word"] (spGive CB CM) fF_give dF_give) : FnOk P w K mg base CX0 4 f fd ["board", "x", "words"] (spDo CB CM 7) := by
  refine F.ok scD7 (fun vs H Q E h => by obtain ⟨_, _, _, _, _, _, rfl, _⟩ := h; rfl) (fun cdv A outer s H vs Q E hr h => ?_)
  have hu := hu_of hr
  obtain ⟨H0, p, lw, x, n, ws, rfl, R, hlw, hws, hto, hsl, k⟩ := h
  obtain ⟨v, rfl⟩ := len1 hws
  obtain ⟨A, ts, ls, B⟩ := R
  obtain ⟨sv, tv, dv, hp, hz⟩ := B.hp
  refine ⟨_, (pss_one (ps_expr (pe_call F_give.G (hr.mono (by decide)) (by rfl) F_give.g F_give.kp F_give.b .nil pass0 (pa_cons (pv 0) (pa_cons (pe_op op_xor (pe_dget hu (pe_fld (pv 0) rfl) pe_str (fun _ _ => rfl)) (pe_ix ix_list (pv 2) pe_int (fun _ _ => rfl))) pa_nil))))), ?_⟩
  exact ⟨_, rfl, _, rfl, p, CB, A.dx, _, _, rfl, hp, T.cB, T.n_registers, bF_reg, A.r, _, rfl, dg (k := Sum.inr "a") B.hr rG_a, _, rfl, lw, _, 0, _, rfl, rfl, SqL.of hlw, atI_nat (j := 0) rfl, _, _, rfl, rfl, H0, p, x, Builtin.bitXor x.a v, rfl, ⟨A, ts, ls, B⟩, k⟩
abbrev sD9 : Stmt := topS 28
def scD9N : List Str := ["board", "x", "words"]
theorem scD9 : FnScope scD9N ["board", "x", "words"] (defScope sD9) := ⟨rfl, rfl, rfl, by decide +kernel, rfl, by decide +kernel, by decide +kernel⟩
theorem ok_D9 {f : Addr} {fd : FuncData} {fM_pbt : Addr} {dM_pbt : FuncData} (F : Fun K "do_putb" "do_putb" sD9 f fd) (T : Tx K mg CB CM)
    (M_pbt : CalM P w K mg base CB 3 "put_by_turn" ["self", "address", "word"] (spPw CB CM) fM_pbt dM_pbt) : FnOk P w K mg base CX0 4 f fd ["board", "x", "words"] (spDo CB CM 9) := by
  refine F.ok scD9 (fun vs H Q E h => by obtain ⟨_, _, _, _, _, _, rfl, _⟩ := h; rfl) (fun cdv A outer s H vs Q E hr h => ?_)
  have hu := hu_of hr
  obtain ⟨H0, p, lw, x, n, ws, rfl, R, hlw, hws, hto, hsl, k⟩ := h
  obtain ⟨A, ts, ls, B⟩ := R
  obtain ⟨sv, tv, dv, hp, hz⟩ := B.hp
  obtain ⟨t0, t1⟩ := hto (true, n + x.b) (List.mem_singleton.mpr rfl)
  refine ⟨_, (pss_one (ps_expr (pe_meth (pv 0) M_pbt.c M_pbt.m M_pbt.G (hr.mono (by decide)) M_pbt.b .nil pass0 (pa_cons (pe_op op_add (pv 1) (pe_dget hu (pe_fld (pv 0) rfl) pe_str (fun _ _ => rfl))) (pa_cons (pe_dget hu (pe_fld (pv 0) rfl) pe_str (fun _ _ => rfl)) pa_nil))))), ?_⟩
  exact ⟨_, rfl, p, A.dx, _, rfl, hp, bN_pbt, _, rfl, _, rfl, p, CB, A.dx, _, _, rfl, hp, T.cB, T.n_registers, bF_reg, A.r, _, rfl, dg (k := Sum.inr "b") B.hr rG_b, _, _, rfl, rfl, _, rfl, p, CB, A.dx, _, _, rfl, hp, T.cB, T.n_registers, bF_reg, A.r, _, rfl, dg (k := Sum.inr "a") B.hr rG_a, H0, p, x, (n + x.b), x.a, rfl, ⟨A, ts, ls, B⟩, hsl, t0, t1, k⟩
abbrev sD10 : Stmt := topS 29
def scD10N : List Str := ["board", "x", "words"]
theorem scD10 : FnScope scD10N ["board", "x", "words"] (defScope sD10) := ⟨rfl, rfl, rfl, by decide +kernel, rfl, by decide +kernel, by decide +kernel⟩
theorem ok_D10 {f : Addr} {fd : FuncData} (F : Fun K "do_tob" "do_tob" sD10 f fd) (T : Tx K mg CB CM) : FnOk P w K mg base CX0 4 f fd ["board", "x", "words"] (spDo CB CM 10) := by
  refine F.ok scD10 (fun vs H Q E h => by obtain ⟨_, _, _, _, _, _, rfl, _⟩ := h; rfl) (fun cdv A outer s H vs Q E hr h => ?_)
  have hu := hu_of hr
  obtain ⟨H0, p, lw, x, n, ws, rfl, R, hlw, hws, hto, hsl, k⟩ := h
  obtain ⟨A, ts, ls, B⟩ := R
  obtain ⟨sv, tv, dv, hp, hz⟩ := B.hp
  refine ⟨_, (pss_one (ps_dput hu (pe_fld (pv 0) rfl) pe_str (pe_dget hu (pe_fld (pv 0) rfl) pe_str (fun _ _ => rfl)) rfl)), ?_⟩
  exact ⟨_, rfl, p, CB, A.dx, _, _, rfl, hp, T.cB, T.n_registers, bF_reg, A.r, _, rfl, dg (k := Sum.inr "a") B.hr rG_a, _, rfl, p, CB, A.dx, _, _, rfl, hp, T.cB, T.n_registers, bF_reg, A.r, _, rfl, dp (k := Sum.inr "b") B.hr rP_b, k _ ⟨A, ts, ls, B.regs (a := x.a) (b := x.a) (pc := x.pc) (sp := x.sp)⟩⟩
abbrev sD11 : Stmt := topS 30
def scD11N : List Str := ["board", "x", "words", "a"]
theorem scD11 : FnScope scD11N ["board", "x", "words"] (defScope sD11) := ⟨rfl, rfl, rfl, by decide +kernel, rfl, by decide +kernel, by decide +kernel⟩
theorem ok_D11 {f : Addr} {fd : FuncData} {fF_give : Addr} {dF_give : FuncData} (F : Fun K "do_swap" "do_swap" sD11 f fd) (T : Tx K mg CB CM)
    (F_give : CalF P w K mg base 1 "give" ["board", "word"] (spGive CB CM) fF_give dF_give) : FnOk P w K mg base CX0 4 f fd ["board", "x", "words"] (spDo CB CM 11) := by
  refine F.ok scD11 (fun vs H Q E h => by obtain ⟨_, _, _, _, _, _, rfl, _⟩ := h; rfl) (fun cdv A outer s H vs Q E hr h => ?_)
  have hu := hu_of hr
  obtain ⟨H0, p, lw, x, n, ws, rfl, R, hlw, hws, hto, hsl, k⟩ := h
  obtain ⟨A, ts, ls, B⟩ := R
  obtain ⟨sv, tv, dv, hp, hz⟩ := B.hp
  refine ⟨_, (pss_cons (ps_set (i := 3) scD11.nd rfl (.inl rfl) (pe_dget hu (pe_fld (pv 0) rfl) pe_str (fun _ _ => rfl)))
    (pss_cons (ps_expr (pe_call F_give.G (hr.mono (by decide)) (by rfl) F_give.g F_give.kp F_give.b .nil pass0 (pa_cons (pv 0) (pa_cons (pe_dget hu (pe_fld (pv 0) rfl) pe_str (fun _ _ => rfl)) pa_nil))))
    (pss_one (ps_dput hu (pe_fld (pv 0) rfl) pe_str (pv 3) rfl)))), ?_⟩
  refine ⟨_, rfl, p, CB, A.dx, _, _, rfl, hp, T.cB, T.n_registers, bF_reg, A.r, _, rfl, dg (k := Sum.inr "a") B.hr rG_a, _, rfl, _, rfl, p, CB, A.dx, _, _, rfl, hp, T.cB, T.n_registers, bF_reg, A.r, _, rfl, dg (k := Sum.inr "b") B.hr rG_b, H0, p, x, x.b, rfl, ⟨A, ts, ls, B⟩, fun H1 R1 => ?_⟩
  obtain ⟨A1, ts1, ls1, B1⟩ := R1
  obtain ⟨sv1, tv1, dv1, hp1, hz1⟩ := B1.hp
  exact ⟨_, rfl, _, rfl, p, CB, A1.dx, _, _, rfl, hp1, T.cB, T.n_registers, bF_reg, A1.r, _, rfl, dp (k := Sum.inr "b") B1.hr rP_b, k _ ⟨A1, ts1, ls1, B1.regs (a := x.b) (b := x.a) (pc := x.pc) (sp := x.sp)⟩⟩
abbrev sD12 : Stmt := topS 31
def scD12N : List Str := ["board", "x", "words"]
theorem scD12 : FnScope scD12N ["board", "x", "words"] (defScope sD12) := ⟨rfl, rfl, rfl, by decide +kernel, rfl, by decide +kernel, by decide +kernel⟩
theorem ok_D12 {f : Addr} {fd : FuncData} (F : Fun K "do_go" "do_go" sD12 f fd) (T : Tx K mg CB CM) : FnOk P w K mg base CX0 4 f fd ["board", "x", "words"] (spDo CB CM 12) := by
  refine F.ok scD12 (fun vs H Q E h => by obtain ⟨_, _, _, _, _, _, rfl, _⟩ := h; rfl) (fun cdv A outer s H vs Q E hr h => ?_)
  have hu := hu_of hr
  obtain ⟨H0, p, lw, x, n, ws, rfl, R, hlw, hws, hto, hsl, k⟩ := h
  obtain ⟨A, ts, ls, B⟩ := R
  obtain ⟨sv, tv, dv, hp, hz⟩ := B.hp
  refine ⟨_, (pss_one (ps_dput hu (pe_fld (pv 0) rfl) pe_str (pv 1) rfl)), ?_⟩
  exact ⟨_, rfl, _, rfl, p, CB, A.dx, _, _, rfl, hp, T.cB, T.n_registers, bF_reg, A.r, _, rfl, dp (k := Sum.inr "pc") B.hr rP_pc, k _ ⟨A, ts, ls, B.regs (a := x.a) (b := x.b) (pc := n) (sp := x.sp)⟩⟩
abbrev sD13 : Stmt := topS 32
def scD13N : List Str := ["board", "x", "words"]
theorem scD13 : FnScope scD13N ["board", "x", "words"] (defScope sD13) := ⟨rfl, rfl, rfl, by decide +kernel, rfl, by decide +kernel, by decide +kernel⟩
theorem ok_D13 {f : Addr} {fd : FuncData} (F : Fun K "do_ifz" "do_ifz" sD13 f fd) (T : Tx K mg CB CM) : FnOk P w K mg base CX0 4 f fd ["board", "x", "words"] (spDo CB CM 13) := by
  refine F.ok scD13 (fun vs H Q E h => by obtain ⟨_, _, _, _, _, _, rfl, _⟩ := h; rfl) (fun cdv A outer s H vs Q E hr h => ?_)
  have hu := hu_of hr
  obtain ⟨H0, p, lw, x, n, ws, rfl, R, hlw, hws, hto, hsl, k⟩ := h
  obtain ⟨A, ts, ls, B⟩ := R
  obtain ⟨sv, tv, dv, hp, hz⟩ := B.hp
  refine ⟨_, (pss_one (ps_if (pt_val (pe_fld (pv 0) rfl)) (pss_one (ps_dput hu (pe_fld (pv 0) rfl) pe_str (pv 1) rfl)) pss_nil)), ?_⟩
  refine ⟨_, rfl, p, CB, A.dx, _, _, rfl, hp, T.cB, T.n_zero, bF_zero, _, rfl, ifB (fun h => ?_) (fun h => ?_)⟩
  · have e : doM 13 n ws x = { x with pc := n } := if_pos h
    rw [e] at k
    exact ⟨_, rfl, _, rfl, p, CB, A.dx, _, _, rfl, hp, T.cB, T.n_registers, bF_reg, A.r, _, rfl, dp (k := Sum.inr "pc") B.hr rP_pc, k _ ⟨A, ts, ls, B.regs (a := x.a) (b := x.b) (pc := n) (sp := x.sp)⟩⟩
  · have e : doM 13 n ws x = x := if_neg (by rw [h]; decide)
    rw [e] at k
    exact k _ ⟨A, ts, ls, B⟩
abbrev sD14 : Stmt := topS 33
def scD14N : List Str := ["board", "x", "words"]
theorem scD14 : FnScope scD14N ["board", "x", "words"] (defScope sD14) := ⟨rfl, rfl, rfl, by decide +kernel, rfl, by decide +kernel, by decide +kernel⟩
theorem ok_D14 {f : Addr} {fd : FuncData} (F : Fun K "do_ifn" "do_ifn" sD14 f fd) (T : Tx K mg CB CM) : FnOk P w K mg base CX0 4 f fd ["board", "x", "words"] (spDo CB CM 14) := by
  refine F.ok scD14 (fun vs H Q E h => by obtain ⟨_, _, _, _, _, _, rfl, _⟩ := h; rfl) (fun cdv A outer s H vs Q E hr h => ?_)
  have hu := hu_of hr
  obtain ⟨t_HIGH, g_HIGH⟩ := T.g_HIGH
  obtain ⟨H0, p, lw, x, n, ws, rfl, R, hlw, hws, hto, hsl, k⟩ := h
  obtain ⟨A, ts, ls, B⟩ := R
  obtain ⟨sv, tv, dv, hp, hz⟩ := B.hp
  refine ⟨_, (pss_one (ps_if (pt_cmpR op_ge (pe_dget hu (pe_fld (pv 0) rfl) pe_str (fun _ _ => rfl)) (pgI g_HIGH) (nomark _)) (pss_one (ps_dput hu (pe_fld (pv 0) rfl) pe_str (pv 1) rfl)) pss_nil)), ?_⟩
  refine ⟨_, rfl, p, CB, A.dx, _, _, rfl, hp, T.cB, T.n_registers, bF_reg, A.r, _, rfl, dg (k := Sum.inr "a") B.hr rG_a, _, _, rfl, rfl, _, rfl, ifB (fun h => ?_) (fun h => ?_)⟩
  · have e : doM 14 n ws x = { x with pc := n } := if_pos (of_decide_eq_true h)
    rw [e] at k
    exact ⟨_, rfl, _, rfl, p, CB, A.dx, _, _, rfl, hp, T.cB, T.n_registers, bF_reg, A.r, _, rfl, dp (k := Sum.inr "pc") B.hr rP_pc, k _ ⟨A, ts, ls, B.regs (a := x.a) (b := x.b) (pc := n) (sp := x.sp)⟩⟩
  · have e : doM 14 n ws x = x := if_neg (of_decide_eq_false h)
    rw [e] at k
    exact k _ ⟨A, ts, ls, B⟩
abbrev sD15 : Stmt := topS 34
def scD15N : List Str := ["board", "x", "words"]
theorem scD15 : FnScope scD15N ["board", "x", "words"] (defScope sD15) := ⟨rfl, rfl, rfl, by decide +kernel, rfl, by decide +kernel, by decide +kernel⟩
theorem ok_D15 {f : Addr} {fd : FuncData} {fM_pbt : Addr} {dM_pbt : FuncData} (F : Fun K "do_call" "do_call" sD15 f fd) (T : Tx K mg CB CM)
    (M_pbt : CalM P w K mg base CB 3 "put_by_turn" ["self", "address", "word"] (spPw CB CM) fM_pbt dM_pbt) : FnOk P w K mg base CX0 4 f fd ["board", "x", "words"] (spDo CB CM 15) := by
  refine F.ok scD15 (fun vs H Q E h => by obtain ⟨_, _, _, _, _, _, rfl, _⟩ := h; rfl) (fun cdv A outer s H vs Q E hr h => ?_)
  have hu := hu_of hr
  obtain ⟨H0, p, lw, x, n, ws, rfl, R, hlw, hws, hto, hsl, k⟩ := h
  obtain ⟨A, ts, ls, B⟩ := R
  obtain ⟨sv, tv, dv, hp, hz⟩ := B.hp
  obtain ⟨t0, t1⟩ := hto (true, x.sp) (List.mem_singleton.mpr rfl)
  refine ⟨_, (pss_cons (ps_expr (pe_meth (pv 0) M_pbt.c M_pbt.m M_pbt.G (hr.mono (by decide)) M_pbt.b .nil pass0 (pa_cons (pe_dget hu (pe_fld (pv 0) rfl) pe_str (fun _ _ => rfl)) (pa_cons (pe_dget hu (pe_fld (pv 0) rfl) pe_str (fun _ _ => rfl)) pa_nil))))
    (pss_cons (ps_daug hu (pe_fld (pv 0) rfl) pe_str pe_int in_sub (fun _ _ _ => rfl))
    (pss_one (ps_dput hu (pe_fld (pv 0) rfl) pe_str (pv 1) rfl)))), ?_⟩
  refine ⟨_, rfl, p, A.dx, _, rfl, hp, bN_pbt, _, rfl, p, CB, A.dx, _, _, rfl, hp, T.cB, T.n_registers, bF_reg, A.r, _, rfl, dg (k := Sum.inr "sp") B.hr rG_sp, _, rfl, p, CB, A.dx, _, _, rfl, hp, T.cB, T.n_registers, bF_reg, A.r, _, rfl, dg (k := Sum.inr "pc") B.hr rG_pc, H0, p, x, x.sp, x.pc, rfl, ⟨A, ts, ls, B⟩, hsl, t0, t1, fun H1 R1 => ?_⟩
  obtain ⟨A1, ts1, ls1, B1⟩ := R1
  obtain ⟨sv1, tv1, dv1, hp1, hz1⟩ := B1.hp
  have e0 : ∀ a v, ((putWM a v x).a = x.a ∧ (putWM a v x).b = x.b ∧ (putWM a v x).pc = x.pc ∧ (putWM a v x).sp = x.sp) := fun a v => by
    unfold putWM sendM
    split <;> exact ⟨rfl, rfl, rfl, rfl⟩
  obtain ⟨ea, eb, ec, ed⟩ := e0 x.sp x.pc
  refine ⟨_, rfl, p, CB, A1.dx, _, _, rfl, hp1, T.cB, T.n_registers, bF_reg, A1.r, _, rfl, dg (k := Sum.inr "sp") B1.hr rG_sp, _, _, rfl, rfl, _, dp (k := Sum.inr "sp") B1.hr rP_sp, ?_⟩
  have B2 := B1.regs (a := (putWM x.sp x.pc x).a) (b := (putWM x.sp x.pc x).b) (pc := (putWM x.sp x.pc x).pc) (sp := (putWM x.sp x.pc x).sp - 1)
  obtain ⟨sv2, tv2, dv2, hp2, hz2⟩ := B2.hp
  refine ⟨_, rfl, _, rfl, p, CB, A1.dx, _, _, rfl, hp2, T.cB, T.n_registers, bF_reg, A1.r, _, rfl, dp (k := Sum.inr "pc") B2.hr rP_pc, k _ ⟨A1, ts1, ls1, ?_⟩⟩
  have B3 := B2.regs (a := (putWM x.sp x.pc x).a) (b := (putWM x.sp x.pc x).b) (pc := n) (sp := (putWM x.sp x.pc x).sp - 1)
  rw [ed] at B3 ⊢
  exact B3
abbrev sD16 : Stmt := topS 35
def scD16N : List Str := ["board", "x", "words"]
theorem scD16 : FnScope scD16N ["board", "x", "words"] (defScope sD16) := ⟨rfl, rfl, rfl, by decide +kernel, rfl, by decide +kernel, by decide +kernel⟩
theorem ok_D16 {f : Addr} {fd : FuncData} (F : Fun K "do_ret" "do_ret" sD16 f fd) (T : Tx K mg CB CM) : FnOk P w K mg base CX0 4 f fd ["board", "x", "words"] (spDo CB CM 16) := by
  refine F.ok scD16 (fun vs H Q E h => by obtain ⟨_, _, _, _, _, _, rfl, _⟩ := h; rfl) (fun cdv A outer s H vs Q E hr h => ?_)
  have hu := hu_of hr
  obtain ⟨H0, p, lw, x, n, ws, rfl, R, hlw, hws, hto, hsl, k⟩ := h
  obtain ⟨v, rfl⟩ := len1 hws
  obtain ⟨A, ts, ls, B⟩ := R
  obtain ⟨sv, tv, dv, hp, hz⟩ := B.hp
  refine ⟨_, (pss_cons (ps_daug hu (pe_fld (pv 0) rfl) pe_str pe_int in_add (fun _ _ _ => rfl))
    (pss_one (ps_dput hu (pe_fld (pv 0) rfl) pe_str (pe_ix ix_list (pv 2) pe_int (fun _ _ => rfl)) rfl))), ?_⟩
  refine ⟨_, rfl, p, CB, A.dx, _, _, rfl, hp, T.cB, T.n_registers, bF_reg, A.r, _, rfl, dg (k := Sum.inr "sp") B.hr rG_sp, _, _, rfl, rfl, _, dp (k := Sum.inr "sp") B.hr rP_sp, ?_⟩
  have B1 := B.regs (a := x.a) (b := x.b) (pc := x.pc) (sp := x.sp + 1)
  obtain ⟨sv1, tv1, dv1, hp1, hz1⟩ := B1.hp
  have hlw1 : upd H A.r (.dK (regD x.a x.b x.pc (x.sp + 1))) lw = some (.lst [.int v]) := by rw [upd_ne (ne_of hlw B.hr (by intro q; cases q))]; exact hlw
  exact ⟨_, rfl, lw, _, 0, _, rfl, rfl, SqL.of hlw1, atI_nat (j := 0) rfl, _, rfl, p, CB, A.dx, _, _, rfl, hp1, T.cB, T.n_registers, bF_reg, A.r, _, rfl, dp (k := Sum.inr "pc") B1.hr rP_pc, k _ ⟨A, ts, ls, B1.regs (a := x.a) (b := x.b) (pc := v) (sp := x.sp + 1)⟩⟩
abbrev sD17 : Stmt := topS 36
def scD17N : List Str := ["board", "x", "words"]
theorem scD17 : FnScope scD17N ["board", "x", "words"] (defScope sD17) := ⟨rfl, rfl, rfl, by decide +kernel, rfl, by decide +kernel, by decide +kernel⟩
theorem ok_D17 {f : Addr} {fd : FuncData} {fM_pbt : Addr} {dM_pbt : FuncData} (F : Fun K "do_push" "do_push" sD17 f fd) (T : Tx K mg CB CM)
    (M_pbt : CalM P w K mg base CB 3 "put_by_turn" ["self", "address", "word"] (spPw CB CM) fM_pbt dM_pbt) : FnOk P w K mg base CX0 4 f fd ["board", "x", "words"] (spDo CB CM 17) := by
  refine F.ok scD17 (fun vs H Q E h => by obtain ⟨_, _, _, _, _, _, rfl, _⟩ := h; rfl) (fun cdv A outer s H vs Q E hr h => ?_)
  have hu := hu_of hr
  obtain ⟨H0, p, lw, x, n, ws, rfl, R, hlw, hws, hto, hsl, k⟩ := h
  obtain ⟨A, ts, ls, B⟩ := R
  obtain ⟨sv, tv, dv, hp, hz⟩ := B.hp
  obtain ⟨t0, t1⟩ := hto (true, x.sp) (List.mem_singleton.mpr rfl)
  refine ⟨_, (pss_cons (ps_expr (pe_meth (pv 0) M_pbt.c M_pbt.m M_pbt.G (hr.mono (by decide)) M_pbt.b .nil pass0 (pa_cons (pe_dget hu (pe_fld (pv 0) rfl) pe_str (fun _ _ => rfl)) (pa_cons (pe_dget hu (pe_fld (pv 0) rfl) pe_str (fun _ _ => rfl)) pa_nil))))
    (pss_one (ps_daug hu (pe_fld (pv 0) rfl) pe_str pe_int in_sub (fun _ _ _ => rfl)))), ?_⟩
  refine ⟨_, rfl, p, A.dx, _, rfl, hp, bN_pbt, _, rfl, p, CB, A.dx, _, _, rfl, hp, T.cB, T.n_registers, bF_reg, A.r, _, rfl, dg (k := Sum.inr "sp") B.hr rG_sp, _, rfl, p, CB, A.dx, _, _, rfl, hp, T.cB, T.n_registers, bF_reg, A.r, _, rfl, dg (k := Sum.inr "a") B.hr rG_a, H0, p, x, x.sp, x.a, rfl, ⟨A, ts, ls, B⟩, hsl, t0, t1, fun H1 R1 => ?_⟩
  obtain ⟨A1, ts1, ls1, B1⟩ := R1
  obtain ⟨sv1, tv1, dv1, hp1, hz1⟩ := B1.hp
  have e0 : ∀ a v, ((putWM a v x).a = x.a ∧ (putWM a v x).b = x.b ∧ (putWM a v x).pc = x.pc ∧ (putWM a v x).sp = x.sp) := fun a v => by
    unfold putWM sendM
    split <;> exact ⟨rfl, rfl, rfl, rfl⟩
  obtain ⟨ea, eb, ec, ed⟩ := e0 x.sp x.a
  refine ⟨_, rfl, p, CB, A1.dx, _, _, rfl, hp1, T.cB, T.n_registers, bF_reg, A1.r, _, rfl, dg (k := Sum.inr "sp") B1.hr rG_sp, _, _, rfl, rfl, _, dp (k := Sum.inr "sp") B1.hr rP_sp, k _ ⟨A1, ts1, ls1, ?_⟩⟩
  have B2 := B1.regs (a := (putWM x.sp x.a x).a) (b := (putWM x.sp x.a x).b) (pc := (putWM x.sp x.a x).pc) (sp := (putWM x.sp x.a x).sp - 1)
  rw [ed] at B2 ⊢
  exact B2
abbrev sD18 : Stmt := topS 37
def scD18N : List Str := ["board", "x", "words"]
theorem scD18 : FnScope scD18N ["board", "x", "words"] (defScope sD18) := ⟨rfl, rfl, rfl, by decide +kernel, rfl, by decide +kernel, by decide +kernel⟩
theorem ok_D18 {f : Addr} {fd : FuncData} {fF_give : Addr} {dF_give : FuncData} (F : Fun K "do_pop" "do_pop" sD18 f fd) (T : Tx K mg CB CM)
    (F_give : CalF P w K mg base 1 "give" ["board", "word"] (spGive CB CM) fF_give dF_give) : FnOk P w K mg base CX0 4 f fd ["board", "x", "words"] (spDo CB CM 18) := by
  refine F.ok scD18 (fun vs H Q E h => by obtain ⟨_, _, _, _, _, _, rfl, _⟩ := h; rfl) (fun cdv A outer s H vs Q E hr h => ?_)
  have hu := hu_of hr
  obtain ⟨H0, p, lw, x, n, ws, rfl, R, hlw, hws, hto, hsl, k⟩ := h
  obtain ⟨v, rfl⟩ := len1 hws
  obtain ⟨A, ts, ls, B⟩ := R
  obtain ⟨sv, tv, dv, hp, hz⟩ := B.hp
  refine ⟨_, (pss_cons (ps_daug hu (pe_fld (pv 0) rfl) pe_str pe_int in_add (fun _ _ _ => rfl))
    (pss_one (ps_expr (pe_call F_give.G (hr.mono (by decide)) (by rfl) F_give.g F_give.kp F_give.b .nil pass0 (pa_cons (pv 0) (pa_cons (pe_ix ix_list (pv 2) pe_int (fun _ _ => rfl)) pa_nil)))))), ?_⟩
  refine ⟨_, rfl, p, CB, A.dx, _, _, rfl, hp, T.cB, T.n_registers, bF_reg, A.r, _, rfl, dg (k := Sum.inr "sp") B.hr rG_sp, _, _, rfl, rfl, _, dp (k := Sum.inr "sp") B.hr rP_sp, ?_⟩
  have B1 := B.regs (a := x.a) (b := x.b) (pc := x.pc) (sp := x.sp + 1)
  have hlw1 : upd H A.r (.dK (regD x.a x.b x.pc (x.sp + 1))) lw = some (.lst [.int v]) := by rw [upd_ne (ne_of hlw B.hr (by intro q; cases q))]; exact hlw
  exact ⟨_, rfl, _, rfl, lw, _, 0, _, rfl, rfl, SqL.of hlw1, atI_nat (j := 0) rfl, H0, p, _, v, rfl, ⟨A, ts, ls, B1⟩, k⟩
abbrev sD19 : Stmt := topS 38
def scD19N : List Str := ["board", "x", "words"]
theorem scD19 : FnScope scD19N ["board", "x", "words"] (defScope sD19) := ⟨rfl, rfl, rfl, by decide +kernel, rfl, by decide +kernel, by decide +kernel⟩
theorem ok_D19 {f : Addr} {fd : FuncData} (F : Fun K "do_sleep" "do_sleep" sD19 f fd) (T : Tx K mg CB CM) : FnOk P w K mg base CX0 4 f fd ["board", "x", "words"] (spDo CB CM 19) := by
  refine F.ok scD19 (fun vs H Q E h => by obtain ⟨_, _, _, _, _, _, rfl, _⟩ := h; rfl) (fun cdv A outer s H vs Q E hr h => ?_)
  have hu := hu_of hr
  obtain ⟨H0, p, lw, x, n, ws, rfl, R, hlw, hws, hto, hsl, k⟩ := h
  obtain ⟨A, ts, ls, B⟩ := R
  obtain ⟨sv, tv, dv, hp, hz⟩ := B.hp
  refine ⟨_, (pss_one (ps_fld (pv 0) pe_bl rfl)), ?_⟩
  refine ⟨_, rfl, p, CB, A.dx, _, rfl, hp, T.cB, T.n_asleep, (by show 13 < 1000; decide), ?_⟩
  rw [bP_asleep]
  exact k _ ⟨A, ts, ls, B.fld (z := x.zero) (le := x.lets) (as := true) (bt := x.beat) (sv := sv) (la := x.la) (tv := tv) (dv := dv) hz⟩
abbrev sD20 : Stmt := topS 39
def scD20N : List Str := ["board", "x", "words"]
theorem scD20 : FnScope scD20N ["board", "x", "words"] (defScope sD20) := ⟨rfl, rfl, rfl, by decide +kernel, rfl, by decide +kernel, by decide +kernel⟩
theorem ok_D20 {f : Addr} {fd : FuncData} (F : Fun K "do_let" "do_let" sD20 f fd) (T : Tx K mg CB CM) : FnOk P w K mg base CX0 4 f fd ["board", "x", "words"] (spDo CB CM 20) := by
  refine F.ok scD20 (fun vs H Q E h => by obtain ⟨_, _, _, _, _, _, rfl, _⟩ := h; rfl) (fun cdv A outer s H vs Q E hr h => ?_)
  have hu := hu_of hr
  obtain ⟨H0, p, lw, x, n, ws, rfl, R, hlw, hws, hto, hsl, k⟩ := h
  obtain ⟨A, ts, ls, B⟩ := R
  obtain ⟨sv, tv, dv, hp, hz⟩ := B.hp
  refine ⟨_, (pss_one (ps_fld (pv 0) (pe_cmpR op_eq (pe_op op_mod (pv 1) pe_int) pe_int (nomark _)) rfl)), ?_⟩
  have eb : ∀ u : Int, decide (V.int (u % 2) = V.int 1) = decide (u % 2 = 1) := fun u => by
    by_cases h : u % 2 = 1
    · rw [decide_eq_true h, h]; rfl
    · rw [decide_eq_false h]; exact decide_eq_false fun z => h (V.int.inj z)
  refine ⟨_, rfl, _, _, rfl, rfl, (by show (0 : Int) < 2; decide), rfl, _, rfl, p, CB, A.dx, _, rfl, hp, T.cB, T.n_lets, (by show 13 < 1000; decide), ?_⟩
  rw [bP_lets, eb]
  exact k _ ⟨A, ts, ls, B.fld (z := x.zero) (le := decide (n % 2 = 1)) (as := x.asleep) (bt := x.beat) (sv := sv) (la := x.la) (tv := tv) (dv := dv) hz⟩
abbrev sD21 : Stmt := topS 40
def scD21N : List Str := ["board", "x", "words"]
theorem scD21 : FnScope scD21N ["board", "x", "words"] (defScope sD21) := ⟨rfl, rfl, rfl, by decide +kernel, rfl, by decide +kernel, by decide +kernel⟩
theorem ok_D21 {f : Addr} {fd : FuncData} (F : Fun K "do_back" "do_back" sD21 f fd) (T : Tx K mg CB CM) : FnOk P w K mg base CX0 4 f fd ["board", "x", "words"] (spDo CB CM 21) := by
  refine F.ok scD21 (fun vs H Q E h => by obtain ⟨_, _, _, _, _, _, rfl, _⟩ := h; rfl) (fun cdv A outer s H vs Q E hr h => ?_)
  have hu := hu_of hr
  obtain ⟨H0, p, lw, x, n, ws, rfl, R, hlw, hws, hto, hsl, k⟩ := h
  obtain ⟨v, v2, rfl⟩ := len2 hws
  obtain ⟨A, ts, ls, B⟩ := R
  obtain ⟨sv, tv, dv, hp, hz⟩ := B.hp
  refine ⟨_, (pss_cons (ps_daug hu (pe_fld (pv 0) rfl) pe_str pe_int in_add (fun _ _ _ => rfl))
    (pss_cons (ps_fld (pv 0) (pe_cmpR op_eq (pe_op op_mod (pe_ix ix_list (pv 2) pe_int (fun _ _ => rfl)) pe_int) pe_int (nomark _)) rfl)
    (pss_cons (ps_dput hu (pe_fld (pv 0) rfl) pe_str (pe_ix ix_list (pv 2) pe_int (fun _ _ => rfl)) rfl)
    (pss_one (ps_fld (pv 0) pe_bl rfl))))), ?_⟩
  have eb : ∀ u : Int, decide (V.int (u % 2) = V.int 1) = decide (u % 2 = 1) := fun u => by
    by_cases h : u % 2 = 1
    · rw [decide_eq_true h, h]; rfl
    · rw [decide_eq_false h]; exact decide_eq_false fun z => h (V.int.inj z)
  refine ⟨_, rfl, p, CB, A.dx, _, _, rfl, hp, T.cB, T.n_registers, bF_reg, A.r, _, rfl, dg (k := Sum.inr "sp") B.hr rG_sp, _, _, rfl, rfl, _, dp (k := Sum.inr "sp") B.hr rP_sp, ?_⟩
  have B1 := B.regs (a := x.a) (b := x.b) (pc := x.pc) (sp := x.sp + 2)
  obtain ⟨sv1, tv1, dv1, hp1, hz1⟩ := B1.hp
  have hlw1 : upd H A.r (.dK (regD x.a x.b x.pc (x.sp + 2))) lw = some (.lst [.int v, .int v2]) := by rw [upd_ne (ne_of hlw B.hr (by intro q; cases q))]; exact hlw
  refine ⟨_, rfl, lw, _, 0, _, rfl, rfl, SqL.of hlw1, atI_nat (j := 0) rfl, _, _, rfl, rfl, (by show (0 : Int) < 2; decide), rfl, _, rfl, p, CB, A.dx, _, rfl, hp1, T.cB, T.n_zero, (by show 13 < 1000; decide), ?_⟩
  rw [bP_zero, eb]
  have B2 := B1.fld (z := decide (v % 2 = 1)) (le := x.lets) (as := x.asleep) (bt := x.beat) (sv := sv1) (la := x.la) (tv := tv1) (dv := dv1) hz1
  have hlw2 := hlw1
  rw [← upd_ne (H := upd H A.r (.dK (regD x.a x.b x.pc (x.sp + 2)))) (o := .ins CB A.dx (bdF A.r A.t A.m A.l (decide (v % 2 = 1)) x.lets x.asleep x.beat sv1 x.la tv1 dv1)) (ne_of hlw1 hp1 (by intro q; cases q))] at hlw2
  obtain ⟨sv2, tv2, dv2, hp2, hz2⟩ := B2.hp
  refine ⟨_, rfl, lw, _, 1, _, rfl, rfl, SqL.of hlw2, atI_nat (j := 1) rfl, _, rfl, p, CB, A.dx, _, _, rfl, hp2, T.cB, T.n_registers, bF_reg, A.r, _, rfl, dp (k := Sum.inr "pc") B2.hr rP_pc, ?_⟩
  have B3 := B2.regs (a := x.a) (b := x.b) (pc := v2) (sp := x.sp + 2)
  obtain ⟨sv3, tv3, dv3, hp3, hz3⟩ := B3.hp
  refine ⟨_, rfl, p, CB, A.dx, _, rfl, hp3, T.cB, T.n_lets, (by show 13 < 1000; decide), ?_⟩
  rw [bP_lets]
  exact k _ ⟨A, ts, ls, B3.fld (z := decide (v % 2 = 1)) (le := true) (as := x.asleep) (bt := x.beat) (sv := sv3) (la := x.la) (tv := tv3) (dv := dv3) hz3⟩
abbrev sD22 : Stmt := topS 41
def scD22N : List Str := ["board", "x", "words"]
theorem scD22 : FnScope scD22N ["board", "x", "words"] (defScope sD22) := ⟨rfl, rfl, rfl, by decide +kernel, rfl, by decide +kernel, by decide +kernel⟩
theorem ok_D22 {f : Addr} {fd : FuncData} {fF_give : Addr} {dF_give : FuncData} (F : Fun K "do_half" "do_half" sD22 f fd) (T : Tx K mg CB CM)
    (F_give : CalF P w K mg base 1 "give" ["board", "word"] (spGive CB CM) fF_give dF_give) : FnOk P w K mg base CX0 4 f fd ["board", "x", "words"] (spDo CB CM 22) := by
  refine F.ok scD22 (fun vs H Q E h => by obtain ⟨_, _, _, _, _, _, rfl, _⟩ := h; rfl) (fun cdv A outer s H vs Q E hr h => ?_)
  have hu := hu_of hr
  obtain ⟨H0, p, lw, x, n, ws, rfl, R, hlw, hws, hto, hsl, k⟩ := h
  obtain ⟨A, ts, ls, B⟩ := R
  obtain ⟨sv, tv, dv, hp, hz⟩ := B.hp
  refine ⟨_, (pss_one (ps_expr (pe_call F_give.G (hr.mono (by decide)) (by rfl) F_give.g F_give.kp F_give.b .nil pass0 (pa_cons (pv 0) (pa_cons (pe_op op_fdiv (pe_dget hu (pe_fld (pv 0) rfl) pe_str (fun _ _ => rfl)) pe_int) pa_nil))))), ?_⟩
  exact ⟨_, rfl, _, rfl, p, CB, A.dx, _, _, rfl, hp, T.cB, T.n_registers, bF_reg, A.r, _, rfl, dg (k := Sum.inr "a") B.hr rG_a, _, _, rfl, rfl, ⟨by decide, by decide⟩, H0, p, x, x.a / 2, rfl, ⟨A, ts, ls, B⟩, k⟩
end
end Bh

/-! Beats, stops, what may be touched. -/
namespace Bh
open PySem PySem.Spec PyProof.Rows L2
def spCome (CB CM : Addr) : Sp := fun vs H Q _ => ∃ (H0 : Hp) (p : Addr) (x : Bd), vs = [.ref p] ∧ BoardAt CB CM H0 H p x ∧ ∀ H', BoardAt CB CM H0 H' p (comeM x) → Q .non H'
def spPass (CB CM : Addr) : Sp := fun vs H Q _ => ∃ (H0 : Hp) (p : Addr) (x : Bd) (n : Nat), vs = [.ref p, .int (n : Int)] ∧ BoardAt CB CM H0 H p x ∧ n ≤ 1000 ∧ ∀ H', BoardAt CB CM H0 H' p (passM n x) → Q .non H'
def spStop (CB CM : Addr) : Sp := fun vs H Q _ => ∃ (H0 : Hp) (p q : Addr) (x : Bd) (s : Str) (ns : List Int), vs = [.ref p, .ref q] ∧ BoardAt CB CM H0 H p x ∧ H q = some (.tup (.str s :: ns.map V.int)) ∧ ∀ H', BoardAt CB CM H0 H' p { x with stop := some (s, ns) } → Q (.str "stopped") H'
def mayM (T : V) (x : Bd) (ts : List (Bool × Int)) : Bool × Bd := match firstBad ts with
  | some r => (false, { x with stop := some (r.1, [x.pc, r.2]) })
  | none => (true, { x with tv := T })
def spMay (CB CM : Addr) : Sp := fun vs H Q _ => ∃ (H0 : Hp) (p l : Addr) (x : Bd) (us : List V) (ts : List (Bool × Int)), vs = [.ref p, .ref l] ∧ BoardAt CB CM H0 H p x ∧ H l = some (.lst us) ∧ TouAt H us ts ∧ ∀ H', BoardAt CB CM H0 H' p (mayM (.ref l) x ts).2 → Q (.bl (mayM (.ref l) x ts).1) H'
def comingM (x : Bd) : Str := if x.stop ≠ none then "stopped" else if x.asleep = true ∧ calledM x = 0 then "asleep" else if x.lets = true ∧ calledM x ≠ 0 then "interrupt" else "deed"
def spComing (CB CM : Addr) : Sp := fun vs H Q _ => ∃ (H0 : Hp) (p : Addr) (x : Bd), vs = [.ref p] ∧ BoardAt CB CM H0 H p x ∧ Q (.str (comingM x)) H
section
variable {P : Program} {w : World} {K : PySem.W.Frag} {mg : Str → Option Value} {base : Heap} {CB CM : Addr}
abbrev sMcome : Stmt := inClass (topS 75) 13
def scMcomeN : List Str := ["self"]
theorem scMcome : FnScope scMcomeN ["self"] (defScope sMcome) := ⟨rfl, rfl, rfl, by decide +kernel, rfl, by decide +kernel, by decide +kernel⟩
theorem ok_Mcome {f : Addr} {fd : FuncData} {fM_take : Addr} {dM_take : FuncData} (F : Fun K "come_line" "Board.come_line" sMcome f fd) (T : Tx K mg CB CM)
    (M_take : CalM P w K mg base CM 1 "take_line" ["self", "value"] (spMTake CM) fM_take dM_take) : FnOk P w K mg base CX0 2 f fd ["self"] (spCome CB CM) := by
  refine F.ok scMcome (fun vs H Q E h => by obtain ⟨_, _, _, rfl, _⟩ := h; rfl) (fun cdv A outer s H vs Q E hr h => ?_)
  have hu := hu_of hr
  have z_len := T.z_len
  obtain ⟨H0, p, x, rfl, R, k⟩ := h
  obtain ⟨A, ts, ls, B⟩ := R
  obtain ⟨sv, tv, dv, hp, hz⟩ := B.hp
  refine ⟨_, (pss_one (ps_if (PW.pt (pw_and (pt_cmpR op_lt (pe_fld (pv 0) rfl) (pe_callB call_len_seq (by rfl) z_len PySem.boot_len (pa_cons (pe_fld (pv 0) rfl) pa_nil)) (nomark _)) (pw_and1 (pt_cmpR op_eq (pe_ix ix_tup (pe_ix ix_list (pe_fld (pv 0) rfl) (pe_fld (pv 0) rfl) (fun _ _ => rfl)) pe_int (fun _ _ => rfl)) (pe_fld (pv 0) rfl) (nomark _))))) (pss_cons (ps_expr (pe_meth (pe_fld (pv 0) rfl) M_take.c M_take.m M_take.G (hr.mono (by decide)) M_take.b .nil pass0 (pa_cons (pe_ix ix_tup (pe_ix ix_list (pe_fld (pv 0) rfl) (pe_fld (pv 0) rfl) (fun _ _ => rfl)) pe_int (fun _ _ => rfl)) pa_nil)))
    (pss_one (ps_fldaug (pv 0) pe_int in_add))) pss_nil)), ?_⟩
  unfold comeM at k
  refine ⟨_, rfl, p, CB, A.dx, _, _, rfl, hp, T.cB, T.n_line_at, bF_la, _, rfl, p, CB, A.dx, _, _, rfl, hp, T.cB, T.n_line, bF_line, A.l, _, rfl, .inl (SqL.of B.hl), _, _, rfl, rfl, _, rfl, ifB (fun h => ?_) (fun h => ?_)⟩
  · have hl : x.la < x.line.length := by
      have := of_decide_eq_true h
      rw [TupsAt.len B.ll] at this
      omega
    obtain ⟨t, e1, e2⟩ := TupsAt.get B.ll hl
    refine ⟨_, rfl, p, CB, A.dx, _, _, rfl, hp, T.cB, T.n_line, bF_line, _, rfl, p, CB, A.dx, _, _, rfl, hp, T.cB, T.n_line_at, bF_la, A.l, _, _, _, rfl, rfl, SqL.of B.hl, atI_nat e1, t, _, 0, _, rfl, rfl, SqT.of e2, atI_nat (j := 0) rfl, _, rfl, p, CB, A.dx, _, _, rfl, hp, T.cB, T.n_beat, bF_beat, rfl, _, rfl, ifB (fun h2 => ?_) (fun h2 => ?_)⟩
    · have hb : (x.line.getD x.la (0, 0)).1 = x.beat := V.int.inj (of_decide_eq_true h2)
      rw [if_pos ⟨hl, hb⟩] at k
      refine ⟨_, rfl, p, CB, A.dx, _, _, rfl, hp, T.cB, T.n_memory, bF_mem, A.m, A.dm, _, rfl, B.hm, mN_take, _, rfl, p, CB, A.dx, _, _, rfl, hp, T.cB, T.n_line, bF_line, _, rfl, p, CB, A.dx, _, _, rfl, hp, T.cB, T.n_line_at, bF_la, A.l, _, _, _, rfl, rfl, SqL.of B.hl, atI_nat e1, t, _, 1, _, rfl, rfl, SqT.of e2, atI_nat (j := 1) rfl, A.m, A.dm, A.w, A.s, x.mem, _, rfl, B.mem, ?_⟩
      have B1 := B.wds (m := takeLineM (x.line.getD x.la (0, 0)).2 x.mem) (by rw [takeLineM_len]; exact B.lm)
      obtain ⟨sv1, tv1, dv1, hp1, hz1⟩ := B1.hp
      refine ⟨_, rfl, p, CB, A.dx, _, _, rfl, hp1, T.cB, T.n_line_at, bF_la, _, _, rfl, rfl, A.dx, _, hp1, (by show 13 < 1000; decide), ?_⟩
      rw [bP_la (n := 0)]
      exact k _ ⟨A, ts, ls, B1.fld (z := x.zero) (le := x.lets) (as := x.asleep) (bt := x.beat) (sv := sv1) (la := x.la + 1) (tv := tv1) (dv := dv1) hz1⟩
    · rw [if_neg (fun z => of_decide_eq_false h2 (congrArg V.int z.2))] at k
      exact k _ ⟨A, ts, ls, B⟩
  · have hl : ¬ x.la < x.line.length := by
      have := of_decide_eq_false h
      rw [TupsAt.len B.ll] at this
      omega
    rw [if_neg (fun z => hl z.1)] at k
    exact k _ ⟨A, ts, ls, B⟩
abbrev sMpass : Stmt := inClass (topS 75) 12
def scMpassN : List Str := ["self", "many", "_"]
theorem scMpass : FnScope scMpassN ["self", "many"] (defScope sMpass) := ⟨rfl, rfl, rfl, by decide +kernel, rfl, by decide +kernel, by decide +kernel⟩
theorem ok_Mpass {f : Addr} {fd : FuncData} {fM_come : Addr} {dM_come : FuncData} {fM_timer : Addr} {dM_timer : FuncData} (F : Fun K "pass_beats" "Board.pass_beats" sMpass f fd) (T : Tx K mg CB CM)
    (M_come : CalM P w K mg base CB 2 "come_line" ["self"] (spCome CB CM) fM_come dM_come)
    (M_timer : CalM P w K mg base CM 1 "go_timer" ["self"] (spMTim CM) fM_timer dM_timer) : FnOk P w K mg base CX0 3 f fd ["self", "many"] (spPass CB CM) := by
  refine F.ok scMpass (fun vs H Q E h => by obtain ⟨_, _, _, _, rfl, _⟩ := h; rfl) (fun cdv A outer s H vs Q E hr h => ?_)
  have hu := hu_of hr
  have z_range := T.z_range
  obtain ⟨H0, p, x, n, rfl, R, hn, k⟩ := h
  refine ⟨_, (pss_one (ps_for PassesOwn.never rfl (pi_range1 (by rfl) z_range (pa_cons (pv 1) pa_nil)) (pg_name (i := 2) scMpass.nd rfl (.inl rfl))
      (pss_cons (ps_fldaug (pv 0) pe_int in_add)
    (pss_cons (ps_expr (pe_meth0 (pv 0) M_come.c M_come.m M_come.G (hr.mono (by decide)) M_come.b .nil pass0))
    (pss_one (ps_expr (pe_meth0 (pe_fld (pv 0) rfl) M_timer.c M_timer.m M_timer.G (hr.mono (by decide)) M_timer.b .nil pass0))))))), ?_⟩
  refine ⟨_, rfl, (n : Int), rfl, by omega, by omega, ?_⟩
  refine for_range (lo := 0) (n := ((n : Int)).toNat) (fun i σ H' => ∃ (y : Option V) (z : Bd), σ = [some (.ref p), some (.int (n : Int)), y] ∧ BoardAt CB CM H0 H' p z ∧ passM (n - i) z = passM n x) ⟨none, x, rfl, R, rfl⟩ ?_ ?_
  · rintro i σ H1 hi ⟨y, z, rfl, R, e⟩
    have hin : i < n := by omega
    obtain ⟨A, ts, ls, B⟩ := R
    obtain ⟨sv, tv, dv, hp, hz⟩ := B.hp
    refine ⟨_, rfl, p, CB, A.dx, _, _, rfl, hp, T.cB, T.n_beat, bF_beat, _, _, rfl, rfl, A.dx, _, hp, (by show 13 < 1000; decide), ?_⟩
    rw [bP_beat]
    have B1 := B.fld (z := z.zero) (le := z.lets) (as := z.asleep) (bt := z.beat + 1) (sv := sv) (la := z.la) (tv := tv) (dv := dv) hz
    obtain ⟨sv1, tv1, dv1, hp1, hz1⟩ := B1.hp
    refine ⟨_, rfl, p, A.dx, _, rfl, hp1, bN_come, H0, p, _, rfl, ⟨A, ts, ls, B1⟩, fun H2 R2 => ?_⟩
    obtain ⟨A2, ts2, ls2, B2⟩ := R2
    obtain ⟨sv2, tv2, dv2, hp2, hz2⟩ := B2.hp
    refine ⟨_, rfl, p, CB, A2.dx, _, _, rfl, hp2, T.cB, T.n_memory, bF_mem, A2.m, A2.dm, _, rfl, B2.hm, mN_timer, A2.m, A2.dm, A2.w, A2.s, _, rfl, B2.mem, ?_⟩
    have B3 := B2.wds (m := goTimerM (comeM { z with beat := z.beat + 1 }).mem) (by rw [goTimerM_len]; exact B2.lm)
    refine ⟨some (.int (0 + (i : Int))), passOneM z, rfl, ⟨A2, ts2, ls2, B3⟩, ?_⟩
    have e3 : n - i = (n - (i + 1)) + 1 := by omega
    rw [e3] at e
    exact e
  · rintro σ H1 ⟨y, z, rfl, R, e⟩
    have e0 : n - ((n : Int)).toNat = 0 := by omega
    rw [e0] at e
    rw [← e] at k
    exact k _ R
abbrev sMstop : Stmt := inClass (topS 75) 9
def scMstopN : List Str := ["self", "stop"]
theorem scMstop : FnScope scMstopN ["self", "stop"] (defScope sMstop) := ⟨rfl, rfl, rfl, by decide +kernel, rfl, by decide +kernel, by decide +kernel⟩
theorem ok_Mstop {f : Addr} {fd : FuncData} (F : Fun K "stop" "Board.stop" sMstop f fd) (T : Tx K mg CB CM) : FnOk P w K mg base CX0 1 f fd ["self", "stop"] (spStop CB CM) := by
  refine F.ok scMstop (fun vs H Q E h => by obtain ⟨_, _, _, _, _, _, rfl, _⟩ := h; rfl) (fun cdv A outer s H vs Q E hr h => ?_)
  have hu := hu_of hr
  obtain ⟨H0, p, q, x, s_, ns, rfl, R, hq, k⟩ := h
  obtain ⟨A, ts, ls, B⟩ := R
  obtain ⟨sv, tv, dv, hp, hz⟩ := B.hp
  refine ⟨_, (pss_cons (ps_fld (pv 0) (pv 1) rfl)
    (pss_one (ps_ret pe_str))), ?_⟩
  refine ⟨_, rfl, _, rfl, p, CB, A.dx, _, rfl, hp, T.cB, T.n_stopped, (by show 13 < 1000; decide), ?_⟩
  rw [bP_stop]
  exact k _ ⟨A, ts, ls, B.fld (z := x.zero) (le := x.lets) (as := x.asleep) (bt := x.beat) (sv := .ref q) (la := x.la) (tv := tv) (dv := dv) (so := some (s_, ns)) ⟨⟨q, rfl, hq⟩, hz.2⟩⟩
abbrev sMmay : Stmt := inClass (topS 75) 8
def scMmayN : List Str := ["self", "touches", "kind", "address", "why"]
theorem scMmay : FnScope scMmayN ["self", "touches"] (defScope sMmay) := ⟨rfl, rfl, rfl, by decide +kernel, rfl, by decide +kernel, by decide +kernel⟩
theorem ok_Mmay {f : Addr} {fd : FuncData} {fF_bar : Addr} {dF_bar : FuncData} {fM_stop : Addr} {dM_stop : FuncData} (F : Fun K "may_touch" "Board.may_touch" sMmay f fd) (T : Tx K mg CB CM)
    (F_bar : CalF P w K mg base 1 "bar_of" ["kind", "address"] (spBar) fF_bar dF_bar)
    (M_stop : CalM P w K mg base CB 1 "stop" ["self", "stop"] (spStop CB CM) fM_stop dM_stop) : FnOk P w K mg base CX0 2 f fd ["self", "touches"] (spMay CB CM) := by
  refine F.ok scMmay (fun vs H Q E h => by obtain ⟨_, _, _, _, _, _, rfl, _⟩ := h; rfl) (fun cdv A outer s H vs Q E hr h => ?_)
  have hu := hu_of hr
  obtain ⟨H0, p, l, x, us, tl, rfl, R, hl, ht, k⟩ := h
  obtain ⟨A, ts, ls, B⟩ := R
  obtain ⟨sv, tv, dv, hp, hz⟩ := B.hp
  refine ⟨_, (pss_cons (ps_for PassesOwn.never rfl (pi_list (pv 1)) (pg_tup rfl (pgs_cons (pg_name (i := 2) scMmay.nd rfl (.inl rfl)) (pgs_cons (pg_name (i := 3) scMmay.nd rfl (.inl rfl)) pgs_nil)))
      (pss_cons (ps_set (i := 4) scMmay.nd rfl (.inl rfl) (pe_call F_bar.G (hr.mono (by decide)) (by rfl) F_bar.g F_bar.kp F_bar.b .nil pass0 (pa_cons (pv 2) (pa_cons (pv 3) pa_nil))))
    (pss_one (ps_if (pt_cmp (pc_notN (pv 4))) (pss_cons (ps_expr (pe_meth (pv 0) M_stop.c M_stop.m M_stop.G (hr.mono (by decide)) M_stop.b .nil pass0 (pa_cons (pe_tup (pa_cons (pv 4) (pa_cons (pe_dget hu (pe_fld (pv 0) rfl) pe_str (fun _ _ => rfl)) (pa_cons (pv 3) pa_nil)))) pa_nil)))
    (pss_one (ps_ret pe_bl))) pss_nil))))
    (pss_cons (ps_fld (pv 0) (pv 1) rfl)
    (pss_one (ps_ret pe_bl)))), ?_⟩
  refine ⟨_, rfl, l, rfl, ⟨_, SqL.of hl⟩, ?_⟩
  refine for_list (K := K) (a := l) (xs := us) (fun i σ H' => H' = H ∧ firstBad (tl.drop i) = firstBad tl ∧ ∃ y2 y3 y4, σ = [some (.ref p), some (.ref l), y2, y3, y4]) ⟨rfl, rfl, none, none, none, rfl⟩ (fun i σ H' _ h => by obtain ⟨rfl, _⟩ := h; exact SqL.of hl) ?_ ?_
  · rintro i v σ H' hv ⟨rfl, hf, y2, y3, y4, rfl⟩
    obtain ⟨q, t, rfl, e1, e2⟩ := TouAt.get ht hv
    have hil : i < tl.length := (List.getElem?_eq_some_iff.mp e1).1
    have hd : tl.drop i = t :: tl.drop (i + 1) := by
      rw [List.drop_eq_getElem_cons hil]
      have : tl[i] = t := Option.some.inj ((List.getElem?_eq_getElem hil).symm.trans e1)
      rw [this]
    rw [hd, firstBad_cons] at hf
    refine ⟨q, _, rfl, SqT.of e2, rfl, _, _, rfl, _, _, rfl, rfl, ?_⟩
    refine ⟨_, rfl, _, rfl, t, rfl, ?_⟩
    cases e : barM t with
    | none =>
      rw [e] at hf
      refine ⟨_, rfl, _, rfl, ifN (fun h => absurd rfl (of_decide_eq_false h)) (fun _ => ?_)⟩
      exact ⟨rfl, hf, _, _, _, rfl⟩
    | some wy =>
      rw [e] at hf
      refine ⟨_, rfl, _, rfl, ifN (fun _ => ?_) (fun h => by cases (of_decide_eq_true h))⟩
      have em : mayM (.ref l) x tl = (false, { x with stop := some (wy, [x.pc, t.2]) }) := by
        unfold mayM
        rw [← hf]
      rw [em] at k
      exact ⟨_, rfl, p, A.dx, _, rfl, hp, bN_stop, _, rfl, _, rfl, p, CB, A.dx, _, _, rfl, hp, T.cB, T.n_registers, bF_reg, A.r, _, rfl, dg (k := Sum.inr "pc") B.hr rG_pc, _, rfl, (by show 3 ≤ sizeLine; decide), fun q2 nq => ⟨H0, p, q2, x, wy, [x.pc, t.2], rfl, ⟨A, ts, ls, B.more nq⟩, upd_same, fun H2 R2 => k _ R2⟩⟩
  · rintro σ H' ⟨rfl, hf, y2, y3, y4, rfl⟩
    rw [TouAt.len ht, List.drop_length] at hf
    have em : mayM (.ref l) x tl = (true, { x with tv := .ref l }) := by
      unfold mayM
      rw [← hf]
      rfl
    rw [em] at k
    refine ⟨_, rfl, _, rfl, p, CB, A.dx, _, rfl, hp, T.cB, T.n_touched, (by show 13 < 1000; decide), ?_⟩
    rw [bP_tou]
    exact k _ ⟨A, ts, ls, B.fld (z := x.zero) (le := x.lets) (as := x.asleep) (bt := x.beat) (sv := sv) (la := x.la) (tv := .ref l) (dv := dv) ⟨hz.1, rfl, hz.2.2⟩⟩
abbrev sMcoming : Stmt := inClass (topS 75) 4
def scMcomingN : List Str := ["self", "called"]
theorem scMcoming : FnScope scMcomingN ["self"] (defScope sMcoming) := ⟨rfl, rfl, rfl, by decide +kernel, rfl, by decide +kernel, by decide +kernel⟩
theorem ok_Mcoming {f : Addr} {fd : FuncData} {fM_called : Addr} {dM_called : FuncData} (F : Fun K "coming" "Board.coming" sMcoming f fd) (T : Tx K mg CB CM)
    (M_called : CalM P w K mg base CM 1 "called_flags" ["self"] (spMCall CM) fM_called dM_called) : FnOk P w K mg base CX0 2 f fd ["self"] (spComing CB CM) := by
  refine F.ok scMcoming (fun vs H Q E h => by obtain ⟨_, _, _, rfl, _⟩ := h; rfl) (fun cdv A outer s H vs Q E hr h => ?_)
  have hu := hu_of hr
  obtain ⟨H0, p, x, rfl, R, q⟩ := h
  obtain ⟨A, ts, ls, B⟩ := R
  obtain ⟨sv, tv, dv, hp, hz⟩ := B.hp
  refine ⟨_, (pss_cons (ps_if (pt_cmp (pc_notN (pe_fld (pv 0) rfl))) (pss_one (ps_ret pe_str)) pss_nil)
    (pss_cons (ps_set (i := 1) scMcoming.nd rfl (.inl rfl) (pe_cmpR op_ne (pe_meth0 (pe_fld (pv 0) rfl) M_called.c M_called.m M_called.G (hr.mono (by decide)) M_called.b .nil pass0) pe_int (nomark _)))
    (pss_cons (ps_if (PW.pt (pw_and (pt_val (pe_fld (pv 0) rfl)) (pw_and1 (pt_not (pt_val (pv 1)))))) (pss_one (ps_ret pe_str)) pss_nil)
    (pss_cons (ps_if (PW.pt (pw_and (pt_val (pe_fld (pv 0) rfl)) (pw_and1 (pt_val (pv 1))))) (pss_one (ps_ret pe_str)) pss_nil)
    (pss_one (ps_ret pe_str)))))), ?_⟩
  unfold comingM at q
  refine ⟨_, rfl, p, CB, A.dx, _, _, rfl, hp, T.cB, T.n_stopped, bF_stop, _, rfl, ?_⟩
  cases es : x.stop with
  | some r =>
    rw [es] at hz q
    obtain ⟨⟨q1, rfl, hq1⟩, hz2⟩ := hz
    refine ifN (fun _ => ?_) (fun h => by cases (of_decide_eq_true h))
    rw [if_pos (by intro z; cases z)] at q
    exact q
  | none =>
    rw [es] at hz q
    obtain rfl : sv = V.non := hz.1
    refine ifN (fun h => absurd rfl (of_decide_eq_false h)) (fun _ => ?_)
    rw [if_neg (fun z => z rfl)] at q
    refine ⟨_, rfl, p, CB, A.dx, _, _, rfl, hp, T.cB, T.n_memory, bF_mem, A.m, A.dm, _, rfl, B.hm, mN_called, A.m, A.dm, A.w, A.s, _, rfl, B.mem, rfl, ?_⟩
    have ec : decide (V.int (Builtin.bitAnd (rd x.mem 770) (rd x.mem 771)) = V.int 0) = decide (calledM x = 0) := by
      by_cases h : calledM x = 0
      · rw [decide_eq_true h]; exact decide_eq_true (congrArg V.int h)
      · rw [decide_eq_false h]; exact decide_eq_false fun z => h (V.int.inj z)
    rw [ec]
    refine ⟨_, rfl, p, CB, A.dx, _, _, rfl, hp, T.cB, T.n_asleep, bF_asleep, _, rfl, ifB (fun ha => ?_) (fun ha => ?_)⟩
    · refine ⟨_, rfl, _, rfl, ?_⟩
      by_cases hc : calledM x = 0
      · rw [if_pos ⟨ha, hc⟩] at q
        rw [decide_eq_true hc]
        exact q
      · rw [if_neg (fun z => hc z.2)] at q
        rw [decide_eq_false hc]
        refine ⟨_, rfl, p, CB, A.dx, _, _, rfl, hp, T.cB, T.n_lets, bF_lets, _, rfl, ifB (fun hl => ?_) (fun hl => ?_)⟩
        · rw [if_pos ⟨hl, hc⟩] at q
          exact ⟨_, rfl, _, rfl, q⟩
        · rw [if_neg (fun z => by rw [hl] at z; cases z.1)] at q
          exact q
    · rw [if_neg (fun z => by rw [ha] at z; cases z.1)] at q
      refine ⟨_, rfl, p, CB, A.dx, _, _, rfl, hp, T.cB, T.n_lets, bF_lets, _, rfl, ifB (fun hl => ?_) (fun hl => ?_)⟩
      · refine ⟨_, rfl, _, rfl, ?_⟩
        by_cases hc : calledM x = 0
        · rw [if_neg (fun z => z.2 hc)] at q
          rw [decide_eq_true hc]
          exact q
        · rw [if_pos ⟨hl, hc⟩] at q
          rw [decide_eq_false hc]
          exact q
      · rw [if_neg (fun z => by rw [hl] at z; cases z.1)] at q
        exact q
end
end Bh

/-! Interrupts, deeds, turns. -/
namespace Bh
open PySem PySem.Spec PyProof.Rows L2
def PcOk (x : Bd) : Prop := 0 ≤ x.pc → x.pc < 768 → 0 ≤ rd x.mem x.pc
/-- what stands in touched: a new list of these tuples -/
def TouV (H0 H' : Hp) (T : V) (ts : List (Bool × Int)) : Prop := ∃ tl us, T = .ref tl ∧ H0 tl = none ∧ H' tl = some (.lst us) ∧ TouAt H' us ts
def touT (x : Bd) : List (Bool × Int) := if (turnM x).1 = "deed" then toM x else if (turnM x).1 = "interrupt" then [(true, x.sp), (true, x.sp - 1)] else []
def didV (x : Bd) : V := if (turnM x).1 = "deed" then .str (nmOf (opM x)) else .non
theorem n_sd : ¬ ("stopped" : Str) = "deed" := by decide +kernel
theorem n_si : ¬ ("stopped" : Str) = "interrupt" := by decide +kernel
theorem n_ad : ¬ ("asleep" : Str) = "deed" := by decide +kernel
theorem n_ai : ¬ ("asleep" : Str) = "interrupt" := by decide +kernel
theorem n_id : ¬ ("interrupt" : Str) = "deed" := by decide +kernel
def spBegin (CB CM : Addr) : Sp := fun vs H Q _ => ∃ (H0 : Hp) (p : Addr) (x : Bd), vs = [.ref p] ∧ BoardAt CB CM H0 H p x ∧ x.sent.length < 900000 ∧
  (∀ y, intM x = (("stopped" : Str), y) → ∀ H', BoardAt CB CM H0 H' p y → Q (.str "stopped") H') ∧
  (intM x = (("interrupt" : Str), begunM x) → ∀ H' T, TouV H0 H' T [(true, x.sp), (true, x.sp - 1)] → BoardAt CB CM H0 H' p (begunM { x with tv := T }) → Q (.str "interrupt") H')
def spDeed (CB CM : Addr) : Sp := fun vs H Q _ => ∃ (H0 : Hp) (p : Addr) (x : Bd), vs = [.ref p] ∧ BoardAt CB CM H0 H p x ∧ x.sent.length < 900000 ∧ PcOk x ∧
  (∀ y, deedM x = (("stopped" : Str), y) → ∀ H', BoardAt CB CM H0 H' p y → Q (.str "stopped") H') ∧
  (deedM x = (("deed" : Str), doneM x) → ∀ H' T, TouV H0 H' T (toM x) → BoardAt CB CM H0 H' p (doneM { x with tv := T, dv := .str (nmOf (opM x)) }) → Q (.str "deed") H')
def spTurn (CB CM : Addr) : Sp := fun vs H Q _ => ∃ (H0 : Hp) (p : Addr) (x : Bd), vs = [.ref p] ∧ BoardAt CB CM H0 H p x ∧ x.sent.length < 900000 ∧ PcOk x ∧ ∀ H' T, TouV H0 H' T (touT x) → BoardAt CB CM H0 H' p ((turnM x).2.tvd T (didV x)) → Q (.str (turnM x).1) H'
structure DoF (P : Program) (w : World) (K : PySem.W.Frag) (mg : Str → Option Value) (base : Heap) (CB CM : Addr) (adr : Nat → Addr) (fdr : Nat → FuncData) : Prop where
  G : ∀ op, 1 ≤ op → op < 23 → FnOk P w K mg base CX0 4 (adr op) (fdr op) ["board", "x", "words"] (spDo CB CM op)
  kp : ∀ op, 1 ≤ op → op < 23 → PySem.W.keepIn K (.ref (adr op)) = true
  b : ∀ op, 1 ≤ op → op < 23 → Binds K (fdr op) ["board", "x", "words"] []
  D : ∃ a, mg "DOINGS" = some (.ref a) ∧ ∀ op, 1 ≤ op → op < 23 → KDct K w a (nmOf op) (.ref (adr op))
theorem iteb {c : Bool} {Q : V → Hp → Prop} {H : Hp} {σ : L2.St} (h : tC (.int (b2n c)) σ H Q) : if c = true then tC (.int 1) σ H Q else tC (.int 0) σ H Q := by
  cases c with
  | true => exact h
  | false => exact h
theorem putWM_zero (a v : Int) (x : Bd) : (putWM a v x).zero = x.zero := by
  unfold putWM sendM
  split <;> rfl
theorem putWM_sent (a v : Int) (x : Bd) : (putWM a v x).sent.length ≤ x.sent.length + 1 := by
  unfold putWM sendM
  split
  · show (x.sent ++ [(x.beat, v)]).length ≤ _
    rw [List.length_append]
    exact Nat.le_refl _
  · exact Nat.le_succ _
theorem kS_r (b : Bool) : decide (V.str (kS b) = V.str "r") = !b := by
  cases b with
  | true => exact ne_wr
  | false => exact decide_eq_true rfl
theorem nm_at {op : Nat} (h : op < 23) : atI (opN.map V.str) (op : Int) = some (.str (nmOf op)) := by
  have hj : op < opN.length := h
  refine atI_nat ?_
  rw [List.getElem?_map, List.getElem?_eq_getElem hj]
  unfold nmOf
  rw [List.getD_eq_getElem?_getD, List.getElem?_eq_getElem hj]
  rfl
theorem nm_mark : ∀ op : Nat, op < 23 → decide (V.str (nmOf op) = V.str "mark") = decide (op = 0) := by decide +kernel
theorem reads_len (ts : List (Bool × Int)) (m : List Int) : (readsM m ts).length = (ts.filter fun t => !t.1).length := List.length_map ..
theorem nR_ok (op : Nat) (n b sp : Int) (m : List Int) (h : op < 23) : (readsM m (touM op n b sp)).length = nR op := by
  match op, h with

  | 0, _ => rfl
  | 1, _ => rfl
  | 2, _ => rfl
  | 3, _ => rfl
  | 4, _ => rfl
  | 5, _ => rfl
  | 6, _ => rfl
  | 7, _ => rfl
  | 8, _ => rfl
  | 9, _ => rfl
  | 10, _ => rfl
  | 11, _ => rfl
  | 12, _ => rfl
  | 13, _ => rfl
  | 14, _ => rfl
  | 15, _ => rfl
  | 16, _ => rfl
  | 17, _ => rfl
  | 18, _ => rfl
  | 19, _ => rfl
  | 20, _ => rfl
  | 21, _ => rfl
  | 22, _ => rfl
  | n + 23, h => omega
section
variable {P : Program} {w : World} {K : PySem.W.Frag} {mg : Str → Option Value} {base : Heap} {CB CM : Addr}
abbrev sMbegin : Stmt := inClass (topS 75) 6
def scMbeginN : List Str := ["self", "pc", "sp", "flags"]
theorem scMbegin : FnScope scMbeginN ["self"] (defScope sMbegin) := ⟨rfl, rfl, rfl, by decide +kernel, rfl, by decide +kernel, by decide +kernel⟩
theorem ok_Mbegin {f : Addr} {fd : FuncData} {fM_called : Addr} {dM_called : FuncData} {fM_may : Addr} {dM_may : FuncData} {fM_pass : Addr} {dM_pass : FuncData} {fM_pbt : Addr} {dM_pbt : FuncData} (F : Fun K "begin_interrupt" "Board.begin_interrupt" sMbegin f fd) (T : Tx K mg CB CM)
    (M_called : CalM P w K mg base CM 1 "called_flags" ["self"] (spMCall CM) fM_called dM_called)
    (M_may : CalM P w K mg base CB 2 "may_touch" ["self", "touches"] (spMay CB CM) fM_may dM_may)
    (M_pass : CalM P w K mg base CB 3 "pass_beats" ["self", "many"] (spPass CB CM) fM_pass dM_pass)
    (M_pbt : CalM P w K mg base CB 3 "put_by_turn" ["self", "address", "word"] (spPw CB CM) fM_pbt dM_pbt) : FnOk P w K mg base CX0 4 f fd ["self"] (spBegin CB CM) := by
  refine F.ok scMbegin (fun vs H Q E h => by obtain ⟨_, _, _, rfl, _⟩ := h; rfl) (fun cdv A outer s H vs Q E hr h => ?_)
  have hu := hu_of hr
  obtain ⟨t_INTERRUPT_BEATS, g_INTERRUPT_BEATS⟩ := T.g_INTERRUPT_BEATS
  obtain ⟨t_LINE_PC, g_LINE_PC⟩ := T.g_LINE_PC
  obtain ⟨t_TIMER_FLAG, g_TIMER_FLAG⟩ := T.g_TIMER_FLAG
  obtain ⟨t_TIMER_PC, g_TIMER_PC⟩ := T.g_TIMER_PC
  obtain ⟨H0, p, x, rfl, R, hsl, k1, k2⟩ := h
  obtain ⟨A, ts, ls, B⟩ := R
  obtain ⟨sv, tv, dv, hp, hz⟩ := B.hp
  refine ⟨_, (pss_cons (ps_set (i := 1) scMbegin.nd rfl (.inl rfl) (pe_dget hu (pe_fld (pv 0) rfl) pe_str (fun _ _ => rfl)))
    (pss_cons (ps_set (i := 2) scMbegin.nd rfl (.inl rfl) (pe_dget hu (pe_fld (pv 0) rfl) pe_str (fun _ _ => rfl)))
    (pss_cons (ps_set (i := 3) scMbegin.nd rfl (.inl rfl) (pe_meth0 (pe_fld (pv 0) rfl) M_called.c M_called.m M_called.G (hr.mono (by decide)) M_called.b .nil pass0))
    (pss_cons (ps_if (pt_not (pt_val (pe_meth (pv 0) M_may.c M_may.m M_may.G (hr.mono (by decide)) M_may.b .nil pass0 (pa_cons (pe_lst (pa_cons (pe_tup (pa_cons pe_str (pa_cons (pv 2) pa_nil))) (pa_cons (pe_tup (pa_cons pe_str (pa_cons (pe_op op_sub (pv 2) pe_int) pa_nil))) pa_nil))) pa_nil)))) (pss_one (ps_ret pe_str)) pss_nil)
    (pss_cons (ps_expr (pe_meth (pv 0) M_pbt.c M_pbt.m M_pbt.G (hr.mono (by decide)) M_pbt.b .nil pass0 (pa_cons (pv 2) (pa_cons (pv 1) pa_nil))))
    (pss_cons (ps_expr (pe_meth (pv 0) M_pbt.c M_pbt.m M_pbt.G (hr.mono (by decide)) M_pbt.b .nil pass0 (pa_cons (pe_op op_sub (pv 2) pe_int) (pa_cons (pe_ifExp (pt_val (pe_fld (pv 0) rfl)) pe_int pe_int) pa_nil))))
    (pss_cons (ps_dput hu (pe_fld (pv 0) rfl) pe_str (pe_op op_sub (pv 2) pe_int) rfl)
    (pss_cons (ps_fld (pv 0) pe_bl rfl)
    (pss_cons (ps_dput hu (pe_fld (pv 0) rfl) pe_str (pe_ifExp (pt_truth (pe_op op_and (pv 3) (pgI g_TIMER_FLAG)) (fun _ => rfl)) (pgI g_TIMER_PC) (pgI g_LINE_PC)) rfl)
    (pss_cons (ps_expr (pe_meth (pv 0) M_pass.c M_pass.m M_pass.G (hr.mono (by decide)) M_pass.b .nil pass0 (pa_cons (pgI g_INTERRUPT_BEATS) pa_nil)))
    (pss_one (ps_ret pe_str)))))))))))), ?_⟩
  refine ⟨_, rfl, p, CB, A.dx, _, _, rfl, hp, T.cB, T.n_registers, bF_reg, A.r, _, rfl, dg (k := Sum.inr "pc") B.hr rG_pc, _, rfl, p, CB, A.dx, _, _, rfl, hp, T.cB, T.n_registers, bF_reg, A.r, _, rfl, dg (k := Sum.inr "sp") B.hr rG_sp, _, rfl, p, CB, A.dx, _, _, rfl, hp, T.cB, T.n_memory, bF_mem, A.m, A.dm, _, rfl, B.hm, mN_called, A.m, A.dm, A.w, A.s, _, rfl, B.mem, ?_⟩
  refine ⟨_, rfl, p, A.dx, _, rfl, hp, bN_may, _, rfl, (by show 2 ≤ sizeLine; decide), fun t1 n1 => ⟨_, rfl, _, _, rfl, rfl, (by show 2 ≤ sizeLine; decide), fun t2 n2 => ⟨(by show 2 ≤ sizeLine; decide), fun l nl => ⟨_, p, l, x, [.ref t1, .ref t2], [(true, x.sp), (true, x.sp - 1)], rfl, ⟨A, ts, ls, ((B.grow n1).grow n2).grow nl⟩, upd_same, .cons ⟨t1, rfl, same_upd' nl _ _ (same_upd' n2 _ _ upd_same)⟩ (.cons ⟨t2, rfl, same_upd' nl _ _ upd_same⟩ .nil), fun H2 R2 => ?_⟩⟩⟩⟩
  have g1 := B.grow (o := .tup [V.str "w", V.int x.sp]) n1
  have g2 := g1.grow (o := .tup [V.str "w", V.int (x.sp - 1)]) n2
  have f0 : H0 l = none := B.sm.free (((same_upd' n1).trans (same_upd' n2)).free nl)
  have s1 := same_upd' (o := .tup [V.str "w", V.int x.sp]) (B.sm.free n1)
  have s2 := same_upd' (o := .tup [V.str "w", V.int (x.sp - 1)]) (g1.sm.free n2)
  have s3 := same_upd' (o := .lst [V.ref t1, V.ref t2]) (g2.sm.free nl)
  have bs := (s1.trans s2).trans s3
  have hbl : upd (upd (upd H0 t1 (.tup [V.str "w", V.int x.sp])) t2 (.tup [V.str "w", V.int (x.sp - 1)])) l (.lst [V.ref t1, V.ref t2]) l = some (.lst [V.ref t1, V.ref t2]) := upd_same
  have htu : TouAt (upd (upd (upd H0 t1 (.tup [V.str "w", V.int x.sp])) t2 (.tup [V.str "w", V.int (x.sp - 1)])) l (.lst [V.ref t1, V.ref t2])) [.ref t1, .ref t2] [(true, x.sp), (true, x.sp - 1)] := .cons ⟨t1, rfl, s3 _ _ (s2 _ _ upd_same)⟩ (.cons ⟨t2, rfl, s3 _ _ upd_same⟩ .nil)
  clear g1 g2 s1 s2 s3
  generalize upd (upd (upd H0 t1 (.tup [V.str "w", V.int x.sp])) t2 (.tup [V.str "w", V.int (x.sp - 1)])) l (.lst [V.ref t1, V.ref t2]) = Hb at *
  cases e : firstBad [(true, x.sp), (true, x.sp - 1)] with
  | some r =>
    have em : mayM (.ref l) x [(true, x.sp), (true, x.sp - 1)] = (false, { x with stop := some (r.1, [x.pc, r.2]) }) := by
      unfold mayM
      rw [e]
    have ei : intM x = (("stopped" : Str), { x with stop := some (r.1, [x.pc, r.2]) }) := by
      unfold intM
      rw [e]
      rfl
    rw [em] at R2 ⊢
    exact ⟨_, rfl, ifN (fun _ => k1 _ ei _ (R2.unbase bs)) (fun h => by cases h)⟩
  | none =>
    have em : mayM (.ref l) x [(true, x.sp), (true, x.sp - 1)] = (true, { x with tv := V.ref l }) := by
      unfold mayM
      rw [e]
    have ei : intM x = (("interrupt" : Str), begunM x) := by
      unfold intM
      rw [e]
    rw [em] at R2 ⊢
    refine ⟨_, rfl, ifN (fun h => by cases h) (fun _ => ?_)⟩
    have tok := firstBad_ok e
    obtain ⟨t0, t1'⟩ := barM_ok (tok (true, x.sp) List.mem_cons_self)
    obtain ⟨u0, u1⟩ := barM_ok (tok (true, x.sp - 1) (List.mem_cons_of_mem _ List.mem_cons_self))
    obtain ⟨A2, ts2, ls2, B2⟩ := R2
    obtain ⟨sv2, tv2, dv2, hp2, hz2⟩ := B2.hp
    refine ⟨_, rfl, p, A2.dx, _, rfl, hp2, bN_pbt, _, rfl, _, rfl, Hb, p, { x with tv := V.ref l }, x.sp, x.pc, rfl, ⟨A2, ts2, ls2, B2⟩, (by show x.sent.length < 1000000; omega), t0, t1', fun H3 R3 => ?_⟩
    obtain ⟨A3, ts3, ls3, B3⟩ := R3
    obtain ⟨sv3, tv3, dv3, hp3, hz3⟩ := B3.hp
    have hs3 : (putWM x.sp x.pc { x with tv := V.ref l }).sent.length ≤ x.sent.length + 1 := putWM_sent x.sp x.pc { x with tv := V.ref l }
    have eb : begunM { x with tv := V.ref l } = passM 3 { putWM (x.sp - 1) (b2n x.zero) (putWM x.sp x.pc { x with tv := V.ref l }) with sp := x.sp - 2, lets := false, pc := if Builtin.bitAnd (calledM x) 1 ≠ 0 then 1 else 2 } := rfl
    refine ⟨_, rfl, p, A3.dx, _, rfl, hp3, bN_pbt, _, rfl, _, _, rfl, rfl, _, rfl, p, CB, A3.dx, _, _, rfl, hp3, T.cB, T.n_zero, bF_zero, _, rfl, ?_⟩
    refine iteb ?_
    rw [putWM_zero]
    refine ⟨Hb, p, _, x.sp - 1, b2n x.zero, rfl, ⟨A3, ts3, ls3, B3⟩, by omega, u0, u1, fun H4 R4 => ?_⟩
    generalize hy : putWM (x.sp - 1) (b2n x.zero) (putWM x.sp x.pc { x with tv := V.ref l }) = y at *
    obtain ⟨A4, ts4, ls4, B4⟩ := R4
    obtain ⟨sv4, tv4, dv4, hp4, hz4⟩ := B4.hp
    refine ⟨_, rfl, _, _, rfl, rfl, _, rfl, p, CB, A4.dx, _, _, rfl, hp4, T.cB, T.n_registers, bF_reg, A4.r, _, rfl, dp (k := Sum.inr "sp") B4.hr rP_sp, ?_⟩
    have B5 := B4.regs (a := y.a) (b := y.b) (pc := y.pc) (sp := x.sp - 2)
    obtain ⟨sv5, tv5, dv5, hp5, hz5⟩ := B5.hp
    refine ⟨_, rfl, p, CB, A4.dx, _, rfl, hp5, T.cB, T.n_lets, (by show 13 < 1000; decide), ?_⟩
    rw [bP_lets]
    have B6 := B5.fld (z := y.zero) (le := false) (as := y.asleep) (bt := y.beat) (sv := sv5) (la := y.la) (tv := tv5) (dv := dv5) hz5
    obtain ⟨sv6, tv6, dv6, hp6, hz6⟩ := B6.hp
    have fin : ∀ pc' : Int, pc' = (if Builtin.bitAnd (calledM x) 1 ≠ 0 then 1 else 2) → ∀ H7, BoardAt CB CM Hb H7 p { y with sp := x.sp - 2, lets := false, pc := pc' } → ∀ H8, BoardAt CB CM Hb H8 p (passM 3 { y with sp := x.sp - 2, lets := false, pc := pc' }) → Q (.str "interrupt") H8 := fun pc' epc H7 _ H8 R8 => by
      refine k2 ei _ (.ref l) ⟨l, _, rfl, f0, R8.sm _ _ hbl, htu.mono (fun t xs e => R8.sm _ _ e)⟩ ?_
      rw [eb]
      subst epc
      exact R8.unbase bs
    have step : ∀ pc' : Int, pc' = (if Builtin.bitAnd (calledM x) 1 ≠ 0 then 1 else 2) → Bp CB CM Hb (upd _ A4.r (.dK (regD y.a y.b pc' (x.sp - 2)))) p A4 ts4 ls4 { y with sp := x.sp - 2, lets := false, pc := pc' } := fun pc' _ => B6.regs (a := y.a) (b := y.b) (pc := pc') (sp := x.sp - 2)
    refine ⟨_, rfl, _, _, rfl, rfl, _, rfl, ifB (fun hb => ?_) (fun hb => ?_)⟩
    · have e1 : (1 : Int) = (if Builtin.bitAnd (calledM x) 1 ≠ 0 then 1 else 2) := (if_pos (fun z => by
        have hb' : (Builtin.bitAnd (calledM x) 1 != 0) = true := hb
        rw [z] at hb'
        cases hb')).symm
      refine ⟨_, rfl, p, CB, A4.dx, _, _, rfl, hp6, T.cB, T.n_registers, bF_reg, A4.r, _, rfl, dp (k := Sum.inr "pc") B6.hr rP_pc, ?_⟩
      have B7 := step 1 e1
      obtain ⟨sv7, tv7, dv7, hp7, hz7⟩ := B7.hp
      exact ⟨_, rfl, p, A4.dx, _, rfl, hp7, bN_pass, Hb, p, _, 3, rfl, ⟨A4, ts4, ls4, B7⟩, by decide, fun H8 R8 => fin 1 e1 _ ⟨A4, ts4, ls4, B7⟩ H8 R8⟩
    · have e1 : (2 : Int) = (if Builtin.bitAnd (calledM x) 1 ≠ 0 then 1 else 2) := (if_neg (fun z => z (by
        have hb' : (Builtin.bitAnd (calledM x) 1 != 0) = false := hb
        simpa using hb'))).symm
      refine ⟨_, rfl, p, CB, A4.dx, _, _, rfl, hp6, T.cB, T.n_registers, bF_reg, A4.r, _, rfl, dp (k := Sum.inr "pc") B6.hr rP_pc, ?_⟩
      have B7 := step 2 e1
      obtain ⟨sv7, tv7, dv7, hp7, hz7⟩ := B7.hp
      exact ⟨_, rfl, p, A4.dx, _, rfl, hp7, bN_pass, Hb, p, _, 3, rfl, ⟨A4, ts4, ls4, B7⟩, by decide, fun H8 R8 => fin 2 e1 _ ⟨A4, ts4, ls4, B7⟩ H8 R8⟩
abbrev sMdo : Stmt := inClass (topS 75) 7
def scMdoN : List Str := ["self", "pc", "op", "x", "name", "touches", "words", "doing", "kind", "address"]
theorem scMdo : FnScope scMdoN ["self"] (defScope sMdo) := ⟨rfl, rfl, rfl, by decide +kernel, rfl, by decide +kernel, by decide +kernel⟩
theorem ok_Mdo {f : Addr} {fd : FuncData} {fF_tou : Addr} {dF_tou : FuncData} {fM_may : Addr} {dM_may : FuncData} {fM_pass : Addr} {dM_pass : FuncData} {fM_read : Addr} {dM_read : FuncData} {fM_stop : Addr} {dM_stop : FuncData} (F : Fun K "do_deed" "Board.do_deed" sMdo f fd) (T : Tx K mg CB CM)
    (F_tou : CalF P w K mg base 1 "touches_of" ["name", "x", "registers"] (spTou) fF_tou dF_tou)
    (M_may : CalM P w K mg base CB 2 "may_touch" ["self", "touches"] (spMay CB CM) fM_may dM_may)
    (M_pass : CalM P w K mg base CB 3 "pass_beats" ["self", "many"] (spPass CB CM) fM_pass dM_pass)
    (M_read : CalM P w K mg base CM 1 "read" ["self", "address", "pc"] (spMRead CM) fM_read dM_read)
    (M_stop : CalM P w K mg base CB 1 "stop" ["self", "stop"] (spStop CB CM) fM_stop dM_stop)
    {adr : Nat → Addr} {fdr : Nat → FuncData} (FD : DoF P w K mg base CB CM adr fdr) : FnOk P w K mg base CX0 5 f fd ["self"] (spDeed CB CM) := by
  refine F.ok scMdo (fun vs H Q E h => by obtain ⟨_, _, _, rfl, _⟩ := h; rfl) (fun cdv A outer s H vs Q E hr h => ?_)
  have hu := hu_of hr
  obtain ⟨t_RAM_END, g_RAM_END⟩ := T.g_RAM_END
  obtain ⟨t_X_SPAN, g_X_SPAN⟩ := T.g_X_SPAN
  have z_divmod := T.z_divmod
  have z_len := T.z_len
  obtain ⟨H0, p, x, rfl, R, hsl, hpc, k1, k2⟩ := h
  obtain ⟨A, ts, ls, B⟩ := R
  obtain ⟨sv, tv, dv, hp, hz⟩ := B.hp
  obtain ⟨aO, g_OP_NAMES, vO⟩ := T.g_OP_NAMES
  obtain ⟨aD, g_DOINGS, vD⟩ := FD.D
  obtain ⟨op1, eop, o1, o2⟩ : ∃ op1 : Nat, (1 ≤ opM x → opM x < 23 → op1 = opM x) ∧ 1 ≤ op1 ∧ op1 < 23 := by
    by_cases h : 1 ≤ opM x ∧ opM x < 23
    · exact ⟨opM x, fun _ _ => rfl, h.1, h.2⟩
    · exact ⟨1, fun a b => absurd ⟨a, b⟩ h, by decide, by decide⟩
  refine ⟨_, (pss_cons (ps_set (i := 1) scMdo.nd rfl (.inr rfl) (pe_dget hu (pe_fld (pv 0) rfl) pe_str (fun _ _ => rfl)))
    (pss_cons (ps_if (pt_not (pt_chain op_le op_lt pe_int (pv 1) (pgI g_RAM_END))) (pss_one (ps_ret (pe_meth (pv 0) M_stop.c M_stop.m M_stop.G (hr.mono (by decide)) M_stop.b .nil pass0 (pa_cons (pe_tup (pa_cons pe_str (pa_cons (pv 1) (pa_cons (pv 1) pa_nil)))) pa_nil)))) pss_nil)
    (pss_cons (ps_asg (pe_callB call_divmod (by rfl) z_divmod (by decide +kernel) (pa_cons (pe_meth (pe_fld (pv 0) rfl) M_read.c M_read.m M_read.G (hr.mono (by decide)) M_read.b .nil pass0 (pa_cons (pv 1) (pa_cons (pv 1) pa_nil))) (pa_cons (pgI g_X_SPAN) pa_nil))) (pg_tup rfl (pgs_cons (pg_name (i := 2) scMdo.nd rfl (.inl rfl)) (pgs_cons (pg_name (i := 3) scMdo.nd rfl (.inl rfl)) pgs_nil))))
    (pss_cons (ps_if (pt_cmpR op_ge (pv 2) (pe_callB call_len_seq (by rfl) z_len PySem.boot_len (pa_cons (pgR g_OP_NAMES) pa_nil)) (nomark _)) (pss_one (ps_ret (pe_meth (pv 0) M_stop.c M_stop.m M_stop.G (hr.mono (by decide)) M_stop.b .nil pass0 (pa_cons (pe_tup (pa_cons pe_str (pa_cons (pv 1) pa_nil))) pa_nil)))) pss_nil)
    (pss_cons (ps_set (i := 4) scMdo.nd rfl (.inl rfl) (pe_ix ix_tup (pgR g_OP_NAMES) (pv 2) (fun _ _ => rfl)))
    (pss_cons (ps_if (pt_cmpR op_eq (pv 4) pe_str (nomark _)) (pss_one (ps_ret (pe_meth (pv 0) M_stop.c M_stop.m M_stop.G (hr.mono (by decide)) M_stop.b .nil pass0 (pa_cons (pe_tup (pa_cons pe_str (pa_cons (pv 1) pa_nil))) pa_nil)))) pss_nil)
    (pss_cons (ps_set (i := 5) scMdo.nd rfl (.inl rfl) (pe_call F_tou.G (hr.mono (by decide)) (by rfl) F_tou.g F_tou.kp F_tou.b .nil pass0 (pa_cons (pv 4) (pa_cons (pv 3) (pa_cons (pe_fld (pv 0) rfl) pa_nil)))))
    (pss_cons (ps_if (pt_not (pt_val (pe_meth (pv 0) M_may.c M_may.m M_may.G (hr.mono (by decide)) M_may.b .nil pass0 (pa_cons (pv 5) pa_nil)))) (pss_one (ps_ret pe_str)) pss_nil)
    (pss_cons (ps_setLc (i := 6) (own := [("kind", 8), ("address", 9)]) (g := gTup K 2 (gCons (gName 8) (gCons (gName 9) gNil))) (by rfl) scMdo.nd rfl rfl rfl (pi_list (pv 5)) (blkOk_by (own := [("kind", 8), ("address", 9)]) (N := scMdoN) (sc := defScope sMdo) (by decide +kernel)) (fun _ _ _ _ _ => (gtK (K := K) (n := 2) (by rfl) (by rfl) (pgs_cons (pg_name (i := 8) scMdo.nd rfl (.inl rfl)) (pgs_cons (pg_name (i := 9) scMdo.nd rfl (.inl rfl)) pgs_nil)) (by rfl) (by rfl))) (fun _ _ _ _ _ => (pts_one (pt_cmpR op_eq (pv 8) pe_str (nomark _)))) (fun _ _ _ _ _ => (pe_meth (pe_fldK (K := K) (by rfl) (pv 0) (by rfl)) M_read.c M_read.m M_read.G (hr.mono (by decide)) M_read.b .nil pass0 (pa_cons (pv 9) (pa_cons (pv 1) pa_nil)))))
    (pss_cons (ps_if (pt_truth (pv 6) (fun _ => rfl)) (pss_cons (ps_asg (pe_op op_xor (pe_ix ix_list (pv 6) pe_int (fun _ _ => rfl)) (pe_fld (pv 0) rfl)) (pg_sub (pv 6) pe_int set_list))
    (pss_one (ps_fld (pv 0) pe_int rfl))) pss_nil)
    (pss_cons (ps_fld (pv 0) (pv 4) rfl)
    (pss_cons (ps_dput hu (pe_fld (pv 0) rfl) pe_str (pe_op op_add (pv 1) pe_int) rfl)
    (pss_cons (ps_set (i := 7) scMdo.nd rfl (.inl rfl) (pe_ix ix_kdict (pgR g_DOINGS) (pv 4) (fun _ _ => rfl)))
    (pss_cons (ps_expr (pe_callL (i := 7) (FD.G op1 o1 o2) (hr.mono (by decide)) rfl (.inl rfl) (FD.kp op1 o1 o2) (FD.b op1 o1 o2) .nil pass0 (pa_cons (pv 0) (pa_cons (pv 3) (pa_cons (pv 6) pa_nil)))))
    (pss_cons (ps_expr (pe_meth (pv 0) M_pass.c M_pass.m M_pass.G (hr.mono (by decide)) M_pass.b .nil pass0 (pa_cons (pe_op op_add pe_int (pe_callB call_len_seq (by rfl) z_len PySem.boot_len (pa_cons (pv 5) pa_nil))) pa_nil)))
    (pss_one (ps_ret pe_str))))))))))))))))), ?_⟩
  have far : ¬ (0 ≤ x.pc ∧ x.pc < 768) → deedM x = (("stopped" : Str), { x with stop := some ("far", [x.pc, x.pc]) }) := fun h => by
    unfold deedM stopAt
    rw [if_pos h]
  refine ⟨_, rfl, p, CB, A.dx, _, _, rfl, hp, T.cB, T.n_registers, bF_reg, A.r, _, rfl, dg (k := Sum.inr "pc") B.hr rG_pc, ?_⟩
  refine ⟨_, rfl, _, _, rfl, rfl, _, rfl, ifB (fun h0 => ?_) (fun h0 => ⟨_, rfl, ?_⟩)⟩
  rotate_left
  · have ed := far (fun z => of_decide_eq_false h0 z.1)
    refine ⟨_, rfl, p, A.dx, _, rfl, hp, bN_stop, _, rfl, _, rfl, (by show 3 ≤ sizeLine; decide), fun q nq => ⟨H0, p, q, x, "far", [x.pc, x.pc], rfl, ⟨A, ts, ls, B.more nq⟩, upd_same, fun H2 R2 => ?_⟩⟩
    exact k1 _ ed _ R2
  refine ⟨_, _, rfl, rfl, _, rfl, ifN (fun h1 => ?_) (fun h1 => ?_)⟩
  · have ed := far (fun z => of_decide_eq_false h1 z.2)
    refine ⟨_, rfl, p, A.dx, _, rfl, hp, bN_stop, _, rfl, _, rfl, (by show 3 ≤ sizeLine; decide), fun q nq => ⟨H0, p, q, x, "far", [x.pc, x.pc], rfl, ⟨A, ts, ls, B.more nq⟩, upd_same, fun H2 R2 => ?_⟩⟩
    exact k1 _ ed _ R2
  have h0 := of_decide_eq_true h0
  have h1 := of_decide_eq_true h1
  have hw := hpc h0 h1
  refine ⟨_, rfl, p, CB, A.dx, _, _, rfl, hp, T.cB, T.n_memory, bF_mem, A.m, A.dm, _, rfl, B.hm, mN_read, _, rfl, _, rfl, A.m, A.dm, A.w, A.s, x.mem, x.pc, x.pc, rfl, B.mem, h0, by omega, ?_⟩
  refine ⟨_, _, rfl, ⟨by decide, by decide⟩, fun t nt => ?_⟩
  refine ⟨t, _, rfl, SqT.of upd_same, rfl, _, _, rfl, _, _, rfl, rfl, ?_⟩
  have B1 := B.more (o := .tup [.int (rd x.mem x.pc / 1024), .int (rd x.mem x.pc % 1024)]) nt
  clear B hp hz sv tv dv
  generalize upd H t (.tup [.int (rd x.mem x.pc / 1024), .int (rd x.mem x.pc % 1024)]) = H1 at *
  have B := B1
  obtain ⟨sv, tv, dv, hp, hz⟩ := B.hp
  have eop0 : rd x.mem x.pc / 1024 = ((opM x : Nat) : Int) := by
    unfold opM
    have := Int.ediv_nonneg hw (show (0 : Int) ≤ 1024 by decide)
    omega
  rw [eop0]
  refine ⟨_, rfl, aO, _, rfl, .inr (vO _), _, _, rfl, rfl, _, rfl, ifB (fun h => ?_) (fun h => ?_)⟩
  · have h23 : 23 ≤ opM x := by
      have := of_decide_eq_true h
      have e : (opN.map V.str).length = 23 := rfl
      rw [e] at this
      omega
    have ed : deedM x = (("stopped" : Str), { x with stop := some ("none", [x.pc]) }) := by
      unfold deedM stopAt
      rw [if_neg (fun z => z ⟨h0, h1⟩), if_pos h23]
    refine ⟨_, rfl, p, A.dx, _, rfl, hp, bN_stop, _, rfl, (by show 2 ≤ sizeLine; decide), fun q nq => ⟨H0, p, q, x, "none", [x.pc], rfl, ⟨A, ts, ls, B.more nq⟩, upd_same, fun H2 R2 => ?_⟩⟩
    exact k1 _ ed _ R2
  have h23 : opM x < 23 := by
    have := of_decide_eq_false h
    have e : (opN.map V.str).length = 23 := rfl
    rw [e] at this
    omega
  refine ⟨_, rfl, aO, _, _, _, rfl, rfl, vO _, nm_at h23, ?_⟩
  refine ⟨_, rfl, rfl, _, rfl, ?_⟩
  rw [nm_mark _ h23]
  refine ifB (fun h => ?_) (fun h => ?_)
  · have hm0 := of_decide_eq_true h
    have ed : deedM x = (("stopped" : Str), { x with stop := some ("mark", [x.pc]) }) := by
      unfold deedM stopAt
      rw [if_neg (fun z => z ⟨h0, h1⟩), if_neg (by omega), if_pos hm0]
    refine ⟨_, rfl, p, A.dx, _, rfl, hp, bN_stop, _, rfl, (by show 2 ≤ sizeLine; decide), fun q nq => ⟨H0, p, q, x, "mark", [x.pc], rfl, ⟨A, ts, ls, B.more nq⟩, upd_same, fun H2 R2 => ?_⟩⟩
    exact k1 _ ed _ R2
  have hm0 := of_decide_eq_false h
  have eop1 := eop (by omega) h23
  subst eop1
  refine ⟨_, rfl, _, rfl, _, rfl, p, CB, A.dx, _, _, rfl, hp, T.cB, T.n_registers, bF_reg, nmOf (opM x), xM x, A.r, x.a, x.b, x.pc, x.sp, rfl, B.hr, fun H2 l us s2 nl hl tu => ?_⟩
  rw [touN_op _ h23] at tu
  have tu : TouAt H2 us (toM x) := tu
  have B2 := B.same s2
  obtain ⟨sv2, tv2, dv2, hp2, hz2⟩ := B2.hp
  have f0 : H0 l = none := B.sm.free nl
  have lp : l ≠ p := ne_of hl hp2 (by intro q; cases q)
  have lr : l ≠ A.r := ne_of hl B2.hr (by intro q; cases q)
  have lw : l ≠ A.w := fun z => by rw [z, B.hw] at nl; cases nl
  have lt : l ≠ A.t := fun z => by rw [z, B.ht] at nl; cases nl
  have lm_ : l ≠ A.m := fun z => by rw [z, B.hm] at nl; cases nl
  have ls_ : l ≠ A.s := fun z => by rw [z, B.hs] at nl; cases nl
  have ll_ : l ≠ A.l := fun z => by rw [z, B.hl] at nl; cases nl
  have B2' := B2.rebase
  have bs := B2.base_same
  have bl : baseOf H2 p A l = some (.lst us) := (B2.base_at lp lr lw lt lm_ ls_ ll_).trans hl
  have bt : TouAt (baseOf H2 p A) us (toM x) := tu.mono B2.base_tup
  generalize baseOf H2 p A = Hb at *
  refine ⟨_, rfl, p, A.dx, _, rfl, hp2, bN_may, _, rfl, Hb, p, l, x, us, toM x, rfl, ⟨A, ts, ls, B2'⟩, hl, tu, fun H3 R3 => ?_⟩
  cases e : firstBad (toM x) with
  | some r =>
    have em : mayM (.ref l) x (toM x) = (false, { x with stop := some (r.1, [x.pc, r.2]) }) := by
      unfold mayM
      rw [e]
    have ed : deedM x = (("stopped" : Str), { x with stop := some (r.1, [x.pc, r.2]) }) := by
      unfold deedM
      rw [if_neg (fun z => z ⟨h0, h1⟩), if_neg (by omega), if_neg hm0, e]
      rfl
    rw [em] at R3 ⊢
    exact ⟨_, rfl, ifN (fun _ => k1 _ ed _ (R3.unbase bs)) (fun h => by cases h)⟩
  | none =>
    have em : mayM (.ref l) x (toM x) = (true, { x with tv := V.ref l }) := by
      unfold mayM
      rw [e]
    have ed : deedM x = (("deed" : Str), doneM x) := by
      unfold deedM
      rw [if_neg (fun z => z ⟨h0, h1⟩), if_neg (by omega), if_neg hm0, e]
    rw [em] at R3 ⊢
    refine ⟨_, rfl, ifN (fun h => by cases h) (fun _ => ?_)⟩
    have tok := firstBad_ok e
    obtain ⟨A3, ts3, ls3, B3⟩ := R3
    obtain ⟨sv3, tv3, dv3, hp3, hz3⟩ := B3.hp
    have l3 := B3.sm _ _ bl
    have t3 := bt.mono fun t xs e => B3.sm _ _ e
    refine ⟨_, rfl, l, rfl, ⟨_, SqL.of l3⟩, fun D nD => ?_⟩
    refine lc_list (K := K) (a := l) (xs := us) (fun i H' => Same H3 H' ∧ H' D = some (.lst ((readsM x.mem ((toM x).take i)).map V.int))) ⟨same_upd' nD, upd_same⟩ (fun i H' _ h => SqL.of (h.1 _ _ l3)) ?_ ?_
    · rintro j v H' hv ⟨sm, hD⟩
      obtain ⟨q, t, rfl, e1, e2⟩ := TouAt.get t3 hv
      have hq := sm _ _ e2
      have htk : (toM x).take (j + 1) = (toM x).take j ++ [t] := by rw [List.take_succ, e1]; rfl
      obtain ⟨i0, i1⟩ := barM_ok (tok t (List.mem_of_getElem? e1))
      refine ⟨q, _, rfl, SqT.of hq, rfl, _, _, rfl, _, _, rfl, rfl, rfl, ?_⟩
      refine ⟨_, rfl, rfl, _, rfl, ?_⟩
      rw [kS_r]
      obtain ⟨tb, ta⟩ := t
      cases tb with
      | true =>
        refine ifB (fun h => by cases h) (fun _ => ?_)
        refine ⟨sm, ?_⟩
        rw [htk]
        unfold readsM at hD ⊢
        rw [List.filter_append, List.map_append, List.map_append]
        rw [show (List.filter (fun t : Bool × Int => !t.1) [(true, ta)]) = [] from rfl, List.map_nil, List.map_nil, List.append_nil]
        exact hD
      | false =>
        refine ifB (fun _ => ?_) (fun h => by cases h)
        have Bj := B3.same sm
        obtain ⟨svj, tvj, dvj, hpj, hzj⟩ := Bj.hp
        refine ⟨_, rfl, p, CB, A3.dx, _, _, rfl, hpj, T.cB, T.n_memory, bF_mem, A3.m, A3.dm, _, rfl, Bj.hm, mN_read, _, rfl, _, rfl, A3.m, A3.dm, A3.w, A3.s, x.mem, _, _, rfl, Bj.mem, i0, i1, ?_⟩
        refine ⟨_, hD, ?_, same_of sm nD, ?_⟩
        · rw [List.length_map]
          refine small1000 ?_
          unfold readsM
          rw [List.length_map]
          refine Nat.le_trans (List.length_filter_le _ _) ?_
          rw [List.length_take]
          have := (List.getElem?_eq_some_iff.mp e1).1
          have hlen : (toM x).length ≤ 2 := touM_len _ _ _ _
          omega
        · rw [upd_same, htk]
          unfold readsM
          rw [List.filter_append, List.map_append, List.map_append]
          rfl
    · rintro H4 ⟨sm4, hD⟩
      rw [TouAt.len t3, List.take_length] at hD
      have B4 := B3.same sm4
      obtain ⟨sv4, tv4, dv4, hp4, hz4⟩ := B4.hp
      refine ⟨_, rfl, _, .inl ⟨_, SqL.of hD, rfl⟩, ifJ ?_ fun hb hB => ?_⟩
      rotate_left
      · obtain ⟨w0, wr, ew⟩ : ∃ w0 wr, readsM x.mem (toM x) = w0 :: wr := by
          cases ew : readsM x.mem (toM x) with
          | nil => rw [ew] at hb; cases hb
          | cons w0 wr => exact ⟨w0, wr, rfl⟩
        rw [ew] at hD
        have e0 : upd H4 D (.lst (((w0 :: wr).map V.int).set ((0 : Int).toNat) (.int (Builtin.bitXor w0 0)))) = H4 := by
          rw [bitXor_zero]
          exact upd_id hD
        refine ⟨_, rfl, D, _, 0, _, rfl, rfl, SqL.of hD, atI_nat (j := 0) rfl, _, rfl, p, CB, A3.dx, _, _, rfl, hp4, T.cB, T.n_bend, bF_bend, _, _, rfl, rfl, _, rfl, D, _, _, _, rfl, rfl, hD, ixN_in (by decide) (by show (0 : Int) < (((w0 :: wr).map V.int).length : Int); rw [List.length_map, List.length_cons]; omega), ?_⟩
        rw [e0]
        refine ⟨_, rfl, p, CB, A3.dx, _, rfl, hp4, T.cB, T.n_bend, (by show 13 < 1000; decide), ?_⟩
        rw [bP_bend, upd_id hp4]
        exact hB
      refine ⟨_, rfl, _, rfl, p, CB, A3.dx, _, rfl, hp4, T.cB, T.n_did, (by show 13 < 1000; decide), ?_⟩
      rw [bP_did]
      have B5 := B4.fld (z := x.zero) (le := x.lets) (as := x.asleep) (bt := x.beat) (sv := sv4) (la := x.la) (tv := tv4) (dv := .str (nmOf (opM x))) ⟨hz4.1, hz4.2.1, rfl⟩
      have hD5 := hD
      rw [← upd_ne (H := H4) (o := .ins CB A3.dx (bdF A3.r A3.t A3.m A3.l x.zero x.lets x.asleep x.beat sv4 x.la tv4 (.str (nmOf (opM x))))) (ne_of hD hp4 (by intro q; cases q))] at hD5
      generalize upd H4 p (.ins CB A3.dx (bdF A3.r A3.t A3.m A3.l x.zero x.lets x.asleep x.beat sv4 x.la tv4 (.str (nmOf (opM x))))) = H5 at *
      obtain ⟨sv5, tv5, dv5, hp5, hz5⟩ := B5.hp
      refine ⟨_, rfl, _, _, rfl, rfl, _, rfl, p, CB, A3.dx, _, _, rfl, hp5, T.cB, T.n_registers, bF_reg, A3.r, _, rfl, dp (k := Sum.inr "pc") B5.hr rP_pc, ?_⟩
      have B6 := B5.regs (a := x.a) (b := x.b) (pc := x.pc + 1) (sp := x.sp)
      have hD6 := hD5
      rw [← upd_ne (H := H5) (o := .dK (regD x.a x.b (x.pc + 1) x.sp)) (ne_of hD5 B5.hr (by intro q; cases q))] at hD6
      generalize upd H5 A3.r (.dK (regD x.a x.b (x.pc + 1) x.sp)) = H6 at *
      obtain ⟨sv6, tv6, dv6, hp6, hz6⟩ := B6.hp
      refine ⟨_, rfl, aD, nmOf (opM x), _, rfl, rfl, vD (opM x) o1 o2, ?_⟩
      refine ⟨rfl, _, rfl, _, rfl, _, rfl, Hb, p, D, { x with pc := x.pc + 1, tv := V.ref l, dv := .str (nmOf (opM x)) }, xM x, readsM x.mem (toM x), rfl, ⟨A3, ts3, ls3, B6⟩, hD6, nR_ok _ _ _ _ _ h23, (fun t ht => barM_ok (tok t ht)), (by show x.sent.length < 1000000; omega), fun H7 R7 => ?_⟩
      obtain ⟨A7, ts7, ls7, B7⟩ := R7
      obtain ⟨sv7, tv7, dv7, hp7, hz7⟩ := B7.hp
      have l7 := B7.sm _ _ bl
      refine ⟨_, rfl, p, A7.dx, _, rfl, hp7, bN_pass, _, rfl, l, _, rfl, .inl (SqL.of l7), _, _, rfl, rfl, Hb, p, _, 1 + (toM x).length, ?_, ⟨A7, ts7, ls7, B7⟩, ?_, fun H8 R8 => ?_⟩
      · rw [TouAt.len bt]
        simp
      · have hlen : (toM x).length ≤ 2 := touM_len _ _ _ _
        omega
      · exact k2 ed _ (.ref l) ⟨l, us, rfl, f0, R8.sm _ _ bl, bt.mono (fun t xs e => R8.sm _ _ e)⟩ (R8.unbase bs)
abbrev sMturn : Stmt := inClass (topS 75) 5
def scMturnN : List Str := ["self", "coming"]
theorem scMturn : FnScope scMturnN ["self"] (defScope sMturn) := ⟨rfl, rfl, rfl, by decide +kernel, rfl, by decide +kernel, by decide +kernel⟩
theorem ok_Mturn {f : Addr} {fd : FuncData} {fM_begin : Addr} {dM_begin : FuncData} {fM_coming : Addr} {dM_coming : FuncData} {fM_do : Addr} {dM_do : FuncData} {fM_pass : Addr} {dM_pass : FuncData} (F : Fun K "turn" "Board.turn" sMturn f fd) (T : Tx K mg CB CM)
    (M_begin : CalM P w K mg base CB 4 "begin_interrupt" ["self"] (spBegin CB CM) fM_begin dM_begin)
    (M_coming : CalM P w K mg base CB 2 "coming" ["self"] (spComing CB CM) fM_coming dM_coming)
    (M_do : CalM P w K mg base CB 5 "do_deed" ["self"] (spDeed CB CM) fM_do dM_do)
    (M_pass : CalM P w K mg base CB 3 "pass_beats" ["self", "many"] (spPass CB CM) fM_pass dM_pass) : FnOk P w K mg base CX0 6 f fd ["self"] (spTurn CB CM) := by
  refine F.ok scMturn (fun vs H Q E h => by obtain ⟨_, _, _, rfl, _⟩ := h; rfl) (fun cdv A outer s H vs Q E hr h => ?_)
  have hu := hu_of hr
  obtain ⟨H0, p, x, rfl, R, hsl, hpc, k⟩ := h
  obtain ⟨A, ts, ls, B⟩ := R
  obtain ⟨sv, tv, dv, hp, hz⟩ := B.hp
  refine ⟨_, (pss_cons (ps_fld (pv 0) (pe_lst pa_nil) rfl)
    (pss_cons (ps_fld (pv 0) pe_non rfl)
    (pss_cons (ps_set (i := 1) scMturn.nd rfl (.inl rfl) (pe_meth0 (pv 0) M_coming.c M_coming.m M_coming.G (hr.mono (by decide)) M_coming.b .nil pass0))
    (pss_cons (ps_if (pt_cmpR op_eq (pv 1) pe_str (nomark _)) (pss_one (ps_ret (pv 1))) pss_nil)
    (pss_cons (ps_if (pt_cmpR op_eq (pv 1) pe_str (nomark _)) (pss_cons (ps_expr (pe_meth (pv 0) M_pass.c M_pass.m M_pass.G (hr.mono (by decide)) M_pass.b .nil pass0 (pa_cons pe_int pa_nil)))
    (pss_one (ps_ret (pv 1)))) pss_nil)
    (pss_cons (ps_fld (pv 0) pe_bl rfl)
    (pss_cons (ps_if (pt_cmpR op_eq (pv 1) pe_str (nomark _)) (pss_one (ps_ret (pe_meth0 (pv 0) M_begin.c M_begin.m M_begin.G (hr.mono (by decide)) M_begin.b .nil pass0))) pss_nil)
    (pss_one (ps_ret (pe_meth0 (pv 0) M_do.c M_do.m M_do.G (hr.mono (by decide)) M_do.b .nil pass0)))))))))), ?_⟩
  refine ⟨Nat.zero_le _, fun l nl => ?_⟩
  have B1 := B.grow (o := .lst []) nl
  have f0 : H0 l = none := B.sm.free nl
  have bs : Same H0 (upd H0 l (.lst [])) := same_upd' f0
  have hbl : upd H0 l (.lst []) l = some (.lst []) := upd_same
  generalize upd H0 l (.lst []) = Hb at *
  obtain ⟨sv1, tv1, dv1, hp1, hz1⟩ := B1.hp
  refine ⟨_, rfl, p, CB, A.dx, _, rfl, hp1, T.cB, T.n_touched, (by show 13 < 1000; decide), ?_⟩
  rw [bP_tou]
  have B2 := B1.fld (z := x.zero) (le := x.lets) (as := x.asleep) (bt := x.beat) (sv := sv1) (la := x.la) (tv := .ref l) (dv := dv1) ⟨hz1.1, rfl, hz1.2.2⟩
  obtain ⟨sv2, tv2, dv2, hp2, hz2⟩ := B2.hp
  obtain rfl : tv2 = .ref l := hz2.2.1
  refine ⟨_, rfl, p, CB, A.dx, _, rfl, hp2, T.cB, T.n_did, (by show 13 < 1000; decide), ?_⟩
  rw [bP_did]
  have B3 := B2.fld (z := x.zero) (le := x.lets) (as := x.asleep) (bt := x.beat) (sv := sv2) (la := x.la) (tv := .ref l) (dv := .non) ⟨hz2.1, rfl, rfl⟩
  obtain ⟨sv3, tv3, dv3, hp3, hz3⟩ := B3.hp
  generalize upd (upd (upd H l (.lst [])) p _) p _ = H3 at *
  have B3 : Bp CB CM Hb H3 p A ts ls (x.tvd (.ref l) .non) := B3
  refine ⟨_, rfl, p, A.dx, _, rfl, hp3, bN_coming, Hb, p, x.tvd (.ref l) .non, rfl, ⟨A, ts, ls, B3⟩, ?_⟩
  have tou0 : ∀ {H' : Hp}, Same Hb H' → TouV H0 H' (.ref l) [] := fun s => ⟨l, [], rfl, f0, s _ _ hbl, .nil⟩
  have ec : comingM (x.tvd (.ref l) .non) = comingM x := rfl
  rw [ec]
  unfold touT didV at k
  unfold comingM
  by_cases c1 : x.stop ≠ none
  · have et : turnM x = (("stopped" : Str), x) := by
      unfold turnM
      rw [if_pos c1]
    rw [et, if_neg n_sd, if_neg n_si, if_neg n_sd] at k
    rw [if_pos c1]
    exact ⟨_, rfl, rfl, _, rfl, ifB (fun _ => ⟨_, rfl, k _ _ (tou0 B3.sm) (BoardAt.unbase bs ⟨A, ts, ls, B3⟩)⟩) (fun h => absurd rfl (of_decide_eq_false h))⟩
  · rw [if_neg c1]
    by_cases c2 : x.asleep = true ∧ calledM x = 0
    · have et : turnM x = (("asleep" : Str), passM 1 x) := by
        unfold turnM
        rw [if_neg c1, if_pos c2]
      rw [et, if_neg n_ad, if_neg n_ai, if_neg n_ad] at k
      rw [if_pos c2]
      refine ⟨_, rfl, rfl, _, rfl, ifB (fun h => absurd (V.str.inj (of_decide_eq_true h)) (by decide +kernel)) (fun _ => ?_)⟩
      refine ⟨_, rfl, rfl, _, rfl, ifB (fun _ => ?_) (fun h => absurd rfl (of_decide_eq_false h))⟩
      exact ⟨_, rfl, p, A.dx, _, rfl, hp3, bN_pass, Hb, p, x.tvd (.ref l) .non, 1, rfl, ⟨A, ts, ls, B3⟩, by decide, fun H4 R4 => ⟨_, rfl, k _ _ (tou0 R4.sm) (by
        have R5 := R4.unbase bs
        rw [tvd_pass] at R5
        exact R5)⟩⟩
    · rw [if_neg c2]
      have B4 := B3.fld (z := x.zero) (le := x.lets) (as := false) (bt := x.beat) (sv := sv3) (la := x.la) (tv := tv3) (dv := dv3) hz3
      obtain ⟨sv4, tv4, dv4, hp4, hz4⟩ := B4.hp
      by_cases c3 : x.lets = true ∧ calledM x ≠ 0
      · have et : turnM x = intM { x with asleep := false } := by
          unfold turnM
          rw [if_neg c1, if_neg c2, if_pos c3]
        rw [et] at k
        rw [if_pos c3]
        refine ⟨_, rfl, rfl, _, rfl, ifB (fun h => absurd (V.str.inj (of_decide_eq_true h)) (by decide +kernel)) (fun _ => ?_)⟩
        refine ⟨_, rfl, rfl, _, rfl, ifB (fun h => absurd (V.str.inj (of_decide_eq_true h)) (by decide +kernel)) (fun _ => ?_)⟩
        refine ⟨_, rfl, p, CB, A.dx, _, rfl, hp3, T.cB, T.n_asleep, (by show 13 < 1000; decide), ?_⟩
        rw [bP_asleep]
        refine ⟨_, rfl, rfl, _, rfl, ifB (fun _ => ?_) (fun h => absurd rfl (of_decide_eq_false h))⟩
        have ei := tvd_int { x with asleep := false } (.ref l) .non
        refine ⟨_, rfl, p, A.dx, _, rfl, hp4, bN_begin, Hb, p, Bd.tvd { x with asleep := false } (.ref l) .non, rfl, ⟨A, ts, ls, B4⟩, hsl, fun y ey H' R' => ?_, fun ey H' T tu R' => ?_⟩
        · rw [ei] at ey
          have e1 : (intM { x with asleep := false }).1 = "stopped" := congrArg Prod.fst ey
          have e2 : (intM { x with asleep := false }).2.tvd (.ref l) .non = y := congrArg Prod.snd ey
          rw [e1, if_neg n_sd, if_neg n_si, if_neg n_sd] at k
          refine k _ _ (tou0 R'.sm) ?_
          rw [e2]
          exact R'.unbase bs
        · rw [ei] at ey
          have e1 : (intM { x with asleep := false }).1 = "interrupt" := congrArg Prod.fst ey
          have e2 : (intM { x with asleep := false }).2.tvd (.ref l) .non = (begunM { x with asleep := false }).tvd (.ref l) .non := (congrArg Prod.snd ey).trans (tvd_begun { x with asleep := false } (.ref l) .non)
          rw [e1, if_neg n_id, if_pos rfl, if_neg n_id] at k
          obtain ⟨tl, us, rfl, tf, th, tt⟩ := tu
          refine k _ _ ⟨tl, us, rfl, bs.free tf, th, tt⟩ ?_
          have R5 := R'.unbase bs
          have e3 : begunM { Bd.tvd { x with asleep := false } (.ref l) .non with tv := V.ref tl } = (begunM { x with asleep := false }).tvd (.ref tl) .non := tvd_begun { x with asleep := false } (.ref tl) .non
          rw [e3] at R5
          have e4 : (intM { x with asleep := false }).2.tvd (.ref tl) .non = (begunM { x with asleep := false }).tvd (.ref tl) .non := by
            have h4 := congrArg (fun z : Bd => z.tvd (.ref tl) .non) e2
            exact h4
          rw [e4]
          exact R5
      · have et : turnM x = deedM { x with asleep := false } := by
          unfold turnM
          rw [if_neg c1, if_neg c2, if_neg c3]
        rw [et] at k
        rw [if_neg c3]
        refine ⟨_, rfl, rfl, _, rfl, ifB (fun h => absurd (V.str.inj (of_decide_eq_true h)) (by decide +kernel)) (fun _ => ?_)⟩
        refine ⟨_, rfl, rfl, _, rfl, ifB (fun h => absurd (V.str.inj (of_decide_eq_true h)) (by decide +kernel)) (fun _ => ?_)⟩
        refine ⟨_, rfl, p, CB, A.dx, _, rfl, hp3, T.cB, T.n_asleep, (by show 13 < 1000; decide), ?_⟩
        rw [bP_asleep]
        refine ⟨_, rfl, rfl, _, rfl, ifB (fun h => absurd (V.str.inj (of_decide_eq_true h)) (by decide +kernel)) (fun _ => ?_)⟩
        have ei := tvd_deed { x with asleep := false } (.ref l) .non
        refine ⟨_, rfl, p, A.dx, _, rfl, hp4, bN_do, Hb, p, Bd.tvd { x with asleep := false } (.ref l) .non, rfl, ⟨A, ts, ls, B4⟩, hsl, hpc, fun y ey H' R' => ?_, fun ey H' T tu R' => ?_⟩
        · rw [ei] at ey
          have e1 : (deedM { x with asleep := false }).1 = "stopped" := congrArg Prod.fst ey
          have e2 : (deedM { x with asleep := false }).2.tvd (.ref l) .non = y := congrArg Prod.snd ey
          rw [e1, if_neg n_sd, if_neg n_si, if_neg n_sd] at k
          refine k _ _ (tou0 R'.sm) ?_
          rw [e2]
          exact R'.unbase bs
        · rw [ei] at ey
          have e1 : (deedM { x with asleep := false }).1 = "deed" := congrArg Prod.fst ey
          have e2 : (deedM { x with asleep := false }).2.tvd (.ref l) .non = (doneM { x with asleep := false }).tvd (.ref l) .non := (congrArg Prod.snd ey).trans (tvd_done { x with asleep := false } (.ref l) .non)
          rw [e1, if_pos rfl, if_pos rfl] at k
          obtain ⟨tl, us, rfl, tf, th, tt⟩ := tu
          refine k _ _ ⟨tl, us, rfl, bs.free tf, th, tt⟩ ?_
          have R5 := R'.unbase bs
          have e3 : doneM { Bd.tvd { x with asleep := false } (.ref l) .non with tv := V.ref tl, dv := .str (nmOf (opM x)) } = (doneM { x with asleep := false }).tvd (.ref tl) (.str (nmOf (opM x))) := tvd_done { x with asleep := false } (.ref tl) (.str (nmOf (opM x)))
          have R5 : BoardAt CB CM H0 H' p (doneM { Bd.tvd { x with asleep := false } (.ref l) .non with tv := V.ref tl, dv := .str (nmOf (opM x)) }) := R5
          rw [e3] at R5
          have e4 : (deedM { x with asleep := false }).2.tvd (.ref tl) (.str (nmOf (opM x))) = (doneM { x with asleep := false }).tvd (.ref tl) (.str (nmOf (opM x))) := by
            have h4 := congrArg (fun z : Bd => z.tvd (.ref tl) (.str (nmOf (opM x)))) e2
            exact h4
          rw [e4]
          exact R5
end
end Bh

/-! A board is made. -/
namespace Bh
open PySem PySem.Spec PyProof.Rows L2
def newBd (ns : List Int) (ls : List (Int × Int)) : Bd := { a := 0, b := 0, pc := 0, sp := 767, zero := false, lets := false, asleep := false, beat := 0, sent := [], mem := memOf ns, line := ls, la := 0, stop := none, tv := .non, dv := .non, ma := 0, sa := 0 }
def spBI (CB CM : Addr) : Sp := fun vs H Q _ => ∃ (H0 : Hp) (p dx im ln : Addr) (us : List V) (ns : List Int) (ls : List (Int × Int)), vs = [.ref p, .ref im, .ref ln] ∧ Same H0 H ∧ H0 p = none ∧ H p = some (.ins CB dx []) ∧ H im = some (.lst (ns.map V.int)) ∧ ns.length ≤ 512 ∧ WordsOk ns ∧
  H ln = some (.lst us) ∧ TupsAt H us ls ∧ riseM 0 ls ∧ ∀ H' T m s, BoardAt CB CM H0 H' p { newBd ns ls with tv := T, ma := m, sa := s } → Q .non H'
def spFirst : Sp := fun vs H Q _ => vs = [] ∧ ∀ (H' : Hp) (r : Addr), Same H H' → H r = none → H' r = some (.dK (regD 0 0 0 767)) → Q (.ref r) H'
theorem pull {Hb H1 : Hp} {p : Addr} {o : HO} (s : Same (upd Hb p o) H1) (f : Hb p = none) : ∃ Hb1, H1 = upd Hb1 p o ∧ Same Hb Hb1 ∧ Hb1 p = none := by
  refine ⟨fun b => if b = p then none else H1 b, ?_, ?_, if_pos rfl⟩
  · funext b
    by_cases h : b = p
    · subst h
      rw [upd_same]
      exact s _ _ upd_same
    · rw [upd_ne h]
      exact (if_neg h).symm
  · intro b x e
    have h : b ≠ p := ne_of_none e f
    show (if b = p then none else H1 b) = some x
    rw [if_neg h]
    exact s _ _ (by rw [upd_ne h]; exact e)
theorem newp {Hb : Hp} {p r : Addr} {o o' : HO} (f : Hb p = none) (n : upd Hb p o r = none) : ∃ Hb1, upd (upd Hb p o) r o' = upd Hb1 p o ∧ Same Hb Hb1 ∧ Hb1 p = none ∧ Hb1 r = some o' ∧ Hb r = none ∧ r ≠ p := by
  obtain ⟨Hb1, e, s, f1⟩ := pull (same_upd' (o := o') n) f
  have rp : r ≠ p := fun z => by rw [z, upd_same] at n; cases n
  refine ⟨Hb1, e, s, f1, ?_, ?_, rp⟩
  · have := congrFun e r
    rw [upd_same, upd_ne rp] at this
    exact this.symm
  · rw [upd_ne rp] at n
    exact n
section
variable {P : Program} {w : World} {K : PySem.W.Frag} {mg : Str → Option Value} {base : Heap} {CB CM : Addr}
abbrev sFfirst : Stmt := topS 74
def scFfirstN : List Str := []
theorem scFfirst : FnScope scFfirstN [] (defScope sFfirst) := ⟨rfl, rfl, rfl, by decide +kernel, rfl, by decide +kernel, by decide +kernel⟩
theorem ok_Ffirst {f : Addr} {fd : FuncData} (F : Fun K "first_registers" "first_registers" sFfirst f fd) (T : Tx K mg CB CM) : FnOk P w K mg base CX0 1 f fd [] (spFirst) := by
  refine F.ok scFfirst (fun vs H Q E h => by obtain ⟨rfl, _⟩ := h; rfl) (fun cdv A outer s H vs Q E hr h => ?_)
  have hu := hu_of hr
  obtain ⟨t_STACK_TOP, g_STACK_TOP⟩ := T.g_STACK_TOP
  obtain ⟨rfl, q⟩ := h
  refine ⟨_, (pss_one (ps_ret (pe_disp (pps_cons pe_str pe_int (pps_cons pe_str pe_int (pps_cons pe_str pe_int (pps_cons pe_str (pgI g_STACK_TOP) pps_nil)))) rfl rfl (by intro h; cases h) (by decide)))), ?_⟩
  intro r nr
  refine ⟨upd_same, [(Sum.inr "a", .int 0), (Sum.inr "b", .int 0), (Sum.inr "pc", .int 0), (Sum.inr "sp", .int 767)], rfl, (by decide), ?_⟩
  have em : mergeK [] [((Sum.inr "a" : Key), V.int 0), (Sum.inr "b", .int 0), (Sum.inr "pc", .int 0), (Sum.inr "sp", .int 767)] = regD 0 0 0 767 := by kernel_rfl
  rw [em, upd_upd]
  exact q _ r (same_upd' nr) nr upd_same
abbrev sCboard : Stmt := inClass (topS 75) 0
def scCboardN : List Str := ["self", "image", "line"]
theorem scCboard : FnScope scCboardN ["self", "image", "line"] (defScope sCboard) := ⟨rfl, rfl, rfl, by decide +kernel, rfl, by decide +kernel, by decide +kernel⟩
theorem ok_Cboard {f : Addr} {fd : FuncData} {fC_mem : Addr} {dC_mem : FuncData} {fF_first : Addr} {dF_first : FuncData} {fF_image : Addr} {dF_image : FuncData} {fF_line : Addr} {dF_line : FuncData} (F : Fun K "__init__" "Board.__init__" sCboard f fd) (T : Tx K mg CB CM)
    (C_mem : CalC P w K mg base CM 1 "Memory" ["self", "image"] (spMI CM) fC_mem dC_mem)
    (F_first : CalF P w K mg base 1 "first_registers" [] (spFirst) fF_first dF_first)
    (F_image : CalF P w K mg base 4 "is_image" ["thing"] (spImg) fF_image dF_image)
    (F_line : CalF P w K mg base 4 "is_line" ["thing"] (spLine) fF_line dF_line) : FnOk P w K mg base CX0 6 f fd ["self", "image", "line"] (spBI CB CM) := by
  refine F.ok scCboard (fun vs H Q E h => by obtain ⟨_, _, _, _, _, _, _, _, rfl, _⟩ := h; rfl) (fun cdv A outer s H vs Q E hr h => ?_)
  have hu := hu_of hr
  have z_list := T.z_list
  obtain ⟨H0, p, dx, im, ln, us, ns, ls, rfl, s0, f0, hp, him, hl, hw, hln, htu, hri, k⟩ := h
  refine ⟨_, (pss_cons (ps_if (PW.pt (pw_or (pt_not (pt_val (pe_call F_image.G (hr.mono (by decide)) (by rfl) F_image.g F_image.kp F_image.b .nil pass0 (pa_cons (pv 1) pa_nil)))) (pw_or1 (pt_not (pt_val (pe_call F_line.G (hr.mono (by decide)) (by rfl) F_line.g F_line.kp F_line.b .nil pass0 (pa_cons (pv 2) pa_nil))))))) (pss_one ps_never) pss_nil)
    (pss_cons (ps_fld (pv 0) (pe_call0 F_first.G (hr.mono (by decide)) (by rfl) F_first.g F_first.kp F_first.b .nil pass0) rfl)
    (pss_cons (ps_fld (pv 0) pe_bl rfl)
    (pss_cons (ps_fld (pv 0) pe_bl rfl)
    (pss_cons (ps_fld (pv 0) pe_bl rfl)
    (pss_cons (ps_fld (pv 0) pe_int rfl)
    (pss_cons (ps_fld (pv 0) pe_non rfl)
    (pss_cons (ps_fld (pv 0) (pe_lst pa_nil) rfl)
    (pss_cons (ps_fld (pv 0) (pe_make C_mem.M C_mem.I (hr.mono (by decide)) rfl C_mem.g C_mem.b .nil pass0 (pa_cons (pv 1) pa_nil)) rfl)
    (pss_cons (ps_fld (pv 0) (pe_callTy call_list_of (by rfl) z_list (by decide +kernel) (pa_cons (pv 2) pa_nil)) rfl)
    (pss_cons (ps_fld (pv 0) pe_int rfl)
    (pss_cons (ps_fld (pv 0) (pe_lst pa_nil) rfl)
    (pss_cons (ps_fld (pv 0) pe_non rfl)
    (pss_one (ps_fld (pv 0) pe_int rfl))))))))))))))), ?_⟩
  have ne1 : im ≠ p := ne_of him hp (by intro q; cases q)
  have ne2 : ln ≠ p := ne_of hln hp (by intro q; cases q)
  obtain ⟨Hb, eH, sb, fb⟩ : ∃ Hb, H = upd Hb p (.ins CB dx []) ∧ Same H0 Hb ∧ Hb p = none := by
    refine ⟨fun b => if b = p then none else H b, ?_, ?_, if_pos rfl⟩
    · funext b
      by_cases h : b = p
      · subst h
        rw [upd_same]
        exact hp
      · rw [upd_ne h]
        exact (if_neg h).symm
    · intro b x e
      have h : b ≠ p := ne_of_none e f0
      show (if b = p then none else H b) = some x
      rw [if_neg h]
      exact s0 _ _ e
  subst eH
  rw [upd_ne ne1] at him
  rw [upd_ne ne2] at hln
  have htu : TupsAt Hb us ls := htu.mono fun t xs e => by
    rw [upd_ne (ne_of e hp (by intro q; cases q))] at e
    exact e
  refine ⟨_, rfl, im, ns, rfl, (by rw [upd_ne ne1]; exact him), hl, hw, fun H1 s1 => ?_⟩
  obtain ⟨Hb1, rfl, sb1, fb1⟩ := pull s1 fb
  refine ⟨_, rfl, ifN (fun h => by cases h) (fun _ => ?_)⟩
  refine ⟨_, rfl, ln, us, ls, rfl, (by rw [upd_ne ne2]; exact sb1 _ _ hln), htu.mono (fun t xs e => ?_), hri, ?_⟩
  · have tp : t ≠ p := fun z => by rw [z, fb] at e; cases e
    rw [upd_ne tp]
    exact sb1 _ _ e
  refine ⟨_, rfl, ifN (fun h => by cases h) (fun _ => ?_)⟩
  have sB1 := sb.trans sb1
  have him1 := sb1 _ _ him
  have hln1 := sb1 _ _ hln
  have htu1 : TupsAt Hb1 us ls := htu.mono fun t xs e => sb1 _ _ e
  clear hln htu him s1 sb1 sb s0 hp
  refine ⟨rfl, fun H2 r s2' fr hr => ?_⟩
  obtain ⟨Hb3, rfl, s3, fb3⟩ := pull s2' fb1
  have rp : r ≠ p := fun z => by rw [z, upd_same] at fr; cases fr
  rw [upd_ne rp] at fr hr
  have fr0 := fr
  have hr3 := hr
  refine ⟨_, rfl, p, CB, dx, _, rfl, upd_same, T.cB, T.n_registers, (by show 0 < 1000; decide), ?_⟩
  rw [upd_upd]
  refine ⟨_, rfl, p, CB, dx, _, rfl, upd_same, T.cB, T.n_zero, (by show 1 < 1000; decide), ?_⟩
  rw [upd_upd]
  refine ⟨_, rfl, p, CB, dx, _, rfl, upd_same, T.cB, T.n_lets, (by show 2 < 1000; decide), ?_⟩
  rw [upd_upd]
  refine ⟨_, rfl, p, CB, dx, _, rfl, upd_same, T.cB, T.n_asleep, (by show 3 < 1000; decide), ?_⟩
  rw [upd_upd]
  refine ⟨_, rfl, p, CB, dx, _, rfl, upd_same, T.cB, T.n_beat, (by show 4 < 1000; decide), ?_⟩
  rw [upd_upd]
  refine ⟨_, rfl, p, CB, dx, _, rfl, upd_same, T.cB, T.n_stopped, (by show 5 < 1000; decide), ?_⟩
  rw [upd_upd]
  refine ⟨Nat.zero_le _, fun t nt => ?_⟩
  obtain ⟨Hb4, e4, s4, fb4, ht4, ft0, tp⟩ := newp (o' := .lst []) fb3 nt
  rw [e4]
  refine ⟨_, rfl, p, CB, dx, _, rfl, upd_same, T.cB, T.n_sent, (by show 6 < 1000; decide), ?_⟩
  rw [upd_upd]
  refine ⟨_, rfl, ?_⟩
  intro m dm nm ndm ndmm
  have mp : m ≠ p := fun z => by rw [z, upd_same] at nm; cases nm
  rw [upd_ne mp] at nm
  have dmp : dm ≠ p := fun z => by rw [z, upd_same] at ndm; cases ndm
  rw [upd_ne dmp] at ndm
  have him4 := s4 _ _ (s3 _ _ him1)
  have imm : im ≠ m := ne_of_none him4 nm
  have imd : im ≠ dm := ne_of_none him4 ndm
  refine ⟨m, dm, im, ns, rfl, upd_same, (by rw [upd_ne imm, upd_ne imd, upd_ne ne1]; exact him4), hl, fun H5 w_ s_ M5 fr5 fw5 fs5 => ⟨rfl, ?_⟩⟩
  have kp : ∀ b o, Hb4 b = some o → H5 b = some o := fun b o e => fr5 b o (ne_of_none e nm) (by
    rw [upd_ne (ne_of_none e nm), upd_ne (ne_of_none e ndm), upd_ne (ne_of_none e fb4)]
    exact e)
  have hp5 : ∃ fs, H5 p = some (.ins CB dx fs) ∧ fs = ([("registers", .ref r), ("zero", .bl false), ("lets", .bl false), ("asleep", .bl false), ("beat", .int 0), ("stopped", .non), ("sent", .ref t)] : List (Str × V)) := by
    refine ⟨_, fr5 p _ mp.symm (by rw [upd_ne mp.symm, upd_ne dmp.symm]; exact upd_same), ?_⟩
    kernel_rfl
  obtain ⟨fs, hp5, efs⟩ := hp5
  have wp : w_ ≠ p := fun z => by
    rw [z, upd_ne mp.symm, upd_ne dmp.symm, upd_same] at fw5
    cases fw5
  have wm : w_ ≠ m := ne_of M5.hw M5.hm (by intro q; cases q)
  have wd : w_ ≠ dm := fun z => by
    rw [z, upd_ne ndmm, upd_same] at fw5
    cases fw5
  have fw4 : Hb4 w_ = none := by rw [upd_ne wm, upd_ne wd, upd_ne wp] at fw5; exact fw5
  have sp_ : s_ ≠ p := fun z => by
    rw [z, upd_ne mp.symm, upd_ne dmp.symm, upd_same] at fs5
    cases fs5
  have sm_ : s_ ≠ m := ne_of M5.hs M5.hm (by intro q; cases q)
  have sd_ : s_ ≠ dm := fun z => by
    rw [z, upd_ne ndmm, upd_same] at fs5
    cases fs5
  have fs4 : Hb4 s_ = none := by rw [upd_ne sm_, upd_ne sd_, upd_ne sp_] at fs5; exact fs5
  obtain ⟨Hb5, rfl, kp5, fb5⟩ : ∃ Hb5 : Hp, H5 = upd Hb5 p (.ins CB dx fs) ∧ Same Hb4 Hb5 ∧ Hb5 p = none := by
    refine ⟨fun b => if b = p then none else H5 b, ?_, ?_, if_pos rfl⟩
    · funext b
      by_cases h : b = p
      · subst h
        rw [upd_same]
        exact hp5
      · rw [upd_ne h]
        exact (if_neg h).symm
    · intro b x e
      show (if b = p then none else H5 b) = some x
      rw [if_neg (ne_of_none e fb4)]
      exact kp _ _ e
  have hm5 : Hb5 m = some (.ins CM dm (mmF w_ s_)) := by have := M5.hm; rw [upd_ne mp] at this; exact this
  have hw5 : Hb5 w_ = some (.lst ((memOf ns).map V.int)) := by have := M5.hw; rw [upd_ne wp] at this; exact this
  have hs5 : Hb5 s_ = some (.dK []) := by have := M5.hs; rw [upd_ne sp_] at this; exact this
  have lm5 := M5.lm
  clear M5 fr5 kp hp5
  subst efs
  refine ⟨_, rfl, p, CB, dx, _, rfl, upd_same, T.cB, T.n_memory, (by show 7 < 1000; decide), ?_⟩
  rw [upd_upd]
  refine ⟨_, rfl, ln, us, rfl, .inl (SqL.of (by rw [upd_ne ne2]; exact kp5 _ _ (s4 _ _ (s3 _ _ hln1)))), fun l nl => ?_⟩
  obtain ⟨Hb6, e6, s6, fb6, hl6, fl0, lp⟩ := newp (o' := .lst us) fb5 nl
  rw [e6]
  refine ⟨_, rfl, p, CB, dx, _, rfl, upd_same, T.cB, T.n_line, (by show 8 < 1000; decide), ?_⟩
  rw [upd_upd]
  refine ⟨_, rfl, p, CB, dx, _, rfl, upd_same, T.cB, T.n_line_at, (by show 9 < 1000; decide), ?_⟩
  rw [upd_upd]
  refine ⟨Nat.zero_le _, fun q nq => ?_⟩
  obtain ⟨Hb7, e7, s7, fb7, hq7, -, qp⟩ := newp (o' := .lst []) fb6 nq
  rw [e7]
  refine ⟨_, rfl, p, CB, dx, _, rfl, upd_same, T.cB, T.n_touched, (by show 10 < 1000; decide), ?_⟩
  rw [upd_upd]
  refine ⟨_, rfl, p, CB, dx, _, rfl, upd_same, T.cB, T.n_did, (by show 11 < 1000; decide), ?_⟩
  rw [upd_upd]
  refine ⟨_, rfl, p, CB, dx, _, rfl, upd_same, T.cB, T.n_bend, (by show 12 < 1000; decide), ?_⟩
  rw [upd_upd]
  have s57 := s6.trans s7
  have s47 := kp5.trans s57
  have s17 : Same Hb1 Hb7 := (s3.trans s4).trans s47
  have hmh : Hb7 m = some (.ins CM dm (mmF w_ s_)) := s57 _ _ hm5
  refine k _ (.ref q) m s_ ⟨⟨dx, r, m, dm, w_, s_, t, l⟩, [], us, ?_⟩
  exact {
    sm := fun b x e => by
      rw [upd_ne (ne_of_none e f0)]
      exact s17 _ _ (sB1 _ _ e)
    fp := f0
    fr := sB1.free fr0
    fw := sB1.free ((s3.trans s4).free fw4)
    ft := sB1.free (s3.free ft0)
    fm := sB1.free ((s3.trans s4).free nm)
    fs := sB1.free ((s3.trans s4).free fs4)
    fl := sB1.free (s3.free (s4.free (kp5.free fl0)))
    hp := ⟨.non, .ref q, .non, (by rw [upd_same]; exact congrArg (fun z => some (HO.ins CB dx z)) (by kernel_rfl)), rfl, rfl, rfl⟩
    am := rfl
    as := rfl
    hr := by rw [upd_ne rp]; exact s47 _ _ (s4 _ _ hr3)
    hm := by rw [upd_ne mp]; exact hmh
    hw := by rw [upd_ne wp]; exact s57 _ _ hw5
    hs := by rw [upd_ne sp_]; exact s57 _ _ hs5
    ht := by rw [upd_ne tp]; exact s47 _ _ ht4
    hl := by rw [upd_ne lp]; exact s7 _ _ hl6
    pm := mp.symm
    rs := fun (z : r = s_) => by
      have h1 := s4 _ _ hr3
      rw [z, fs4] at h1
      cases h1
    wt := fun (z : w_ = t) => by rw [z, ht4] at fw4; cases fw4
    wl := fun (z : w_ = l) => by rw [← z, hw5] at fl0; cases fl0
    tl := fun (z : t = l) => by
      have h1 := kp5 _ _ ht4
      rw [z, fl0] at h1
      cases h1
    us := .nil
    ll := htu1.mono fun u xs e => by
      have up : u ≠ p := ne_of_none e fb1
      rw [upd_ne up]
      exact s17 _ _ e
    lm := lm5 }
end
end Bh

/-! Own things of several: what a call may change; a probe in plain words and in the heap. -/
namespace Bh
open PySem PySem.Spec PyProof.Rows L2
/-- a call may change what stands in F, and lay new things -/
structure Fr (F : Addr → Prop) (H : Hp) (F' : Addr → Prop) (H' : Hp) : Prop where
  keep : ∀ b o, ¬ F b → H b = some o → H' b = some o
  new : ∀ b, F' b → F b ∨ H b = none
theorem Fr.trans {F F' F'' : Addr → Prop} {H H' H'' : Hp} (a : Fr F H F' H') (b : Fr F' H' F'' H'') : Fr F H F'' H'' where
  keep := fun c o n e => b.keep c o (fun z => by
    rcases a.new c z with h | h
    · exact n h
    · rw [h] at e; cases e) (a.keep c o n e)
  new := fun c z => by
    rcases b.new c z with h | h
    · exact a.new c h
    · by_cases y : F c
      · exact .inl y
      · refine .inr ?_
        cases e : H c with
        | none => rfl
        | some o => rw [a.keep c o y e] at h; cases h
theorem Fr.of_same {F : Addr → Prop} {H H' : Hp} (s : Same H H') : Fr F H F H' := ⟨fun b o _ e => s b o e, fun _ z => .inl z⟩
theorem Fr.rfl' {F : Addr → Prop} {H : Hp} : Fr F H F H := ⟨fun _ _ _ e => e, fun _ z => .inl z⟩
theorem Fr.sub {F F' G : Addr → Prop} {H H' : Hp} (a : Fr F H F' H') (s : ∀ b, F b → G b) : Fr G H (fun b => F' b ∨ G b) H' where
  keep := fun b o n e => a.keep b o (fun z => n (s b z)) e
  new := fun b z => by
    rcases z with z | z
    · rcases a.new b z with h | h
      · exact .inl (s b h)
      · exact .inr h
    · exact .inl z
/-- what is kept for good stays so -/
theorem Fr.st {S H H' : Hp} {F F' : Addr → Prop} (a : Fr F H F' H') (s : Same S H) (d : ∀ b, F b → S b = none) : Same S H' := fun b o e =>
  a.keep b o (fun z => by rw [d b z] at e; cases e) (s b o e)
theorem Fr.stn {S H H' : Hp} {F F' : Addr → Prop} (a : Fr F H F' H') (s : Same S H) (d : ∀ b, F b → S b = none) : ∀ b, F' b → S b = none := fun b z => by
  rcases a.new b z with h | h
  · exact d b h
  · exact s.free h
def EmpH : Hp := fun _ => none
theorem emp_same (H : Hp) : Same EmpH H := fun _ _ e => by cases e
def FtB (p : Addr) (A : Ad) (b : Addr) : Prop := b = p ∨ b = A.r ∨ b = A.w ∨ b = A.t ∨ b = A.m ∨ b = A.s ∨ b = A.l
/-- a board by itself -/
abbrev BdOn (CB CM : Addr) (H : Hp) (p : Addr) (A : Ad) (ts ls : List V) (x : Bd) : Prop := Bp CB CM EmpH H p A ts ls x
theorem base_none {H : Hp} {p : Addr} {A : Ad} {b : Addr} (h : FtB p A b) : baseOf H p A b = none := if_pos h
theorem base_some {H : Hp} {p : Addr} {A : Ad} {b : Addr} (h : ¬ FtB p A b) : baseOf H p A b = H b := if_neg h
theorem Bp.foot {CB CM p : Addr} {H0 H : Hp} {A : Ad} {ts ls : List V} {x : Bd} (B : Bp CB CM H0 H p A ts ls x) : ∀ b, FtB p A b → H0 b = none := fun b h => by
  rcases h with h | h | h | h | h | h | h <;> rw [h]
  · exact B.fp
  · exact B.fr
  · exact B.fw
  · exact B.ft
  · exact B.fm
  · exact B.fs
  · exact B.fl
theorem Bp.solid {CB CM p : Addr} {H0 H : Hp} {A : Ad} {ts ls : List V} {x : Bd} (B : Bp CB CM H0 H p A ts ls x) : ∀ b, FtB p A b → ∃ o, H b = some o ∧ ∀ xs, o ≠ .tup xs := fun b h => by
  obtain ⟨sv, tv, dv, hp, _⟩ := B.hp
  rcases h with h | h | h | h | h | h | h <;> rw [h]
  · exact ⟨_, hp, fun xs z => by cases z⟩
  · exact ⟨_, B.hr, fun xs z => by cases z⟩
  · exact ⟨_, B.hw, fun xs z => by cases z⟩
  · exact ⟨_, B.ht, fun xs z => by cases z⟩
  · exact ⟨_, B.hm, fun xs z => by cases z⟩
  · exact ⟨_, B.hs, fun xs z => by cases z⟩
  · exact ⟨_, B.hl, fun xs z => by cases z⟩
theorem Bp.weak {CB CM p : Addr} {H0 H : Hp} {A : Ad} {ts ls : List V} {x : Bd} (B : Bp CB CM H0 H p A ts ls x) : BdOn CB CM H p A ts ls x :=
  { B with sm := emp_same H, fp := rfl, fr := rfl, fw := rfl, ft := rfl, fm := rfl, fs := rfl, fl := rfl }
/-- what a method of a board did, told by itself -/
theorem BoardAt.fr {CB CM p : Addr} {H H' : Hp} {A : Ad} {y : Bd} (R : BoardAt CB CM (baseOf H p A) H' p y) : ∃ A' ts' ls', BdOn CB CM H' p A' ts' ls' y ∧ Fr (FtB p A) H (FtB p A') H' := by
  obtain ⟨A', ts', ls', B⟩ := R
  refine ⟨A', ts', ls', B.weak, fun b o n e => B.sm b o ((base_some n).trans e), fun b z => ?_⟩
  by_cases y : FtB p A b
  · exact .inl y
  · exact .inr ((base_some y).symm.trans (B.foot b z))
/-- it stands where the others' changes leave it -/
theorem Bp.keep {CB CM p : Addr} {H H' : Hp} {A : Ad} {ts ls : List V} {x : Bd} (B : BdOn CB CM H p A ts ls x) (k : ∀ b o, FtB p A b → H b = some o → H' b = some o) (t : ∀ b xs, H b = some (.tup xs) → H' b = some (.tup xs)) : BdOn CB CM H' p A ts ls x := by
  obtain ⟨sv, tv, dv, hp, hz⟩ := B.hp
  exact { B with
    sm := emp_same H'
    hp := ⟨sv, tv, dv, k _ _ (.inl rfl) hp, hz.mono t⟩
    hr := k _ _ (.inr (.inl rfl)) B.hr
    hw := k _ _ (.inr (.inr (.inl rfl))) B.hw
    ht := k _ _ (.inr (.inr (.inr (.inl rfl)))) B.ht
    hm := k _ _ (.inr (.inr (.inr (.inr (.inl rfl))))) B.hm
    hs := k _ _ (.inr (.inr (.inr (.inr (.inr (.inl rfl)))))) B.hs
    hl := k _ _ (.inr (.inr (.inr (.inr (.inr (.inr rfl)))))) B.hl
    us := B.us.mono t
    ll := B.ll.mono t }
/-! ### lists of triples -/
def T3At (H : Hp) : List V → List (Int × Int × Str) → Prop := Paired fun v u => ∃ t, v = .ref t ∧ H t = some (.tup [.int u.1, .int u.2.1, .str u.2.2])
def HtAt (H : Hp) : List V → List (Int × Str × Int) → Prop := Paired fun v u => ∃ t, v = .ref t ∧ H t = some (.tup [.int u.1, .str u.2.1, .int u.2.2])
def DdR (H : Hp) (kv : Key × V) (u : Int × Int × Int) : Prop := kv.1 = Sum.inl u.1 ∧ ∃ t, kv.2 = .ref t ∧ H t = some (.tup [.int u.2.1, .int u.2.2])
def DdAt (H : Hp) : List (Key × V) → List (Int × Int × Int) → Prop := Paired (DdR H)
theorem T3At.mono {H H' : Hp} (k : ∀ t xs, H t = some (.tup xs) → H' t = some (.tup xs)) : ∀ {us : List V} {ls : List (Int × Int × Str)}, T3At H us ls → T3At H' us ls
  | _, _, .nil => .nil
  | _, _, .cons h r => .cons (let ⟨t, e, q⟩ := h; ⟨t, e, k _ _ q⟩) (T3At.mono k r)
theorem HtAt.mono {H H' : Hp} (k : ∀ t xs, H t = some (.tup xs) → H' t = some (.tup xs)) : ∀ {us : List V} {ls : List (Int × Str × Int)}, HtAt H us ls → HtAt H' us ls
  | _, _, .nil => .nil
  | _, _, .cons h r => .cons (let ⟨t, e, q⟩ := h; ⟨t, e, k _ _ q⟩) (HtAt.mono k r)
theorem DdAt.mono {H H' : Hp} (k : ∀ t xs, H t = some (.tup xs) → H' t = some (.tup xs)) : ∀ {us : List (Key × V)} {ls : List (Int × Int × Int)}, DdAt H us ls → DdAt H' us ls
  | _, _, .nil => .nil
  | _, _, .cons h r => .cons (let ⟨a, t, e, q⟩ := h; ⟨a, t, e, k _ _ q⟩) (DdAt.mono k r)
theorem T3At.len {H : Hp} : ∀ {us : List V} {ls : List (Int × Int × Str)}, T3At H us ls → us.length = ls.length
  | _, _, .nil => rfl
  | _, _, .cons _ r => by rw [List.length_cons, List.length_cons, T3At.len r]
theorem HtAt.len {H : Hp} : ∀ {us : List V} {ls : List (Int × Str × Int)}, HtAt H us ls → us.length = ls.length
  | _, _, .nil => rfl
  | _, _, .cons _ r => by rw [List.length_cons, List.length_cons, HtAt.len r]
theorem DdAt.len {H : Hp} : ∀ {us : List (Key × V)} {ls : List (Int × Int × Int)}, DdAt H us ls → us.length = ls.length
  | _, _, .nil => rfl
  | _, _, .cons _ r => by rw [List.length_cons, List.length_cons, DdAt.len r]
theorem T3At.snoc {H : Hp} {t : Addr} {u : Int × Int × Str} (ht : H t = some (.tup [.int u.1, .int u.2.1, .str u.2.2])) : ∀ {us : List V} {ls : List (Int × Int × Str)}, T3At H us ls → T3At H (us ++ [.ref t]) (ls ++ [u])
  | _, _, .nil => .cons ⟨t, rfl, ht⟩ .nil
  | _, _, .cons h r => .cons h (T3At.snoc ht r)
theorem HtAt.snoc {H : Hp} {t : Addr} {u : Int × Str × Int} (ht : H t = some (.tup [.int u.1, .str u.2.1, .int u.2.2])) : ∀ {us : List V} {ls : List (Int × Str × Int)}, HtAt H us ls → HtAt H (us ++ [.ref t]) (ls ++ [u])
  | _, _, .nil => .cons ⟨t, rfl, ht⟩ .nil
  | _, _, .cons h r => .cons h (HtAt.snoc ht r)
theorem T3At.last {H : Hp} : ∀ {us : List V} {ls : List (Int × Int × Str)} {u : Int × Int × Str}, T3At H us (ls ++ [u]) → ∃ us' t, us = us' ++ [.ref t] ∧ T3At H us' ls ∧ H t = some (.tup [.int u.1, .int u.2.1, .str u.2.2])
  | _, [], _, .cons h .nil => by
    obtain ⟨t, rfl, q⟩ := h
    exact ⟨[], t, rfl, .nil, q⟩
  | _, _ :: _, _, .cons h r => by
    obtain ⟨us', t, rfl, a, b⟩ := T3At.last r
    exact ⟨_ :: us', t, rfl, .cons h a, b⟩
theorem HtAt.tail {H : Hp} : ∀ {us : List V} {ls : List (Int × Str × Int)}, HtAt H us ls → HtAt H (us.drop 1) (ls.drop 1)
  | _, _, .nil => .nil
  | _, _, .cons _ r => r
/-! ### a probe in plain words -/
structure Pm where
  b : Bd
  rows : List (Int × Int × Str)
  strays : Int
  hist : List (Int × Str × Int)
  faded : Int
  deeds : List (Int × Int × Int)
  spent : List (Int × Int)
  idle : Int
  peeked : Int
  gone : Int
  n : Nat
def innerM (r : List (Int × Int × Str)) : Int := match r.getLast? with
  | none => -1
  | some u => u.2.1
def backR (k : Str) (r : List (Int × Int × Str)) (s : Int) : List (Int × Int × Str) × Int := match r.getLast? with
  | none => (r, s + 1)
  | some u => if u.2.2 = k then (r.dropLast, s) else (r, s + 1)
def followR (so : Str) (d : V) (at_ to : Int) (r : List (Int × Int × Str)) (s : Int) : List (Int × Int × Str) × Int :=
  if so = "interrupt" then (r ++ [(at_, to, ("interrupt" : Str))], s)
  else if d = .str "call" then (r ++ [(at_, to, ("call" : Str))], s)
  else if d = .str "ret" then backR "call" r s
  else if d = .str "back" then backR "interrupt" r s
  else (r, s)
def noteHR (bt : Int) (so : Str) (pc : Int) (h : List (Int × Str × Int)) (f : Int) : List (Int × Str × Int) × Int :=
  if 32 < h.length + 1 then ((h ++ [(bt, so, pc)]).drop 1, f + 1) else (h ++ [(bt, so, pc)], f)
def getA {α : Type} (l : List (Int × α)) (k : Int) (d : α) : α := ((l.find? fun u => decide (u.1 = k)).map (·.2)).getD d
def putA {α : Type} (l : List (Int × α)) (k : Int) (v : α) : List (Int × α) :=
  if (l.any fun u => decide (u.1 = k)) = true then l.map (fun u => if u.1 = k then (u.1, v) else u) else l ++ [(k, v)]
def deedsR (so : Str) (pc bs : Int) (l : List (Int × Int × Int)) : List (Int × Int × Int) :=
  if so = "deed" then putA l pc ((getA l pc (0, 0)).1 + 1, (getA l pc (0, 0)).2 + bs) else l
def idleR (so : Str) (bs i : Int) : Int := if so = "asleep" then i + bs else i
def follT (x : Pm) : List (Int × Int × Str) × Int := followR (turnM x.b).1 (didV x.b) x.b.pc (turnM x.b).2.pc x.rows x.strays
def toT (x : Pm) : Int := innerM (if (turnM x.b).1 = "interrupt" then (follT x).1 else x.rows)
def passedM (x : Pm) : Pm where
  b := (turnM x.b).2
  rows := (follT x).1
  strays := (follT x).2
  hist := (noteHR x.b.beat (turnM x.b).1 x.b.pc x.hist x.faded).1
  faded := (noteHR x.b.beat (turnM x.b).1 x.b.pc x.hist x.faded).2
  deeds := deedsR (turnM x.b).1 x.b.pc ((turnM x.b).2.beat - x.b.beat) x.deeds
  spent := putA x.spent (toT x) (getA x.spent (toT x) 0 + ((turnM x.b).2.beat - x.b.beat))
  idle := idleR (turnM x.b).1 ((turnM x.b).2.beat - x.b.beat) x.idle
  peeked := x.peeked
  gone := x.gone + 1
  n := x.n + 1
/-- one turn goes by: its sort, and the probe behind it -/
def noteTM (x : Pm) : Str × Pm := ((turnM x.b).1, if (turnM x.b).1 = "stopped" then { x with b := (turnM x.b).2, n := x.n + 1 } else passedM x)
/-! ### dicts of a probe -/
def spD (l : List (Int × Int)) : List (Key × V) := l.map fun u => (Sum.inl u.1, V.int u.2)
theorem dec_inl (a b : Int) : decide ((Sum.inl a : Key) = Sum.inl b) = decide (a = b) := by
  by_cases h : a = b
  · rw [h, decide_eq_true rfl, decide_eq_true rfl]
  · rw [decide_eq_false h, decide_eq_false (fun z => h (Sum.inl.inj z))]
theorem spD_get (k : Int) : ∀ l : List (Int × Int), (valV (spD l) (Sum.inl k)).getD (.int 0) = .int (getA l k 0)
  | [] => rfl
  | u :: r => by
    by_cases h : u.1 = k
    · rw [show spD (u :: r) = (Sum.inl u.1, V.int u.2) :: spD r from rfl, valV_pos (congrArg Sum.inl h)]
      unfold getA
      rw [List.find?_cons, decide_eq_true h]
      rfl
    · rw [show spD (u :: r) = (Sum.inl u.1, V.int u.2) :: spD r from rfl, valV_neg (fun z => h (Sum.inl.inj z)), spD_get k r]
      unfold getA
      rw [List.find?_cons, decide_eq_false h]
theorem spD_any (k : Int) : ∀ l : List (Int × Int), ((spD l).any fun kv => decide (kv.1 = Sum.inl k)) = l.any fun u => decide (u.1 = k)
  | [] => rfl
  | u :: r => by
    rw [show spD (u :: r) = (Sum.inl u.1, V.int u.2) :: spD r from rfl, List.any_cons, List.any_cons, spD_any k r, dec_inl]
theorem spD_put (k v : Int) (l : List (Int × Int)) : putK (spD l) (Sum.inl k) (.int v) = spD (putA l k v) := by
  unfold putK putA
  rw [spD_any]
  split
  · unfold spD
    rw [List.map_map, List.map_map]
    apply List.map_congr_left
    intro u _
    show (if (Sum.inl u.1 : Key) = Sum.inl k then _ else _) = _
    by_cases h : u.1 = k
    · rw [if_pos (congrArg Sum.inl h)]
      show _ = ((fun u : Int × Int => ((Sum.inl u.1 : Key), V.int u.2)) (if u.1 = k then (u.1, v) else u))
      rw [if_pos h]
    · rw [if_neg (fun z => h (Sum.inl.inj z))]
      show _ = ((fun u : Int × Int => ((Sum.inl u.1 : Key), V.int u.2)) (if u.1 = k then (u.1, v) else u))
      rw [if_neg h]
  · unfold spD
    rw [List.map_append]
    rfl
theorem spD_len (l : List (Int × Int)) : (spD l).length = l.length := List.length_map ..
theorem putA_len {α : Type} (l : List (Int × α)) (k : Int) (v : α) : (putA l k v).length ≤ l.length + 1 := by
  unfold putA
  split
  · rw [List.length_map]; omega
  · rw [List.length_append]; exact Nat.le_refl _
theorem DdAt.get {H : Hp} (k : Int) : ∀ {us : List (Key × V)} {ls : List (Int × Int × Int)}, DdAt H us ls → (valV us (Sum.inl k) = none ∧ getA ls k (0, 0) = (0, 0)) ∨ ∃ t, valV us (Sum.inl k) = some (.ref t) ∧ H t = some (.tup [.int (getA ls k (0, 0)).1, .int (getA ls k (0, 0)).2])
  | _, _, .nil => .inl ⟨rfl, rfl⟩
  | _, _, .cons (a := kv) (b := u) h r => by
    obtain ⟨e1, t, e2, e3⟩ := h
    by_cases z : u.1 = k
    · refine .inr ⟨t, by rw [valV_pos (e1.trans (congrArg Sum.inl z)), e2], ?_⟩
      unfold getA
      rw [List.find?_cons, decide_eq_true z]
      exact e3
    · have e4 : ∀ (ls : List (Int × Int × Int)), getA (u :: ls) k (0, 0) = getA ls k (0, 0) := fun ls => by
        unfold getA
        rw [List.find?_cons, decide_eq_false z]
      rw [valV_neg (fun y => z (Sum.inl.inj (e1.symm.trans y))), e4]
      exact DdAt.get k r
theorem DdAt.any {H : Hp} (k : Int) : ∀ {us : List (Key × V)} {ls : List (Int × Int × Int)}, DdAt H us ls → (us.any fun kv => decide (kv.1 = Sum.inl k)) = ls.any fun u => decide (u.1 = k)
  | _, _, .nil => rfl
  | _, _, .cons (a := kv) (b := u) h r => by
    rw [List.any_cons, List.any_cons, DdAt.any k r, h.1, dec_inl]
theorem DdAt.map {H : Hp} {k a b : Int} {t : Addr} (e : H t = some (.tup [.int a, .int b])) : ∀ {us : List (Key × V)} {ls : List (Int × Int × Int)}, DdAt H us ls → DdAt H (us.map fun kv => if kv.1 = Sum.inl k then (kv.1, V.ref t) else kv) (ls.map fun u => if u.1 = k then (u.1, (a, b)) else u)
  | _, _, .nil => .nil
  | _, _, .cons (a := kv) (b := u) h r => by
    refine .cons ?_ (DdAt.map e r)
    show DdR H (if kv.1 = Sum.inl k then (kv.1, V.ref t) else kv) (if u.1 = k then (u.1, (a, b)) else u)
    by_cases z : u.1 = k
    · rw [if_pos z, if_pos (h.1.trans (congrArg Sum.inl z))]
      exact ⟨h.1, t, rfl, e⟩
    · rw [if_neg z, if_neg (fun y => z (Sum.inl.inj (h.1.symm.trans y)))]
      exact h
theorem DdAt.snoc {H : Hp} {k a b : Int} {t : Addr} (e : H t = some (.tup [.int a, .int b])) : ∀ {us : List (Key × V)} {ls : List (Int × Int × Int)}, DdAt H us ls → DdAt H (us ++ [(Sum.inl k, .ref t)]) (ls ++ [(k, (a, b))])
  | _, _, .nil => .cons ⟨rfl, t, rfl, e⟩ .nil
  | _, _, .cons h r => .cons h (DdAt.snoc e r)
theorem DdAt.put {H : Hp} {k a b : Int} {t : Addr} (e : H t = some (.tup [.int a, .int b])) {us : List (Key × V)} {ls : List (Int × Int × Int)} (h : DdAt H us ls) : DdAt H (putK us (Sum.inl k) (.ref t)) (putA ls k (a, b)) := by
  unfold putK putA
  rw [h.any k]
  split
  · exact h.map e
  · exact h.snoc e
end Bh

/-! The parts of a probe: made, and their methods while it goes. -/
namespace Bh
open PySem PySem.Spec PyProof.Rows L2
structure Ty (K : PySem.W.Frag) (mg : Str → Option Value) (CB CM CP CK CW CF CH CC CI CS : Addr) : Prop extends Tx K mg CB CM where
  g_WATCHES : ∃ t, mg "WATCHES" = some (.int 2 t)
  g_PAGES : ∃ t, mg "PAGES" = some (.int 16 t)
  g_OUTSIDE : ∃ t, mg "OUTSIDE" = some (.int (-1) t)
  g_KEPT_TURNS : ∃ t, mg "KEPT_TURNS" = some (.int 32 t)
  z_enumerate : mg "enumerate" = none
  cP : Cls K CP
  nP_board : NoAttr K CP "board"
  nP_standing : NoAttr K CP "standing"
  nP_watching : NoAttr K CP "watching"
  nP_frames : NoAttr K CP "frames"
  nP_history : NoAttr K CP "history"
  nP_counts : NoAttr K CP "counts"
  nP_mishaps : NoAttr K CP "mishaps"
  nP_stands : NoAttr K CP "stands"
  nP_turns_gone : NoAttr K CP "turns_gone"
  nP_course : NoAttr K CP "course"
  cK : Cls K CK
  nK_memory : NoAttr K CK "memory"
  nK_hard : NoAttr K CK "hard"
  nK_erased : NoAttr K CK "erased"
  cW : Cls K CW
  nW_rows : NoAttr K CW "rows"
  cF : Cls K CF
  nF_rows : NoAttr K CF "rows"
  nF_strays : NoAttr K CF "strays"
  cH : Cls K CH
  nH_rows : NoAttr K CH "rows"
  nH_faded : NoAttr K CH "faded"
  cC : Cls K CC
  nC_deeds : NoAttr K CC "deeds"
  nC_frames : NoAttr K CC "frames"
  nC_idle : NoAttr K CC "idle"
  nC_peeked : NoAttr K CC "peeked"
  cI : Cls K CI
  nI_rows : NoAttr K CI "rows"
  nI_met_rows : NoAttr K CI "met_rows"
  cS : Cls K CS
  nS_rows : NoAttr K CS "rows"
def prF (bd st wa fr hi co mi sd : Addr) (tg : Int) (cv : V) : List (Str × V) := [("board", .ref bd), ("standing", .ref st), ("watching", .ref wa), ("frames", .ref fr), ("history", .ref hi), ("counts", .ref co), ("mishaps", .ref mi), ("stands", .ref sd), ("turns_gone", .int tg), ("course", cv)]
section
variable {bd st wa fr hi co mi sd : Addr} {tg : Int} {cv : V}
theorem pF_board : (prF bd st wa fr hi co mi sd tg cv).lookup ("board" : Str) = some (.ref bd) := by kernel_rfl
theorem pF_standing : (prF bd st wa fr hi co mi sd tg cv).lookup ("standing" : Str) = some (.ref st) := by kernel_rfl
theorem pF_watching : (prF bd st wa fr hi co mi sd tg cv).lookup ("watching" : Str) = some (.ref wa) := by kernel_rfl
theorem pF_frames : (prF bd st wa fr hi co mi sd tg cv).lookup ("frames" : Str) = some (.ref fr) := by kernel_rfl
theorem pF_history : (prF bd st wa fr hi co mi sd tg cv).lookup ("history" : Str) = some (.ref hi) := by kernel_rfl
theorem pF_counts : (prF bd st wa fr hi co mi sd tg cv).lookup ("counts" : Str) = some (.ref co) := by kernel_rfl
theorem pF_mishaps : (prF bd st wa fr hi co mi sd tg cv).lookup ("mishaps" : Str) = some (.ref mi) := by kernel_rfl
theorem pF_stands : (prF bd st wa fr hi co mi sd tg cv).lookup ("stands" : Str) = some (.ref sd) := by kernel_rfl
theorem pF_turns_gone : (prF bd st wa fr hi co mi sd tg cv).lookup ("turns_gone" : Str) = some (.int tg) := by kernel_rfl
theorem pF_course : (prF bd st wa fr hi co mi sd tg cv).lookup ("course" : Str) = some (cv) := by kernel_rfl
theorem pP_frames {q : Addr} : putF "frames" (.ref q) (prF bd st wa fr hi co mi sd tg cv) = prF bd st wa q hi co mi sd tg cv := by kernel_rfl
theorem pP_history {q : Addr} : putF "history" (.ref q) (prF bd st wa fr hi co mi sd tg cv) = prF bd st wa fr q co mi sd tg cv := by kernel_rfl
theorem pP_counts {q : Addr} : putF "counts" (.ref q) (prF bd st wa fr hi co mi sd tg cv) = prF bd st wa fr hi q mi sd tg cv := by kernel_rfl
theorem pP_turns_gone {n : Int} : putF "turns_gone" (.int n) (prF bd st wa fr hi co mi sd tg cv) = prF bd st wa fr hi co mi sd n cv := by kernel_rfl
theorem pN_look : (prF bd st wa fr hi co mi sd tg cv).lookup ("look" : Str) = none := by kernel_rfl
theorem pN_register_of : (prF bd st wa fr hi co mi sd tg cv).lookup ("register_of" : Str) = none := by kernel_rfl
theorem pN_stop_told : (prF bd st wa fr hi co mi sd tg cv).lookup ("stop_told" : Str) = none := by kernel_rfl
theorem pN_out : (prF bd st wa fr hi co mi sd tg cv).lookup ("out" : Str) = none := by kernel_rfl
theorem pN_turns : (prF bd st wa fr hi co mi sd tg cv).lookup ("turns" : Str) = none := by kernel_rfl
theorem pN_marks : (prF bd st wa fr hi co mi sd tg cv).lookup ("marks" : Str) = none := by kernel_rfl
theorem pN_wear : (prF bd st wa fr hi co mi sd tg cv).lookup ("wear" : Str) = none := by kernel_rfl
theorem pN_watches : (prF bd st wa fr hi co mi sd tg cv).lookup ("watches" : Str) = none := by kernel_rfl
theorem pN_watch : (prF bd st wa fr hi co mi sd tg cv).lookup ("watch" : Str) = none := by kernel_rfl
theorem pN_unwatch : (prF bd st wa fr hi co mi sd tg cv).lookup ("unwatch" : Str) = none := by kernel_rfl
theorem pN_mark : (prF bd st wa fr hi co mi sd tg cv).lookup ("mark" : Str) = none := by kernel_rfl
theorem pN_unmark : (prF bd st wa fr hi co mi sd tg cv).lookup ("unmark" : Str) = none := by kernel_rfl
theorem pN_clear_marks : (prF bd st wa fr hi co mi sd tg cv).lookup ("clear_marks" : Str) = none := by kernel_rfl
theorem pN_go : (prF bd st wa fr hi co mi sd tg cv).lookup ("go" : Str) = none := by kernel_rfl
theorem pN_let_go : (prF bd st wa fr hi co mi sd tg cv).lookup ("let_go" : Str) = none := by kernel_rfl
theorem pN_note_gone : (prF bd st wa fr hi co mi sd tg cv).lookup ("note_gone" : Str) = none := by kernel_rfl
theorem pN_peek : (prF bd st wa fr hi co mi sd tg cv).lookup ("peek" : Str) = none := by kernel_rfl
theorem pN_meets_mark : (prF bd st wa fr hi co mi sd tg cv).lookup ("meets_mark" : Str) = none := by kernel_rfl
theorem pN_pass_turn : (prF bd st wa fr hi co mi sd tg cv).lookup ("pass_turn" : Str) = none := by kernel_rfl
theorem pN_follow_turn : (prF bd st wa fr hi co mi sd tg cv).lookup ("follow_turn" : Str) = none := by kernel_rfl
theorem pN_take_faults : (prF bd st wa fr hi co mi sd tg cv).lookup ("take_faults" : Str) = none := by kernel_rfl
theorem pN_note_turn : (prF bd st wa fr hi co mi sd tg cv).lookup ("note_turn" : Str) = none := by kernel_rfl
end
def mkF (m hd er : Addr) : List (Str × V) := [("memory", .ref m), ("hard", .ref hd), ("erased", .ref er)]
section
variable {m hd er : Addr}
theorem kF_memory : (mkF m hd er).lookup ("memory" : Str) = some (.ref m) := by kernel_rfl
theorem kF_hard : (mkF m hd er).lookup ("hard" : Str) = some (.ref hd) := by kernel_rfl
theorem kF_erased : (mkF m hd er).lookup ("erased" : Str) = some (.ref er) := by kernel_rfl
theorem kN_told : (mkF m hd er).lookup ("told" : Str) = none := by kernel_rfl
theorem kN_stands_at : (mkF m hd er).lookup ("stands_at" : Str) = none := by kernel_rfl
end
def wtF (wr : Addr) : List (Str × V) := [("rows", .ref wr)]
section
variable {wr : Addr}
theorem wF_rows : (wtF wr).lookup ("rows" : Str) = some (.ref wr) := by kernel_rfl
theorem wN_lay : (wtF wr).lookup ("lay" : Str) = none := by kernel_rfl
theorem wN_lift : (wtF wr).lookup ("lift" : Str) = none := by kernel_rfl
theorem wN_check_number : (wtF wr).lookup ("check_number" : Str) = none := by kernel_rfl
theorem wN_met : (wtF wr).lookup ("met" : Str) = none := by kernel_rfl
end
def frF (fl : Addr) (s : Int) : List (Str × V) := [("rows", .ref fl), ("strays", .int s)]
section
variable {fl : Addr} {s : Int}
theorem fF_rows : (frF fl s).lookup ("rows" : Str) = some (.ref fl) := by kernel_rfl
theorem fF_strays : (frF fl s).lookup ("strays" : Str) = some (.int s) := by kernel_rfl
theorem fP_strays {n : Int} : putF "strays" (.int n) (frF fl s) = frF fl n := by kernel_rfl
theorem fN_follow : (frF fl s).lookup ("follow" : Str) = none := by kernel_rfl
theorem fN_go_back_from : (frF fl s).lookup ("go_back_from" : Str) = none := by kernel_rfl
theorem fN_innermost : (frF fl s).lookup ("innermost" : Str) = none := by kernel_rfl
end
def hiF (hl : Addr) (s : Int) : List (Str × V) := [("rows", .ref hl), ("faded", .int s)]
section
variable {hl : Addr} {s : Int}
theorem hF_rows : (hiF hl s).lookup ("rows" : Str) = some (.ref hl) := by kernel_rfl
theorem hF_faded : (hiF hl s).lookup ("faded" : Str) = some (.int s) := by kernel_rfl
theorem hP_faded {n : Int} : putF "faded" (.int n) (hiF hl s) = hiF hl n := by kernel_rfl
theorem hN_note : (hiF hl s).lookup ("note" : Str) = none := by kernel_rfl
end
def coF (cd cf : Addr) (i pk : Int) : List (Str × V) := [("deeds", .ref cd), ("frames", .ref cf), ("idle", .int i), ("peeked", .int pk)]
section
variable {cd cf : Addr} {i pk : Int}
theorem cF_deeds : (coF cd cf i pk).lookup ("deeds" : Str) = some (.ref cd) := by kernel_rfl
theorem cF_frames : (coF cd cf i pk).lookup ("frames" : Str) = some (.ref cf) := by kernel_rfl
theorem cF_idle : (coF cd cf i pk).lookup ("idle" : Str) = some (.int i) := by kernel_rfl
theorem cF_peeked : (coF cd cf i pk).lookup ("peeked" : Str) = some (.int pk) := by kernel_rfl
theorem cP_idle {n : Int} : putF "idle" (.int n) (coF cd cf i pk) = coF cd cf n pk := by kernel_rfl
theorem cP_peeked {n : Int} : putF "peeked" (.int n) (coF cd cf i pk) = coF cd cf i n := by kernel_rfl
theorem cN_note_turn : (coF cd cf i pk).lookup ("note_turn" : Str) = none := by kernel_rfl
theorem cN_note_peek : (coF cd cf i pk).lookup ("note_peek" : Str) = none := by kernel_rfl
theorem cN_note_beats : (coF cd cf i pk).lookup ("note_beats" : Str) = none := by kernel_rfl
end
def miF (ml mr : Addr) : List (Str × V) := [("rows", .ref ml), ("met_rows", .ref mr)]
section
variable {ml mr : Addr}
theorem iF_rows : (miF ml mr).lookup ("rows" : Str) = some (.ref ml) := by kernel_rfl
theorem iF_met_rows : (miF ml mr).lookup ("met_rows" : Str) = some (.ref mr) := by kernel_rfl
theorem iN_bending : (miF ml mr).lookup ("bending" : Str) = none := by kernel_rfl
theorem iN_due : (miF ml mr).lookup ("due" : Str) = none := by kernel_rfl
theorem iN_come : (miF ml mr).lookup ("come" : Str) = none := by kernel_rfl
end
/-- an object is made, of which nothing more is told -/
def spMade (C : Addr) : Sp := fun vs H Q _ => ∃ (p dx : Addr), vs = [.ref p] ∧ H p = some (.ins C dx []) ∧ ∀ H', (∀ b o, b ≠ p → H b = some o → H' b = some o) → Q .non H'
def spMkF (C : Addr) : Sp := fun vs H Q _ => ∃ (p dx : Addr), vs = [.ref p] ∧ H p = some (.ins C dx []) ∧ ∀ (H' : Hp) (l0 : Addr), (∀ b o, b ≠ p → H b = some o → H' b = some o) → H l0 = none → H' l0 = some (.lst []) → H' p = some (.ins C dx (frF l0 0)) → Q .non H'
def spMkH (C : Addr) : Sp := fun vs H Q _ => ∃ (p dx : Addr), vs = [.ref p] ∧ H p = some (.ins C dx []) ∧ ∀ (H' : Hp) (l0 : Addr), (∀ b o, b ≠ p → H b = some o → H' b = some o) → H l0 = none → H' l0 = some (.lst []) → H' p = some (.ins C dx (hiF l0 0)) → Q .non H'
def spMkI (C : Addr) : Sp := fun vs H Q _ => ∃ (p dx : Addr), vs = [.ref p] ∧ H p = some (.ins C dx []) ∧ ∀ (H' : Hp) (l0 l1 : Addr), (∀ b o, b ≠ p → H b = some o → H' b = some o) → H l0 = none → H l1 = none → H' l0 = some (.lst []) → H' l1 = some (.lst []) → H' p = some (.ins C dx (miF l0 l1)) → Q .non H'
def spMkC (C : Addr) : Sp := fun vs H Q _ => ∃ (p dx : Addr), vs = [.ref p] ∧ H p = some (.ins C dx []) ∧ ∀ (H' : Hp) (l0 l1 : Addr), (∀ b o, b ≠ p → H b = some o → H' b = some o) → H l0 = none → H l1 = none → l0 ≠ l1 → H' l0 = some (.dK []) → H' l1 = some (.dK []) → H' p = some (.ins C dx (coF l0 l1 0 0)) → Q .non H'
def spMkW (CW : Addr) : Sp := fun vs H Q _ => ∃ (p dx : Addr), vs = [.ref p] ∧ H p = some (.ins CW dx []) ∧ ∀ (H' : Hp) (wr : Addr), (∀ b o, b ≠ p → H b = some o → H' b = some o) → H wr = none → H' wr = some (.lst [.non, .non]) → H' p = some (.ins CW dx (wtF wr)) → Q .non H'
def spMkK (CK : Addr) : Sp := fun vs H Q _ => ∃ (p dx m : Addr), vs = [.ref p, .ref m] ∧ H p = some (.ins CK dx []) ∧ ∀ (H' : Hp) (hd er : Addr), (∀ b o, b ≠ p → H b = some o → H' b = some o) → H hd = none → H er = none → H' hd = some (.dK []) → H' er = some (.lst ((List.replicate 16 (0 : Int)).map V.int)) → H' p = some (.ins CK dx (mkF m hd er)) → Q .non H'
theorem flat_r16 : (List.replicate (16 : Int).toNat [V.int 0]).flatten = (List.replicate 16 (0 : Int)).map V.int := by decide +kernel
section
variable {P : Program} {w : World} {K : PySem.W.Frag} {mg : Str → Option Value} {base : Heap} {CB CM CP CK CW CF CH CC CI CS : Addr}
abbrev sCfra : Stmt := inClass (topS 9) 0
def scCfraN : List Str := ["self"]
theorem scCfra : FnScope scCfraN ["self"] (defScope sCfra) := ⟨rfl, rfl, rfl, by decide +kernel, rfl, by decide +kernel, by decide +kernel⟩
theorem ok_Cfra {f : Addr} {fd : FuncData} (F : Fun K "__init__" "Frames.__init__" sCfra f fd) (T : Ty K mg CB CM CP CK CW CF CH CC CI CS) : FnOk P w K mg base CX0 1 f fd ["self"] (spMkF CF) := by
  refine F.ok scCfra (fun vs H Q E h => by obtain ⟨_, _, rfl, _⟩ := h; rfl) (fun cdv A outer s H vs Q E hr h => ?_)
  have hu := hu_of hr
  obtain ⟨p, dx, rfl, hp, k⟩ := h
  refine ⟨_, (pss_cons (ps_fld (pv 0) (pe_lst pa_nil) rfl)
    (pss_one (ps_fld (pv 0) pe_int rfl))), ?_⟩
  have kp0 : ∀ b o, b ≠ p → H b = some o → H b = some o := fun _ _ _ e => e
  have fr0 : ∀ b, H b = none → H b = none := fun _ e => e
  refine ⟨Nat.zero_le _, fun l0 n0 => ?_⟩
  have e0 : p ≠ l0 := ne_of_none hp n0
  have f0 := fr0 _ n0
  refine ⟨_, rfl, p, CF, dx, _, rfl, (by rw [upd_ne e0]; exact hp), T.cF, T.nF_rows, (by show 0 < 1000; decide), ?_⟩
  have kp1 : ∀ b o, b ≠ p → H b = some o → (upd (upd H l0 (.lst [])) p (.ins CF dx (putF "rows" (.ref l0) ([])))) b = some o := fun b o n e => by
    rw [upd_ne n]
    exact same_upd' n0 _ _ (kp0 b o n e)
  have fr1 : ∀ b, (upd (upd H l0 (.lst [])) p (.ins CF dx (putF "rows" (.ref l0) ([])))) b = none → H b = none := fun b e => by
    have n : b ≠ p := fun z => by rw [z, upd_same] at e; cases e
    rw [upd_ne n] at e
    exact fr0 b ((same_upd' n0).free e)
  have hl0 : (upd (upd H l0 (.lst [])) p (.ins CF dx (putF "rows" (.ref l0) ([])))) l0 = some (.lst []) := (upd_ne e0.symm).trans upd_same
  have hp0 : (upd (upd H l0 (.lst [])) p (.ins CF dx (putF "rows" (.ref l0) ([])))) p = some (.ins CF dx (putF "rows" (.ref l0) ([]))) := upd_same
  generalize upd (upd H l0 (.lst [])) p (.ins CF dx (putF "rows" (.ref l0) ([]))) = G0 at *
  refine ⟨_, rfl, p, CF, dx, _, rfl, hp0, T.cF, T.nF_strays, (by show 1 < 1000; decide), ?_⟩
  have kp2 : ∀ b o, b ≠ p → H b = some o → (upd G0 p (.ins CF dx (putF "strays" (.int 0) (putF "rows" (.ref l0) ([]))))) b = some o := fun b o n e => by rw [upd_ne n]; exact kp1 b o n e
  have fr2 : ∀ b, (upd G0 p (.ins CF dx (putF "strays" (.int 0) (putF "rows" (.ref l0) ([]))))) b = none → H b = none := fun b e => by
    have n : b ≠ p := fun z => by rw [z, upd_same] at e; cases e
    rw [upd_ne n] at e
    exact fr1 b e
  have hl0 : (upd G0 p (.ins CF dx (putF "strays" (.int 0) (putF "rows" (.ref l0) ([]))))) l0 = _ := (upd_ne e0.symm).trans hl0
  have hp1 : (upd G0 p (.ins CF dx (putF "strays" (.int 0) (putF "rows" (.ref l0) ([]))))) p = some (.ins CF dx (putF "strays" (.int 0) (putF "rows" (.ref l0) ([])))) := upd_same
  generalize upd G0 p (.ins CF dx (putF "strays" (.int 0) (putF "rows" (.ref l0) ([])))) = G1 at *
  exact k _ l0 kp2 f0 hl0 (hp1.trans (congrArg (fun z => some (HO.ins CF dx z)) (by kernel_rfl)))
abbrev sChis : Stmt := inClass (topS 78) 0
def scChisN : List Str := ["self"]
theorem scChis : FnScope scChisN ["self"] (defScope sChis) := ⟨rfl, rfl, rfl, by decide +kernel, rfl, by decide +kernel, by decide +kernel⟩
theorem ok_Chis {f : Addr} {fd : FuncData} (F : Fun K "__init__" "History.__init__" sChis f fd) (T : Ty K mg CB CM CP CK CW CF CH CC CI CS) : FnOk P w K mg base CX0 1 f fd ["self"] (spMkH CH) := by
  refine F.ok scChis (fun vs H Q E h => by obtain ⟨_, _, rfl, _⟩ := h; rfl) (fun cdv A outer s H vs Q E hr h => ?_)
  have hu := hu_of hr
  obtain ⟨p, dx, rfl, hp, k⟩ := h
  refine ⟨_, (pss_cons (ps_fld (pv 0) (pe_lst pa_nil) rfl)
    (pss_one (ps_fld (pv 0) pe_int rfl))), ?_⟩
  have kp0 : ∀ b o, b ≠ p → H b = some o → H b = some o := fun _ _ _ e => e
  have fr0 : ∀ b, H b = none → H b = none := fun _ e => e
  refine ⟨Nat.zero_le _, fun l0 n0 => ?_⟩
  have e0 : p ≠ l0 := ne_of_none hp n0
  have f0 := fr0 _ n0
  refine ⟨_, rfl, p, CH, dx, _, rfl, (by rw [upd_ne e0]; exact hp), T.cH, T.nH_rows, (by show 0 < 1000; decide), ?_⟩
  have kp1 : ∀ b o, b ≠ p → H b = some o → (upd (upd H l0 (.lst [])) p (.ins CH dx (putF "rows" (.ref l0) ([])))) b = some o := fun b o n e => by
    rw [upd_ne n]
    exact same_upd' n0 _ _ (kp0 b o n e)
  have fr1 : ∀ b, (upd (upd H l0 (.lst [])) p (.ins CH dx (putF "rows" (.ref l0) ([])))) b = none → H b = none := fun b e => by
    have n : b ≠ p := fun z => by rw [z, upd_same] at e; cases e
    rw [upd_ne n] at e
    exact fr0 b ((same_upd' n0).free e)
  have hl0 : (upd (upd H l0 (.lst [])) p (.ins CH dx (putF "rows" (.ref l0) ([])))) l0 = some (.lst []) := (upd_ne e0.symm).trans upd_same
  have hp0 : (upd (upd H l0 (.lst [])) p (.ins CH dx (putF "rows" (.ref l0) ([])))) p = some (.ins CH dx (putF "rows" (.ref l0) ([]))) := upd_same
  generalize upd (upd H l0 (.lst [])) p (.ins CH dx (putF "rows" (.ref l0) ([]))) = G0 at *
  refine ⟨_, rfl, p, CH, dx, _, rfl, hp0, T.cH, T.nH_faded, (by show 1 < 1000; decide), ?_⟩
  have kp2 : ∀ b o, b ≠ p → H b = some o → (upd G0 p (.ins CH dx (putF "faded" (.int 0) (putF "rows" (.ref l0) ([]))))) b = some o := fun b o n e => by rw [upd_ne n]; exact kp1 b o n e
  have fr2 : ∀ b, (upd G0 p (.ins CH dx (putF "faded" (.int 0) (putF "rows" (.ref l0) ([]))))) b = none → H b = none := fun b e => by
    have n : b ≠ p := fun z => by rw [z, upd_same] at e; cases e
    rw [upd_ne n] at e
    exact fr1 b e
  have hl0 : (upd G0 p (.ins CH dx (putF "faded" (.int 0) (putF "rows" (.ref l0) ([]))))) l0 = _ := (upd_ne e0.symm).trans hl0
  have hp1 : (upd G0 p (.ins CH dx (putF "faded" (.int 0) (putF "rows" (.ref l0) ([]))))) p = some (.ins CH dx (putF "faded" (.int 0) (putF "rows" (.ref l0) ([])))) := upd_same
  generalize upd G0 p (.ins CH dx (putF "faded" (.int 0) (putF "rows" (.ref l0) ([])))) = G1 at *
  exact k _ l0 kp2 f0 hl0 (hp1.trans (congrArg (fun z => some (HO.ins CH dx z)) (by kernel_rfl)))
abbrev sCcou : Stmt := inClass (topS 79) 0
def scCcouN : List Str := ["self"]
theorem scCcou : FnScope scCcouN ["self"] (defScope sCcou) := ⟨rfl, rfl, rfl, by decide +kernel, rfl, by decide +kernel, by decide +kernel⟩
theorem ok_Ccou {f : Addr} {fd : FuncData} (F : Fun K "__init__" "Counts.__init__" sCcou f fd) (T : Ty K mg CB CM CP CK CW CF CH CC CI CS) : FnOk P w K mg base CX0 1 f fd ["self"] (spMkC CC) := by
  refine F.ok scCcou (fun vs H Q E h => by obtain ⟨_, _, rfl, _⟩ := h; rfl) (fun cdv A outer s H vs Q E hr h => ?_)
  have hu := hu_of hr
  obtain ⟨p, dx, rfl, hp, k⟩ := h
  refine ⟨_, (pss_cons (ps_fld (pv 0) pe_dnewK rfl)
    (pss_cons (ps_fld (pv 0) pe_dnewK rfl)
    (pss_cons (ps_fld (pv 0) pe_int rfl)
    (pss_one (ps_fld (pv 0) pe_int rfl))))), ?_⟩
  have kp0 : ∀ b o, b ≠ p → H b = some o → H b = some o := fun _ _ _ e => e
  have fr0 : ∀ b, H b = none → H b = none := fun _ e => e
  intro l0 n0
  have e0 : p ≠ l0 := ne_of_none hp n0
  have f0 := fr0 _ n0
  refine ⟨_, rfl, p, CC, dx, _, rfl, (by rw [upd_ne e0]; exact hp), T.cC, T.nC_deeds, (by show 0 < 1000; decide), ?_⟩
  have kp1 : ∀ b o, b ≠ p → H b = some o → (upd (upd H l0 (.dK [])) p (.ins CC dx (putF "deeds" (.ref l0) ([])))) b = some o := fun b o n e => by
    rw [upd_ne n]
    exact same_upd' n0 _ _ (kp0 b o n e)
  have fr1 : ∀ b, (upd (upd H l0 (.dK [])) p (.ins CC dx (putF "deeds" (.ref l0) ([])))) b = none → H b = none := fun b e => by
    have n : b ≠ p := fun z => by rw [z, upd_same] at e; cases e
    rw [upd_ne n] at e
    exact fr0 b ((same_upd' n0).free e)
  have hl0 : (upd (upd H l0 (.dK [])) p (.ins CC dx (putF "deeds" (.ref l0) ([])))) l0 = some (.dK []) := (upd_ne e0.symm).trans upd_same
  have hp0 : (upd (upd H l0 (.dK [])) p (.ins CC dx (putF "deeds" (.ref l0) ([])))) p = some (.ins CC dx (putF "deeds" (.ref l0) ([]))) := upd_same
  generalize upd (upd H l0 (.dK [])) p (.ins CC dx (putF "deeds" (.ref l0) ([]))) = G0 at *
  intro l1 n1
  have e1 : p ≠ l1 := ne_of_none hp0 n1
  have f1 := fr1 _ n1
  have d01 : l0 ≠ l1 := ne_of_none hl0 n1
  refine ⟨_, rfl, p, CC, dx, _, rfl, (by rw [upd_ne e1]; exact hp0), T.cC, T.nC_frames, (by show 1 < 1000; decide), ?_⟩
  have kp2 : ∀ b o, b ≠ p → H b = some o → (upd (upd G0 l1 (.dK [])) p (.ins CC dx (putF "frames" (.ref l1) (putF "deeds" (.ref l0) ([]))))) b = some o := fun b o n e => by
    rw [upd_ne n]
    exact same_upd' n1 _ _ (kp1 b o n e)
  have fr2 : ∀ b, (upd (upd G0 l1 (.dK [])) p (.ins CC dx (putF "frames" (.ref l1) (putF "deeds" (.ref l0) ([]))))) b = none → H b = none := fun b e => by
    have n : b ≠ p := fun z => by rw [z, upd_same] at e; cases e
    rw [upd_ne n] at e
    exact fr1 b ((same_upd' n1).free e)
  have hl0 : (upd (upd G0 l1 (.dK [])) p (.ins CC dx (putF "frames" (.ref l1) (putF "deeds" (.ref l0) ([]))))) l0 = _ := (upd_ne e0.symm).trans (same_upd' n1 _ _ hl0)
  have hl1 : (upd (upd G0 l1 (.dK [])) p (.ins CC dx (putF "frames" (.ref l1) (putF "deeds" (.ref l0) ([]))))) l1 = some (.dK []) := (upd_ne e1.symm).trans upd_same
  have hp1 : (upd (upd G0 l1 (.dK [])) p (.ins CC dx (putF "frames" (.ref l1) (putF "deeds" (.ref l0) ([]))))) p = some (.ins CC dx (putF "frames" (.ref l1) (putF "deeds" (.ref l0) ([])))) := upd_same
  generalize upd (upd G0 l1 (.dK [])) p (.ins CC dx (putF "frames" (.ref l1) (putF "deeds" (.ref l0) ([])))) = G1 at *
  refine ⟨_, rfl, p, CC, dx, _, rfl, hp1, T.cC, T.nC_idle, (by show 2 < 1000; decide), ?_⟩
  have kp3 : ∀ b o, b ≠ p → H b = some o → (upd G1 p (.ins CC dx (putF "idle" (.int 0) (putF "frames" (.ref l1) (putF "deeds" (.ref l0) ([])))))) b = some o := fun b o n e => by rw [upd_ne n]; exact kp2 b o n e
  have fr3 : ∀ b, (upd G1 p (.ins CC dx (putF "idle" (.int 0) (putF "frames" (.ref l1) (putF "deeds" (.ref l0) ([])))))) b = none → H b = none := fun b e => by
    have n : b ≠ p := fun z => by rw [z, upd_same] at e; cases e
    rw [upd_ne n] at e
    exact fr2 b e
  have hl0 : (upd G1 p (.ins CC dx (putF "idle" (.int 0) (putF "frames" (.ref l1) (putF "deeds" (.ref l0) ([])))))) l0 = _ := (upd_ne e0.symm).trans hl0
  have hl1 : (upd G1 p (.ins CC dx (putF "idle" (.int 0) (putF "frames" (.ref l1) (putF "deeds" (.ref l0) ([])))))) l1 = _ := (upd_ne e1.symm).trans hl1
  have hp2 : (upd G1 p (.ins CC dx (putF "idle" (.int 0) (putF "frames" (.ref l1) (putF "deeds" (.ref l0) ([])))))) p = some (.ins CC dx (putF "idle" (.int 0) (putF "frames" (.ref l1) (putF "deeds" (.ref l0) ([]))))) := upd_same
  generalize upd G1 p (.ins CC dx (putF "idle" (.int 0) (putF "frames" (.ref l1) (putF "deeds" (.ref l0) ([]))))) = G2 at *
  refine ⟨_, rfl, p, CC, dx, _, rfl, hp2, T.cC, T.nC_peeked, (by show 3 < 1000; decide), ?_⟩
  have kp4 : ∀ b o, b ≠ p → H b = some o → (upd G2 p (.ins CC dx (putF "peeked" (.int 0) (putF "idle" (.int 0) (putF "frames" (.ref l1) (putF "deeds" (.ref l0) ([]))))))) b = some o := fun b o n e => by rw [upd_ne n]; exact kp3 b o n e
  have fr4 : ∀ b, (upd G2 p (.ins CC dx (putF "peeked" (.int 0) (putF "idle" (.int 0) (putF "frames" (.ref l1) (putF "deeds" (.ref l0) ([]))))))) b = none → H b = none := fun b e => by
    have n : b ≠ p := fun z => by rw [z, upd_same] at e; cases e
    rw [upd_ne n] at e
    exact fr3 b e
  have hl0 : (upd G2 p (.ins CC dx (putF "peeked" (.int 0) (putF "idle" (.int 0) (putF "frames" (.ref l1) (putF "deeds" (.ref l0) ([]))))))) l0 = _ := (upd_ne e0.symm).trans hl0
  have hl1 : (upd G2 p (.ins CC dx (putF "peeked" (.int 0) (putF "idle" (.int 0) (putF "frames" (.ref l1) (putF "deeds" (.ref l0) ([]))))))) l1 = _ := (upd_ne e1.symm).trans hl1
  have hp3 : (upd G2 p (.ins CC dx (putF "peeked" (.int 0) (putF "idle" (.int 0) (putF "frames" (.ref l1) (putF "deeds" (.ref l0) ([]))))))) p = some (.ins CC dx (putF "peeked" (.int 0) (putF "idle" (.int 0) (putF "frames" (.ref l1) (putF "deeds" (.ref l0) ([])))))) := upd_same
  generalize upd G2 p (.ins CC dx (putF "peeked" (.int 0) (putF "idle" (.int 0) (putF "frames" (.ref l1) (putF "deeds" (.ref l0) ([])))))) = G3 at *
  exact k _ l0 l1 kp4 f0 f1 d01 hl0 hl1 (hp3.trans (congrArg (fun z => some (HO.ins CC dx z)) (by kernel_rfl)))
abbrev sCmis : Stmt := inClass (topS 89) 0
def scCmisN : List Str := ["self"]
theorem scCmis : FnScope scCmisN ["self"] (defScope sCmis) := ⟨rfl, rfl, rfl, by decide +kernel, rfl, by decide +kernel, by decide +kernel⟩
theorem ok_Cmis {f : Addr} {fd : FuncData} (F : Fun K "__init__" "Mishaps.__init__" sCmis f fd) (T : Ty K mg CB CM CP CK CW CF CH CC CI CS) : FnOk P w K mg base CX0 1 f fd ["self"] (spMkI CI) := by
  refine F.ok scCmis (fun vs H Q E h => by obtain ⟨_, _, rfl, _⟩ := h; rfl) (fun cdv A outer s H vs Q E hr h => ?_)
  have hu := hu_of hr
  obtain ⟨p, dx, rfl, hp, k⟩ := h
  refine ⟨_, (pss_cons (ps_fld (pv 0) (pe_lst pa_nil) rfl)
    (pss_one (ps_fld (pv 0) (pe_lst pa_nil) rfl))), ?_⟩
  have kp0 : ∀ b o, b ≠ p → H b = some o → H b = some o := fun _ _ _ e => e
  have fr0 : ∀ b, H b = none → H b = none := fun _ e => e
  refine ⟨Nat.zero_le _, fun l0 n0 => ?_⟩
  have e0 : p ≠ l0 := ne_of_none hp n0
  have f0 := fr0 _ n0
  refine ⟨_, rfl, p, CI, dx, _, rfl, (by rw [upd_ne e0]; exact hp), T.cI, T.nI_rows, (by show 0 < 1000; decide), ?_⟩
  have kp1 : ∀ b o, b ≠ p → H b = some o → (upd (upd H l0 (.lst [])) p (.ins CI dx (putF "rows" (.ref l0) ([])))) b = some o := fun b o n e => by
    rw [upd_ne n]
    exact same_upd' n0 _ _ (kp0 b o n e)
  have fr1 : ∀ b, (upd (upd H l0 (.lst [])) p (.ins CI dx (putF "rows" (.ref l0) ([])))) b = none → H b = none := fun b e => by
    have n : b ≠ p := fun z => by rw [z, upd_same] at e; cases e
    rw [upd_ne n] at e
    exact fr0 b ((same_upd' n0).free e)
  have hl0 : (upd (upd H l0 (.lst [])) p (.ins CI dx (putF "rows" (.ref l0) ([])))) l0 = some (.lst []) := (upd_ne e0.symm).trans upd_same
  have hp0 : (upd (upd H l0 (.lst [])) p (.ins CI dx (putF "rows" (.ref l0) ([])))) p = some (.ins CI dx (putF "rows" (.ref l0) ([]))) := upd_same
  generalize upd (upd H l0 (.lst [])) p (.ins CI dx (putF "rows" (.ref l0) ([]))) = G0 at *
  refine ⟨Nat.zero_le _, fun l1 n1 => ?_⟩
  have e1 : p ≠ l1 := ne_of_none hp0 n1
  have f1 := fr1 _ n1
  have d01 : l0 ≠ l1 := ne_of_none hl0 n1
  refine ⟨_, rfl, p, CI, dx, _, rfl, (by rw [upd_ne e1]; exact hp0), T.cI, T.nI_met_rows, (by show 1 < 1000; decide), ?_⟩
  have kp2 : ∀ b o, b ≠ p → H b = some o → (upd (upd G0 l1 (.lst [])) p (.ins CI dx (putF "met_rows" (.ref l1) (putF "rows" (.ref l0) ([]))))) b = some o := fun b o n e => by
    rw [upd_ne n]
    exact same_upd' n1 _ _ (kp1 b o n e)
  have fr2 : ∀ b, (upd (upd G0 l1 (.lst [])) p (.ins CI dx (putF "met_rows" (.ref l1) (putF "rows" (.ref l0) ([]))))) b = none → H b = none := fun b e => by
    have n : b ≠ p := fun z => by rw [z, upd_same] at e; cases e
    rw [upd_ne n] at e
    exact fr1 b ((same_upd' n1).free e)
  have hl0 : (upd (upd G0 l1 (.lst [])) p (.ins CI dx (putF "met_rows" (.ref l1) (putF "rows" (.ref l0) ([]))))) l0 = _ := (upd_ne e0.symm).trans (same_upd' n1 _ _ hl0)
  have hl1 : (upd (upd G0 l1 (.lst [])) p (.ins CI dx (putF "met_rows" (.ref l1) (putF "rows" (.ref l0) ([]))))) l1 = some (.lst []) := (upd_ne e1.symm).trans upd_same
  have hp1 : (upd (upd G0 l1 (.lst [])) p (.ins CI dx (putF "met_rows" (.ref l1) (putF "rows" (.ref l0) ([]))))) p = some (.ins CI dx (putF "met_rows" (.ref l1) (putF "rows" (.ref l0) ([])))) := upd_same
  generalize upd (upd G0 l1 (.lst [])) p (.ins CI dx (putF "met_rows" (.ref l1) (putF "rows" (.ref l0) ([])))) = G1 at *
  exact k _ l0 l1 kp2 f0 f1 hl0 hl1 (hp1.trans (congrArg (fun z => some (HO.ins CI dx z)) (by kernel_rfl)))
abbrev sCsta : Stmt := inClass (topS 91) 0
def scCstaN : List Str := ["self"]
theorem scCsta : FnScope scCstaN ["self"] (defScope sCsta) := ⟨rfl, rfl, rfl, by decide +kernel, rfl, by decide +kernel, by decide +kernel⟩
theorem ok_Csta {f : Addr} {fd : FuncData} (F : Fun K "__init__" "Stands.__init__" sCsta f fd) (T : Ty K mg CB CM CP CK CW CF CH CC CI CS) : FnOk P w K mg base CX0 1 f fd ["self"] (spMade CS) := by
  refine F.ok scCsta (fun vs H Q E h => by obtain ⟨_, _, rfl, _⟩ := h; rfl) (fun cdv A outer s H vs Q E hr h => ?_)
  have hu := hu_of hr
  obtain ⟨p, dx, rfl, hp, k⟩ := h
  refine ⟨_, (pss_one (ps_fld (pv 0) (pe_lst pa_nil) rfl)), ?_⟩
  have kp0 : ∀ b o, b ≠ p → H b = some o → H b = some o := fun _ _ _ e => e
  have fr0 : ∀ b, H b = none → H b = none := fun _ e => e
  refine ⟨Nat.zero_le _, fun l0 n0 => ?_⟩
  have e0 : p ≠ l0 := ne_of_none hp n0
  have f0 := fr0 _ n0
  refine ⟨_, rfl, p, CS, dx, _, rfl, (by rw [upd_ne e0]; exact hp), T.cS, T.nS_rows, (by show 0 < 1000; decide), ?_⟩
  have kp1 : ∀ b o, b ≠ p → H b = some o → (upd (upd H l0 (.lst [])) p (.ins CS dx (putF "rows" (.ref l0) ([])))) b = some o := fun b o n e => by
    rw [upd_ne n]
    exact same_upd' n0 _ _ (kp0 b o n e)
  have fr1 : ∀ b, (upd (upd H l0 (.lst [])) p (.ins CS dx (putF "rows" (.ref l0) ([])))) b = none → H b = none := fun b e => by
    have n : b ≠ p := fun z => by rw [z, upd_same] at e; cases e
    rw [upd_ne n] at e
    exact fr0 b ((same_upd' n0).free e)
  have hl0 : (upd (upd H l0 (.lst [])) p (.ins CS dx (putF "rows" (.ref l0) ([])))) l0 = some (.lst []) := (upd_ne e0.symm).trans upd_same
  have hp0 : (upd (upd H l0 (.lst [])) p (.ins CS dx (putF "rows" (.ref l0) ([])))) p = some (.ins CS dx (putF "rows" (.ref l0) ([]))) := upd_same
  generalize upd (upd H l0 (.lst [])) p (.ins CS dx (putF "rows" (.ref l0) ([]))) = G0 at *
  exact k _ kp1
abbrev sCwat : Stmt := inClass (topS 95) 0
def scCwatN : List Str := ["self"]
theorem scCwat : FnScope scCwatN ["self"] (defScope sCwat) := ⟨rfl, rfl, rfl, by decide +kernel, rfl, by decide +kernel, by decide +kernel⟩
theorem ok_Cwat {f : Addr} {fd : FuncData} (F : Fun K "__init__" "Watches.__init__" sCwat f fd) (T : Ty K mg CB CM CP CK CW CF CH CC CI CS) : FnOk P w K mg base CX0 1 f fd ["self"] (spMkW CW) := by
  refine F.ok scCwat (fun vs H Q E h => by obtain ⟨_, _, rfl, _⟩ := h; rfl) (fun cdv A outer s H vs Q E hr h => ?_)
  have hu := hu_of hr
  obtain ⟨t_WATCHES, g_WATCHES⟩ := T.g_WATCHES
  obtain ⟨p, dx, rfl, hp, k⟩ := h
  refine ⟨_, (pss_one (ps_fld (pv 0) (pe_op op_rep (pe_lst (pa_cons pe_non pa_nil)) (pgI g_WATCHES)) rfl)), ?_⟩
  refine ⟨(by show 1 ≤ sizeLine; decide), fun l1 n1 => ?_⟩
  refine ⟨l1, _, _, rfl, rfl, upd_same, by decide, by decide, (by show 1 * 2 ≤ sizeLine; decide), fun wr nw => ?_⟩
  rw [show (List.replicate (2 : Int).toNat [V.non]).flatten = [V.non, V.non] from rfl]
  have e1 : p ≠ l1 := ne_of_none hp n1
  have hp1 : upd H l1 (.lst [V.non]) p = some (.ins CW dx []) := by rw [upd_ne e1]; exact hp
  have s1 := same_upd' (o := .lst [V.non]) n1
  have e2 : p ≠ wr := ne_of_none hp1 nw
  have s2 := same_upd' (o := .lst [V.non, V.non]) nw
  refine ⟨_, rfl, p, CW, dx, _, rfl, s2 _ _ hp1, T.cW, T.nW_rows, (by show 0 < 1000; decide), ?_⟩
  exact k _ wr (fun b o n e => by rw [upd_ne n]; exact s2 _ _ (s1 _ _ e)) (s1.free nw) (by rw [upd_ne e2.symm]; exact upd_same) upd_same
abbrev sCmar : Stmt := inClass (topS 83) 0
def scCmarN : List Str := ["self", "memory"]
theorem scCmar : FnScope scCmarN ["self", "memory"] (defScope sCmar) := ⟨rfl, rfl, rfl, by decide +kernel, rfl, by decide +kernel, by decide +kernel⟩
theorem ok_Cmar {f : Addr} {fd : FuncData} (F : Fun K "__init__" "Marks.__init__" sCmar f fd) (T : Ty K mg CB CM CP CK CW CF CH CC CI CS) : FnOk P w K mg base CX0 1 f fd ["self", "memory"] (spMkK CK) := by
  refine F.ok scCmar (fun vs H Q E h => by obtain ⟨_, _, _, rfl, _⟩ := h; rfl) (fun cdv A outer s H vs Q E hr h => ?_)
  have hu := hu_of hr
  obtain ⟨t_PAGES, g_PAGES⟩ := T.g_PAGES
  obtain ⟨p, dx, m, rfl, hp, k⟩ := h
  refine ⟨_, (pss_cons (ps_fld (pv 0) (pv 1) rfl)
    (pss_cons (ps_fld (pv 0) pe_dnewK rfl)
    (pss_one (ps_fld (pv 0) (pe_op op_rep (pe_lst (pa_cons pe_int pa_nil)) (pgI g_PAGES)) rfl)))), ?_⟩
  refine ⟨_, rfl, _, rfl, p, CK, dx, _, rfl, hp, T.cK, T.nK_memory, (by show 0 < 1000; decide), ?_⟩
  have k1 : ∀ b o, b ≠ p → H b = some o → upd H p (.ins CK dx (putF "memory" (.ref m) [])) b = some o := fun b o n e => by rw [upd_ne n]; exact e
  have hp1 : upd H p (.ins CK dx (putF "memory" (.ref m) [])) p = some (.ins CK dx (putF "memory" (.ref m) [])) := upd_same
  have fr1 : ∀ b, upd H p (.ins CK dx (putF "memory" (.ref m) [])) b = none → H b = none := fun b e => by
    have n : b ≠ p := fun z => by rw [z, upd_same] at e; cases e
    rw [upd_ne n] at e
    exact e
  generalize upd H p (.ins CK dx (putF "memory" (.ref m) [])) = G1 at *
  intro hd nh
  have e2 : p ≠ hd := ne_of_none hp1 nh
  have s2 := same_upd' (o := .dK []) nh
  refine ⟨_, rfl, p, CK, dx, _, rfl, s2 _ _ hp1, T.cK, T.nK_hard, (by show 1 < 1000; decide), ?_⟩
  have k2 : ∀ b o, b ≠ p → H b = some o → upd (upd G1 hd (.dK [])) p (.ins CK dx (putF "hard" (.ref hd) (putF "memory" (.ref m) []))) b = some o := fun b o n e => by rw [upd_ne n]; exact s2 _ _ (k1 b o n e)
  have hp2 : upd (upd G1 hd (.dK [])) p (.ins CK dx (putF "hard" (.ref hd) (putF "memory" (.ref m) []))) p = some (.ins CK dx (putF "hard" (.ref hd) (putF "memory" (.ref m) []))) := upd_same
  have hh2 : upd (upd G1 hd (.dK [])) p (.ins CK dx (putF "hard" (.ref hd) (putF "memory" (.ref m) []))) hd = some (.dK []) := by rw [upd_ne e2.symm]; exact upd_same
  have fr2 : ∀ b, upd (upd G1 hd (.dK [])) p (.ins CK dx (putF "hard" (.ref hd) (putF "memory" (.ref m) []))) b = none → H b = none := fun b e => by
    have n : b ≠ p := fun z => by rw [z, upd_same] at e; cases e
    rw [upd_ne n] at e
    exact fr1 b (s2.free e)
  generalize upd (upd G1 hd (.dK [])) p (.ins CK dx (putF "hard" (.ref hd) (putF "memory" (.ref m) []))) = G2 at *
  refine ⟨(by show 1 ≤ sizeLine; decide), fun l1 n1 => ?_⟩
  refine ⟨l1, _, _, rfl, rfl, upd_same, by decide, by decide, (by show 1 * 16 ≤ sizeLine; decide), fun er ne_ => ?_⟩
  rw [flat_r16]
  have e1 : p ≠ l1 := ne_of_none hp2 n1
  have s3 := same_upd' (o := .lst [V.int 0]) n1
  have hp3 := s3 _ _ hp2
  have e3 : p ≠ er := ne_of_none hp3 ne_
  have s4 := same_upd' (o := .lst ((List.replicate 16 (0 : Int)).map V.int)) ne_
  refine ⟨_, rfl, p, CK, dx, _, rfl, s4 _ _ hp3, T.cK, T.nK_erased, (by show 2 < 1000; decide), ?_⟩
  exact k _ hd er (fun b o n e => by rw [upd_ne n]; exact s4 _ _ (s3 _ _ (k2 b o n e))) (fr1 _ nh) (fr2 _ (s3.free ne_)) (by rw [upd_ne e2.symm]; exact s4 _ _ (s3 _ _ hh2)) (by rw [upd_ne e3.symm]; exact upd_same) upd_same
end
end Bh

/-! What a turn does to the parts of a probe. -/
namespace Bh
open PySem PySem.Spec PyProof.Rows L2
theorem for_enum {K : PySem.W.Frag} {a : Addr} {xs : List V} {g : TG} {tb : TS} {D : Ends} {σ : L2.St} {H : Hp} (Pv : Nat → L2.St → Hp → Prop) (h0 : Pv 0 σ H) (hl : ∀ i σ H, i ≤ xs.length → Pv i σ H → SqL K H a xs)
    (hs : ∀ i x T σ H, xs[i]? = some x → H T = none → Pv i σ H → g (.ref T) σ (upd H T (.tup [.int (i : Nat), x])) fun σ2 H2 => tb { D with nx := Pv (i + 1), ct := Pv (i + 1), bk := D.nx } σ2 H2) (hd : ∀ σ H, Pv xs.length σ H → D.nx σ H) :
    ∃ W : Nat → Nat → L2.St → Hp → Prop, (∃ m, W 0 m σ H) ∧ ∀ i m σ H, W i m σ H →
      ((Ite K a).stop i H ∧ D.nx σ H) ∨ ((Ite K a).go i H ∧ ∃ N : L2.St → Hp → Prop, (∀ σ' H', N σ' H' → ∃ m', m' < m ∧ W (i + 1) m' σ' H') ∧ ∀ x H', (Ite K a).yld i H x H' → g x σ H' fun σ2 H2 => tb { D with nx := N, ct := N, bk := D.nx } σ2 H2) := by
  refine ⟨fun i m σ H => m = xs.length - i ∧ i ≤ xs.length ∧ Pv i σ H, ⟨xs.length, by simp, Nat.zero_le _, h0⟩, ?_⟩
  rintro i m σ H ⟨rfl, hi, p⟩
  have q := hl i σ H hi p
  by_cases hlt : i < xs.length
  · refine .inr ⟨⟨xs, xs[i], q, by simp [hlt]⟩, Pv (i + 1), fun σ' H' p' => ⟨xs.length - (i + 1), by omega, rfl, hlt, p'⟩, fun x H' y => ?_⟩
    obtain ⟨T, z, rfl, nT, rfl, y⟩ := y
    exact hs i z T σ _ (y xs q) nT p
  · have e : i = xs.length := by omega
    subst e
    exact .inl ⟨⟨xs, q, Nat.le_refl _⟩, hd σ H p⟩
theorem atI_last {α : Type} (xs : List α) (v : α) : atI (xs ++ [v]) (-1) = some v := by
  unfold atI ixN
  rw [if_neg (by decide), if_pos (by rw [List.length_append, List.length_singleton]; omega)]
  have e : ((-1 : Int) + ((xs ++ [v]).length : Int)).toNat = xs.length := by
    rw [List.length_append, List.length_singleton]
    omega
  rw [e]
  show (xs ++ [v])[xs.length]? = some v
  rw [List.getElem?_append_right (Nat.le_refl _), Nat.sub_self]
  rfl
theorem seqI_last {n : Nat} : seqIndex? (-1) (n + 1) = some n := by
  have h : ixN (n + 1) (-1) = some n := by
    unfold ixN
    rw [if_neg (by decide), if_pos (by omega)]
    have e : ((-1 : Int) + ((n + 1 : Nat) : Int)).toNat = n := by omega
    rw [e]
  exact (ixN_seq h).1
theorem seqI_first {n : Nat} (h : 0 < n) : seqIndex? 0 n = some 0 := by
  have h : ixN n 0 = some 0 := by
    unfold ixN
    rw [if_pos (Int.le_refl 0), if_pos (by omega)]
    rfl
  exact (ixN_seq h).1
theorem snocCases {α : Type} (l : List α) : l = [] ∨ ∃ r u, l = r ++ [u] := by
  rcases List.eq_nil_or_concat l with h | ⟨r, u, h⟩
  · exact .inl h
  · exact .inr ⟨r, u, by rw [h, List.concat_eq_append]⟩
theorem erase_last {α : Type} (xs : List α) (v : α) : (xs ++ [v]).eraseIdx xs.length = xs := by
  rw [List.eraseIdx_append_of_length_le (Nat.le_refl _), Nat.sub_self]
  exact List.append_nil xs
def spGbf (CF : Addr) : Sp := fun vs H Q _ => ∃ (p dx fl : Addr) (st : Int) (us : List V) (rows : List (Int × Int × Str)) (k : Str), vs = [.ref p, .str k] ∧ H p = some (.ins CF dx (frF fl st)) ∧ H fl = some (.lst us) ∧ T3At H us rows ∧ rows.length < 100000 ∧
  ∀ H' us', (∀ b o, b ≠ p → b ≠ fl → H b = some o → H' b = some o) → H' p = some (.ins CF dx (frF fl (backR k rows st).2)) → H' fl = some (.lst us') → T3At H' us' (backR k rows st).1 → Q .non H'
def spFol (CF : Addr) : Sp := fun vs H Q _ => ∃ (p dx fl : Addr) (st : Int) (us : List V) (rows : List (Int × Int × Str)) (so : Str) (d : V) (a b : Int), vs = [.ref p, .str so, d, .int a, .int b] ∧ (d = .non ∨ ∃ n, d = .str n) ∧ H p = some (.ins CF dx (frF fl st)) ∧ H fl = some (.lst us) ∧ T3At H us rows ∧ rows.length < 100000 ∧
  ∀ H' us', (∀ b o, b ≠ p → b ≠ fl → H b = some o → H' b = some o) → H' p = some (.ins CF dx (frF fl (followR so d a b rows st).2)) → H' fl = some (.lst us') → T3At H' us' (followR so d a b rows st).1 → Q .non H'
def spInn (CF : Addr) : Sp := fun vs H Q _ => ∃ (p dx fl : Addr) (st : Int) (us : List V) (rows : List (Int × Int × Str)), vs = [.ref p] ∧ H p = some (.ins CF dx (frF fl st)) ∧ H fl = some (.lst us) ∧ T3At H us rows ∧ rows.length < 100000 ∧ Q (.int (innerM rows)) H
def spHno (CH : Addr) : Sp := fun vs H Q _ => ∃ (p dx hl : Addr) (f bt pc : Int) (so : Str) (hs : List V) (hist : List (Int × Str × Int)), vs = [.ref p, .int bt, .str so, .int pc] ∧ H p = some (.ins CH dx (hiF hl f)) ∧ H hl = some (.lst hs) ∧ HtAt H hs hist ∧ hist.length ≤ 32 ∧
  ∀ H' hs', (∀ b o, b ≠ p → b ≠ hl → H b = some o → H' b = some o) → H' p = some (.ins CH dx (hiF hl (noteHR bt so pc hist f).2)) → H' hl = some (.lst hs') → HtAt H' hs' (noteHR bt so pc hist f).1 → Q .non H'
def spNbe (CC : Addr) : Sp := fun vs H Q _ => ∃ (p dx cd cf : Addr) (i pk bs to : Int) (l : List (Int × Int)), vs = [.ref p, .int bs, .int to] ∧ H p = some (.ins CC dx (coF cd cf i pk)) ∧ H cf = some (.dK (spD l)) ∧ l.length < 100000 ∧
  ∀ H', (∀ b o, b ≠ cf → H b = some o → H' b = some o) → H' cf = some (.dK (spD (putA l to (getA l to 0 + bs)))) → Q .non H'
def spNtu (CC : Addr) : Sp := fun vs H Q _ => ∃ (p dx cd cf : Addr) (i pk pc bs to : Int) (so : Str) (l : List (Int × Int)) (kd : List (Key × V)) (ds : List (Int × Int × Int)), vs = [.ref p, .str so, .int pc, .int bs, .int to] ∧ H p = some (.ins CC dx (coF cd cf i pk)) ∧ H cf = some (.dK (spD l)) ∧ H cd = some (.dK kd) ∧ DdAt H kd ds ∧ cd ≠ cf ∧ l.length < 100000 ∧ ds.length < 100000 ∧
  ∀ H' kd', (∀ b o, b ≠ p → b ≠ cf → b ≠ cd → H b = some o → H' b = some o) → H' p = some (.ins CC dx (coF cd cf (idleR so bs i) pk)) → H' cf = some (.dK (spD (putA l to (getA l to 0 + bs)))) → H' cd = some (.dK kd') → DdAt H' kd' (deedsR so pc bs ds) → Q .non H'
def spMet (CW : Addr) : Sp := fun vs H Q _ => ∃ (p dx wr tl : Addr) (us : List V) (ts : List (Bool × Int)), vs = [.ref p, .ref tl] ∧ H p = some (.ins CW dx (wtF wr)) ∧ H wr = some (.lst [.non, .non]) ∧ H tl = some (.lst us) ∧ TouAt H us ts ∧ ∀ H', Same H H' → Q .non H'
def spBnd (CI : Addr) : Sp := fun vs H Q _ => ∃ (p dx ml mr : Addr) (bt : Int), vs = [.ref p, .int bt] ∧ H p = some (.ins CI dx (miF ml mr)) ∧ H ml = some (.lst []) ∧ Q .non H
def spDue (CI : Addr) : Sp := fun vs H Q _ => ∃ (p dx ml mr : Addr) (bt : Int), vs = [.ref p, .int bt] ∧ H p = some (.ins CI dx (miF ml mr)) ∧ H ml = some (.lst []) ∧ ∀ H' l, Same H H' → H l = none → H' l = some (.lst []) → Q (.ref l) H'
def spSta (CK CM : Addr) : Sp := fun vs H Q _ => ∃ (p dk m dm hd er ww s : Addr) (a : Int), vs = [.ref p, .int a] ∧ H p = some (.ins CK dk (mkF m hd er)) ∧ H hd = some (.dK []) ∧ H m = some (.ins CM dm (mmF ww s)) ∧ H s = some (.dK []) ∧ Q (.bl false) H
theorem nmOfS (d : V) (h : d = .non ∨ ∃ n, d = .str n) (s : Str) : scal d (.str s) = true := by
  rcases h with rfl | ⟨n, rfl⟩ <;> rfl
section
variable {P : Program} {w : World} {K : PySem.W.Frag} {mg : Str → Option Value} {base : Heap} {CB CM CP CK CW CF CH CC CI CS : Addr}
abbrev sMgbf : Stmt := inClass (topS 9) 3
def scMgbfN : List Str := ["self", "kind"]
theorem scMgbf : FnScope scMgbfN ["self", "kind"] (defScope sMgbf) := ⟨rfl, rfl, rfl, by decide +kernel, rfl, by decide +kernel, by decide +kernel⟩
theorem ok_Mgbf {f : Addr} {fd : FuncData} (F : Fun K "go_back_from" "Frames.go_back_from" sMgbf f fd) (T : Ty K mg CB CM CP CK CW CF CH CC CI CS) : FnOk P w K mg base CX0 1 f fd ["self", "kind"] (spGbf CF) := by
  refine F.ok scMgbf (fun vs H Q E h => by obtain ⟨_, _, _, _, _, _, _, rfl, _⟩ := h; rfl) (fun cdv A outer s H vs Q E hr h => ?_)
  have hu := hu_of hr
  obtain ⟨p, dx, fl, st, us, rows, k_, rfl, hp, hfl, ht, hn, k⟩ := h
  refine ⟨_, (pss_one (ps_if (PW.pt (pw_and (pt_truth (pe_fld (pv 0) rfl) (fun _ => rfl)) (pw_and1 (pt_cmpR op_eq (pe_ix ix_tup (pe_ix ix_list (pe_fld (pv 0) rfl) (pe_un un_neg pe_int) (fun _ _ => rfl)) pe_int (fun _ _ => rfl)) (pv 1) (nomark _))))) (pss_one (ps_delL (pe_fld (pv 0) rfl) (pe_un un_neg pe_int))) (pss_one (ps_fldaug (pv 0) pe_int in_add)))), ?_⟩
  have nf : fl ≠ p := ne_of hfl hp (by intro z; cases z)
  rcases snocCases rows with rfl | ⟨r0, u, rfl⟩
  · cases ht
    refine ⟨_, rfl, p, CF, dx, _, _, rfl, hp, T.cF, T.nF_rows, fF_rows, _, .inl ⟨_, SqL.of hfl, rfl⟩, ifB (fun h => by cases h) (fun _ => ifB (fun h => by cases h) (fun _ => ?_))⟩
    refine ⟨_, rfl, p, CF, dx, _, _, rfl, hp, T.cF, T.nF_strays, fF_strays, _, _, rfl, rfl, dx, _, hp, (by show 2 < 1000; decide), ?_⟩
    rw [fP_strays]
    exact k _ [] (fun b o n1 _ e => by rw [upd_ne n1]; exact e) upd_same (by rw [upd_ne nf]; exact hfl) .nil
  · obtain ⟨us', t, rfl, ht', e3⟩ := ht.last
    have nt : t ≠ p := ne_of e3 hp (by intro z; cases z)
    have eb : backR k_ (r0 ++ [u]) st = if u.2.2 = k_ then (r0, st) else (r0 ++ [u], st + 1) := by
      unfold backR
      rw [List.getLast?_concat, List.dropLast_concat]
    refine ⟨_, rfl, p, CF, dx, _, _, rfl, hp, T.cF, T.nF_rows, fF_rows, _, .inl ⟨_, SqL.of hfl, rfl⟩, ifB (fun _ => ?_) (fun h => by
      rw [List.isEmpty_eq_false_iff.mpr (by simp)] at h
      cases h)⟩
    refine ⟨_, rfl, p, CF, dx, _, _, rfl, hp, T.cF, T.nF_rows, fF_rows, _, rfl, fl, _, _, _, rfl, rfl, SqL.of hfl, atI_last us' _, t, _, 2, _, rfl, rfl, SqT.of e3, atI_nat (j := 2) rfl, _, rfl, rfl, _, rfl, ifB (fun h => ?_) (fun h => ?_)⟩
    · rw [eb, if_pos (V.str.inj (of_decide_eq_true h))] at k
      refine ⟨_, rfl, p, CF, dx, _, _, rfl, hp, T.cF, T.nF_rows, fF_rows, _, rfl, fl, _, _, us'.length, rfl, rfl, hfl, by decide, by decide, (by rw [List.length_append, List.length_singleton]; exact seqI_last), ?_⟩
      rw [erase_last]
      exact k _ us' (fun b o _ n2 e => by rw [upd_ne n2]; exact e) (by rw [upd_ne nf.symm]; exact hp) upd_same (ht'.mono fun t xs e => by rw [upd_ne (ne_of e hfl (by intro z; cases z))]; exact e)
    · rw [eb, if_neg (fun z => of_decide_eq_false h (congrArg V.str z))] at k
      refine ⟨_, rfl, p, CF, dx, _, _, rfl, hp, T.cF, T.nF_strays, fF_strays, _, _, rfl, rfl, dx, _, hp, (by show 2 < 1000; decide), ?_⟩
      rw [fP_strays]
      exact k _ (us' ++ [.ref t]) (fun b o n1 _ e => by rw [upd_ne n1]; exact e) upd_same (by rw [upd_ne nf]; exact hfl) (ht.mono fun t xs e => by rw [upd_ne (ne_of e hp (by intro z; cases z))]; exact e)
abbrev sMinn : Stmt := inClass (topS 9) 4
def scMinnN : List Str := ["self"]
theorem scMinn : FnScope scMinnN ["self"] (defScope sMinn) := ⟨rfl, rfl, rfl, by decide +kernel, rfl, by decide +kernel, by decide +kernel⟩
theorem ok_Minn {f : Addr} {fd : FuncData} (F : Fun K "innermost" "Frames.innermost" sMinn f fd) (T : Ty K mg CB CM CP CK CW CF CH CC CI CS) : FnOk P w K mg base CX0 1 f fd ["self"] (spInn CF) := by
  refine F.ok scMinn (fun vs H Q E h => by obtain ⟨_, _, _, _, _, _, rfl, _⟩ := h; rfl) (fun cdv A outer s H vs Q E hr h => ?_)
  have hu := hu_of hr
  obtain ⟨t_OUTSIDE, g_OUTSIDE⟩ := T.g_OUTSIDE
  obtain ⟨p, dx, fl, st, us, rows, rfl, hp, hfl, ht, hn, k⟩ := h
  refine ⟨_, (pss_cons (ps_if (pt_not (pt_truth (pe_fld (pv 0) rfl) (fun _ => rfl))) (pss_one (ps_ret (pgI g_OUTSIDE))) pss_nil)
    (pss_one (ps_ret (pe_ix ix_tup (pe_ix ix_list (pe_fld (pv 0) rfl) (pe_un un_neg pe_int) (fun _ _ => rfl)) pe_int (fun _ _ => rfl))))), ?_⟩
  rcases snocCases rows with rfl | ⟨r0, u, rfl⟩
  · cases ht
    refine ⟨_, rfl, p, CF, dx, _, _, rfl, hp, T.cF, T.nF_rows, fF_rows, _, .inl ⟨_, SqL.of hfl, rfl⟩, ifN (fun _ => k) (fun h => by cases h)⟩
  · obtain ⟨us', t, rfl, ht', e3⟩ := ht.last
    have ei : innerM (r0 ++ [u]) = u.2.1 := by
      unfold innerM
      rw [List.getLast?_concat]
    rw [ei] at k
    refine ⟨_, rfl, p, CF, dx, _, _, rfl, hp, T.cF, T.nF_rows, fF_rows, _, .inl ⟨_, SqL.of hfl, rfl⟩, ifN (fun h => by
      rw [List.isEmpty_eq_false_iff.mpr (by simp)] at h
      cases h) (fun _ => ?_)⟩
    exact ⟨_, rfl, p, CF, dx, _, _, rfl, hp, T.cF, T.nF_rows, fF_rows, _, rfl, fl, _, _, _, rfl, rfl, SqL.of hfl, atI_last us' _, t, _, 1, _, rfl, rfl, SqT.of e3, atI_nat (j := 1) rfl, k⟩
abbrev sMfol : Stmt := inClass (topS 9) 2
def scMfolN : List Str := ["self", "sort", "did", "at", "to"]
theorem scMfol : FnScope scMfolN ["self", "sort", "did", "at", "to"] (defScope sMfol) := ⟨rfl, rfl, rfl, by decide +kernel, rfl, by decide +kernel, by decide +kernel⟩
theorem ok_Mfol {f : Addr} {fd : FuncData} {fM_gbf : Addr} {dM_gbf : FuncData} (F : Fun K "follow" "Frames.follow" sMfol f fd) (T : Ty K mg CB CM CP CK CW CF CH CC CI CS)
    (M_gbf : CalM P w K mg base CF 1 "go_back_from" ["self", "kind"] (spGbf CF) fM_gbf dM_gbf) : FnOk P w K mg base CX0 2 f fd ["self", "sort", "did", "at", "to"] (spFol CF) := by
  refine F.ok scMfol (fun vs H Q E h => by obtain ⟨_, _, _, _, _, _, _, _, _, _, rfl, _⟩ := h; rfl) (fun cdv A outer s H vs Q E hr h => ?_)
  have hu := hu_of hr
  obtain ⟨p, dx, fl, st, us, rows, so, d, a_, b_, rfl, hd, hp, hfl, ht, hn, k⟩ := h
  refine ⟨_, (pss_one (ps_if (pt_cmpR op_eq (pv 1) pe_str (nomark _)) (pss_one (ps_expr (pe_bm PySem.F.plainAttrs_list PySem.F.slot_list_append PySem.F.type_list_append mt_append (pe_fld (pv 0) rfl) (pa_cons (pe_tup (pa_cons (pv 3) (pa_cons (pv 4) (pa_cons pe_str pa_nil)))) pa_nil)))) (pss_one (ps_if (pt_cmpR op_eq (pv 2) pe_str (nomark _)) (pss_one (ps_expr (pe_bm PySem.F.plainAttrs_list PySem.F.slot_list_append PySem.F.type_list_append mt_append (pe_fld (pv 0) rfl) (pa_cons (pe_tup (pa_cons (pv 3) (pa_cons (pv 4) (pa_cons pe_str pa_nil)))) pa_nil)))) (pss_one (ps_if (pt_cmpR op_eq (pv 2) pe_str (nomark _)) (pss_one (ps_expr (pe_meth (pv 0) M_gbf.c M_gbf.m M_gbf.G (hr.mono (by decide)) M_gbf.b .nil pass0 (pa_cons pe_str pa_nil)))) (pss_one (ps_if (pt_cmpR op_eq (pv 2) pe_str (nomark _)) (pss_one (ps_expr (pe_meth (pv 0) M_gbf.c M_gbf.m M_gbf.G (hr.mono (by decide)) M_gbf.b .nil pass0 (pa_cons pe_str pa_nil)))) pss_nil)))))))), ?_⟩
  have nf : fl ≠ p := ne_of hfl hp (by intro z; cases z)
  unfold followR at k
  refine ⟨_, rfl, rfl, _, rfl, ifB (fun h => ?_) (fun h => ?_)⟩
  · rw [if_pos (V.str.inj (of_decide_eq_true h))] at k
    refine ⟨_, rfl, p, CF, dx, _, _, rfl, hp, T.cF, T.nF_rows, fF_rows, .inl ⟨rfl, _, SqL.of hfl⟩, _, rfl, _, rfl, (by show 3 ≤ sizeLine; decide), fun t nt => ?_⟩
    have et := same_upd' (o := .tup [V.int a_, V.int b_, V.str "interrupt"]) nt
    refine ⟨fl, us, _, rfl, rfl, et _ _ hfl, Nat.lt_of_le_of_lt (Nat.le_of_eq ht.len) (Nat.lt_trans hn (by decide)), ?_⟩
    exact k _ _ (fun b o n1 n2 e => by rw [upd_ne n2]; exact et _ _ e) (by rw [upd_ne nf.symm]; exact et _ _ hp) upd_same (T3At.mono (H := upd H t (.tup [V.int a_, V.int b_, V.str "interrupt"])) (fun t' xs e => by rw [upd_ne (ne_of e (et _ _ hfl) (by intro z; cases z))]; exact e) (T3At.snoc (u := (a_, b_, "interrupt")) upd_same (ht.mono fun t' xs e => et _ _ e)))
  · rw [if_neg (fun z => of_decide_eq_false h (congrArg V.str z))] at k
    refine ⟨_, rfl, nmOfS d hd _, _, rfl, ifB (fun h => ?_) (fun h => ?_)⟩
    · rw [if_pos (of_decide_eq_true h)] at k
      refine ⟨_, rfl, p, CF, dx, _, _, rfl, hp, T.cF, T.nF_rows, fF_rows, .inl ⟨rfl, _, SqL.of hfl⟩, _, rfl, _, rfl, (by show 3 ≤ sizeLine; decide), fun t nt => ?_⟩
      have et := same_upd' (o := .tup [V.int a_, V.int b_, V.str "call"]) nt
      refine ⟨fl, us, _, rfl, rfl, et _ _ hfl, Nat.lt_of_le_of_lt (Nat.le_of_eq ht.len) (Nat.lt_trans hn (by decide)), ?_⟩
      exact k _ _ (fun b o n1 n2 e => by rw [upd_ne n2]; exact et _ _ e) (by rw [upd_ne nf.symm]; exact et _ _ hp) upd_same (T3At.mono (H := upd H t (.tup [V.int a_, V.int b_, V.str "call"])) (fun t' xs e => by rw [upd_ne (ne_of e (et _ _ hfl) (by intro z; cases z))]; exact e) (T3At.snoc (u := (a_, b_, "call")) upd_same (ht.mono fun t' xs e => et _ _ e)))
    · rw [if_neg (of_decide_eq_false h)] at k
      refine ⟨_, rfl, nmOfS d hd _, _, rfl, ifB (fun h => ?_) (fun h => ?_)⟩
      · rw [if_pos (of_decide_eq_true h)] at k
        exact ⟨_, rfl, p, dx, _, rfl, hp, fN_go_back_from, p, dx, fl, st, us, rows, ("call" : Str), rfl, hp, hfl, ht, hn, k⟩
      · rw [if_neg (of_decide_eq_false h)] at k
        refine ⟨_, rfl, nmOfS d hd _, _, rfl, ifB (fun h => ?_) (fun h => ?_)⟩
        · rw [if_pos (of_decide_eq_true h)] at k
          exact ⟨_, rfl, p, dx, _, rfl, hp, fN_go_back_from, p, dx, fl, st, us, rows, ("interrupt" : Str), rfl, hp, hfl, ht, hn, k⟩
        · rw [if_neg (of_decide_eq_false h)] at k
          exact k H us (fun _ _ _ _ e => e) hp hfl ht
abbrev sMhno : Stmt := inClass (topS 78) 2
def scMhnoN : List Str := ["self", "beat", "sort", "pc"]
theorem scMhno : FnScope scMhnoN ["self", "beat", "sort", "pc"] (defScope sMhno) := ⟨rfl, rfl, rfl, by decide +kernel, rfl, by decide +kernel, by decide +kernel⟩
theorem ok_Mhno {f : Addr} {fd : FuncData} (F : Fun K "note" "History.note" sMhno f fd) (T : Ty K mg CB CM CP CK CW CF CH CC CI CS) : FnOk P w K mg base CX0 1 f fd ["self", "beat", "sort", "pc"] (spHno CH) := by
  refine F.ok scMhno (fun vs H Q E h => by obtain ⟨_, _, _, _, _, _, _, _, _, rfl, _⟩ := h; rfl) (fun cdv A outer s H vs Q E hr h => ?_)
  have hu := hu_of hr
  obtain ⟨t_KEPT_TURNS, g_KEPT_TURNS⟩ := T.g_KEPT_TURNS
  have z_len := T.z_len
  obtain ⟨p, dx, hl, f_, bt, pc, so, hs, hist, rfl, hp, hhl, ht, hn, k⟩ := h
  refine ⟨_, (pss_cons (ps_expr (pe_bm PySem.F.plainAttrs_list PySem.F.slot_list_append PySem.F.type_list_append mt_append (pe_fld (pv 0) rfl) (pa_cons (pe_tup (pa_cons (pv 1) (pa_cons (pv 2) (pa_cons (pv 3) pa_nil)))) pa_nil)))
    (pss_one (ps_if (pt_cmpR op_gt (pe_callB call_len_seq (by rfl) z_len PySem.boot_len (pa_cons (pe_fld (pv 0) rfl) pa_nil)) (pgI g_KEPT_TURNS) (nomark _)) (pss_cons (ps_delL (pe_fld (pv 0) rfl) pe_int)
    (pss_one (ps_fldaug (pv 0) pe_int in_add))) pss_nil))), ?_⟩
  have nf : hl ≠ p := ne_of hhl hp (by intro z; cases z)
  have hl_ := ht.len
  refine ⟨_, rfl, p, CH, dx, _, _, rfl, hp, T.cH, T.nH_rows, hF_rows, .inl ⟨rfl, _, SqL.of hhl⟩, _, rfl, _, rfl, _, rfl, (by show 3 ≤ sizeLine; decide), fun t nt => ?_⟩
  have et := same_upd' (o := .tup [V.int bt, V.str so, V.int pc]) nt
  refine ⟨hl, hs, _, rfl, rfl, et _ _ hhl, Nat.lt_of_le_of_lt (show hs.length ≤ 32 by omega) (by decide), ?_⟩
  have ht1 : HtAt (upd (upd H t (.tup [V.int bt, V.str so, V.int pc])) hl (.lst (hs ++ [.ref t]))) (hs ++ [.ref t]) (hist ++ [(bt, so, pc)]) := HtAt.mono (H := upd H t (.tup [V.int bt, V.str so, V.int pc])) (fun t' xs e => by rw [upd_ne (ne_of e (et _ _ hhl) (by intro z; cases z))]; exact e) (HtAt.snoc (u := (bt, so, pc)) upd_same (ht.mono fun t' xs e => et _ _ e))
  have kp1 : ∀ b o, b ≠ p → b ≠ hl → H b = some o → (upd (upd H t (.tup [V.int bt, V.str so, V.int pc])) hl (.lst (hs ++ [.ref t]))) b = some o := fun b o n1 n2 e => by rw [upd_ne n2]; exact et _ _ e
  have hp1 : (upd (upd H t (.tup [V.int bt, V.str so, V.int pc])) hl (.lst (hs ++ [.ref t]))) p = some (.ins CH dx (hiF hl f_)) := by rw [upd_ne nf.symm]; exact et _ _ hp
  have hl1 : (upd (upd H t (.tup [V.int bt, V.str so, V.int pc])) hl (.lst (hs ++ [.ref t]))) hl = some (.lst (hs ++ [.ref t])) := upd_same
  generalize upd (upd H t (.tup [V.int bt, V.str so, V.int pc])) hl (.lst (hs ++ [.ref t])) = G1 at *
  have el : (hs ++ [V.ref t]).length = hist.length + 1 := by rw [List.length_append, List.length_singleton, hl_]
  refine ⟨_, rfl, p, CH, dx, _, _, rfl, hp1, T.cH, T.nH_rows, hF_rows, hl, _, rfl, .inl (SqL.of hl1), _, _, rfl, rfl, _, rfl, ifB (fun h => ?_) (fun h => ?_)⟩
  · have h32 : 32 < hist.length + 1 := by
      have := of_decide_eq_true h
      rw [el] at this
      omega
    unfold noteHR at k
    rw [if_pos h32] at k
    refine ⟨_, rfl, p, CH, dx, _, _, rfl, hp1, T.cH, T.nH_rows, hF_rows, hl, _, _, 0, rfl, rfl, hl1, by decide, by decide, seqI_first (by rw [el]; omega), ?_⟩
    have hd : (hs ++ [V.ref t]).eraseIdx 0 = (hs ++ [V.ref t]).drop 1 := by
      cases hs <;> rfl
    rw [hd]
    have ht2 : HtAt (upd G1 hl (.lst ((hs ++ [V.ref t]).drop 1))) ((hs ++ [V.ref t]).drop 1) ((hist ++ [(bt, so, pc)]).drop 1) := ht1.tail.mono fun t' xs e => by rw [upd_ne (ne_of e hl1 (by intro z; cases z))]; exact e
    have hp2 : (upd G1 hl (.lst ((hs ++ [V.ref t]).drop 1))) p = some (.ins CH dx (hiF hl f_)) := by rw [upd_ne nf.symm]; exact hp1
    have hl2 : (upd G1 hl (.lst ((hs ++ [V.ref t]).drop 1))) hl = some (.lst ((hs ++ [V.ref t]).drop 1)) := upd_same
    have kp2 : ∀ b o, b ≠ p → b ≠ hl → H b = some o → (upd G1 hl (.lst ((hs ++ [V.ref t]).drop 1))) b = some o := fun b o n1 n2 e => by rw [upd_ne n2]; exact kp1 b o n1 n2 e
    generalize upd G1 hl (.lst ((hs ++ [V.ref t]).drop 1)) = G2 at *
    refine ⟨_, rfl, p, CH, dx, _, _, rfl, hp2, T.cH, T.nH_faded, hF_faded, _, _, rfl, rfl, dx, _, hp2, (by show 2 < 1000; decide), ?_⟩
    rw [hP_faded]
    exact k _ _ (fun b o n1 n2 e => by rw [upd_ne n1]; exact kp2 b o n1 n2 e) upd_same (by rw [upd_ne nf]; exact hl2) (ht2.mono fun t' xs e => by rw [upd_ne (ne_of e hp2 (by intro z; cases z))]; exact e)
  · have h32 : ¬ 32 < hist.length + 1 := by
      have := of_decide_eq_false h
      rw [el] at this
      omega
    unfold noteHR at k
    rw [if_neg h32] at k
    exact k _ _ kp1 hp1 hl1 ht1
abbrev sMnbe : Stmt := inClass (topS 79) 4
def scMnbeN : List Str := ["self", "beats", "to"]
theorem scMnbe : FnScope scMnbeN ["self", "beats", "to"] (defScope sMnbe) := ⟨rfl, rfl, rfl, by decide +kernel, rfl, by decide +kernel, by decide +kernel⟩
theorem ok_Mnbe {f : Addr} {fd : FuncData} (F : Fun K "note_beats" "Counts.note_beats" sMnbe f fd) (T : Ty K mg CB CM CP CK CW CF CH CC CI CS) : FnOk P w K mg base CX0 1 f fd ["self", "beats", "to"] (spNbe CC) := by
  refine F.ok scMnbe (fun vs H Q E h => by obtain ⟨_, _, _, _, _, _, _, _, _, rfl, _⟩ := h; rfl) (fun cdv A outer s H vs Q E hr h => ?_)
  have hu := hu_of hr
  obtain ⟨p, dx, cd, cf, i_, pk, bs, to, l, rfl, hp, hcf, hn, k⟩ := h
  refine ⟨_, (pss_one (ps_dput hu (pe_fld (pv 0) rfl) (pv 2) (pe_op op_add (pe_dget2 hu (pe_fld (pv 0) rfl) (pv 2) pe_int ⟨rfl, rfl, rfl, rfl⟩) (pv 1)) rfl)), ?_⟩
  refine ⟨_, rfl, p, CC, dx, _, _, rfl, hp, T.cC, T.nC_frames, cF_frames, cf, rfl, .inl ⟨_, .inl hcf⟩, _, rfl, _, DGet.k (k := Sum.inl to) hcf, ?_⟩
  rw [spD_get]
  refine ⟨_, rfl, _, _, rfl, rfl, _, rfl, p, CC, dx, _, _, rfl, hp, T.cC, T.nC_frames, cF_frames, _, rfl, cf, _, rfl, DPut.k (k := Sum.inl to) hcf (by rw [spD_len]; exact Nat.lt_trans hn (by decide)), ?_⟩
  rw [spD_put]
  exact k _ (fun b o n e => by rw [upd_ne n]; exact e) upd_same
abbrev sMntu : Stmt := inClass (topS 79) 2
def scMntuN : List Str := ["self", "sort", "pc", "beats", "to", "times", "before"]
theorem scMntu : FnScope scMntuN ["self", "sort", "pc", "beats", "to"] (defScope sMntu) := ⟨rfl, rfl, rfl, by decide +kernel, rfl, by decide +kernel, by decide +kernel⟩
theorem ok_Mntu {f : Addr} {fd : FuncData} {fM_nbe : Addr} {dM_nbe : FuncData} (F : Fun K "note_turn" "Counts.note_turn" sMntu f fd) (T : Ty K mg CB CM CP CK CW CF CH CC CI CS)
    (M_nbe : CalM P w K mg base CC 1 "note_beats" ["self", "beats", "to"] (spNbe CC) fM_nbe dM_nbe) : FnOk P w K mg base CX0 2 f fd ["self", "sort", "pc", "beats", "to"] (spNtu CC) := by
  refine F.ok scMntu (fun vs H Q E h => by obtain ⟨_, _, _, _, _, _, _, _, _, _, _, _, _, rfl, _⟩ := h; rfl) (fun cdv A outer s H vs Q E hr h => ?_)
  have hu := hu_of hr
  obtain ⟨p, dx, cd, cf, i_, pk, pc, bs, to, so, l, kd, ds, rfl, hp, hcf, hcd, hdd, ndf, hn, hm, k⟩ := h
  refine ⟨_, (pss_cons (ps_expr (pe_meth (pv 0) M_nbe.c M_nbe.m M_nbe.G (hr.mono (by decide)) M_nbe.b .nil pass0 (pa_cons (pv 3) (pa_cons (pv 4) pa_nil))))
    (pss_one (ps_if (pt_cmpR op_eq (pv 1) pe_str (nomark _)) (pss_one (ps_fldaug (pv 0) (pv 3) in_add)) (pss_one (ps_if (pt_cmpR op_eq (pv 1) pe_str (nomark _)) (pss_cons (ps_asg (pe_dget2 hu (pe_fld (pv 0) rfl) (pv 2) (pe_tup (pa_cons pe_int (pa_cons pe_int pa_nil))) ⟨rfl, rfl, rfl, rfl⟩) (pg_tup rfl (pgs_cons (pg_name (i := 5) scMntu.nd rfl (.inl rfl)) (pgs_cons (pg_name (i := 6) scMntu.nd rfl (.inl rfl)) pgs_nil))))
    (pss_one (ps_dput hu (pe_fld (pv 0) rfl) (pv 2) (pe_tup (pa_cons (pe_op op_add (pv 5) pe_int) (pa_cons (pe_op op_add (pv 6) (pv 3)) pa_nil))) rfl))) pss_nil))))), ?_⟩
  have npf : p ≠ cf := ne_of hp hcf (by intro z; cases z)
  have npd : p ≠ cd := ne_of hp hcd (by intro z; cases z)
  refine ⟨_, rfl, p, dx, _, rfl, hp, cN_note_beats, _, rfl, _, rfl, p, dx, cd, cf, i_, pk, bs, to, l, rfl, hp, hcf, hn, fun H1 kp1 hcf1 => ?_⟩
  have hp1 := kp1 _ _ npf hp
  have hcd1 := kp1 _ _ ndf hcd
  have hdd1 : DdAt H1 kd ds := hdd.mono fun t xs e => kp1 _ _ (ne_of e hcf (by intro z; cases z)) e
  unfold idleR deedsR at k
  refine ⟨_, rfl, rfl, _, rfl, ifB (fun h => ?_) (fun h => ?_)⟩
  · have es : so = "asleep" := V.str.inj (of_decide_eq_true h)
    subst es
    rw [if_pos rfl, if_neg (show ¬ ("asleep" : Str) = "deed" by decide +kernel)] at k
    refine ⟨_, rfl, p, CC, dx, _, _, rfl, hp1, T.cC, T.nC_idle, cF_idle, _, rfl, _, _, rfl, rfl, dx, _, hp1, (by show 4 < 1000; decide), ?_⟩
    rw [cP_idle]
    exact k _ kd (fun b o n1 n2 n3 e => by rw [upd_ne n1]; exact kp1 _ _ n2 e) upd_same (by rw [upd_ne npf.symm]; exact hcf1) (by rw [upd_ne npd.symm]; exact hcd1) (hdd1.mono fun t xs e => by rw [upd_ne (ne_of e hp1 (by intro z; cases z))]; exact e)
  · rw [if_neg (fun z => of_decide_eq_false h (congrArg V.str z))] at k
    refine ⟨_, rfl, rfl, _, rfl, ifB (fun h2 => ?_) (fun h2 => ?_)⟩
    · rw [if_pos (V.str.inj (of_decide_eq_true h2))] at k
      refine ⟨_, rfl, p, CC, dx, _, _, rfl, hp1, T.cC, T.nC_deeds, cF_deeds, cd, rfl, .inl ⟨_, .inl hcd1⟩, _, rfl, (by show 2 ≤ sizeLine; decide), fun t0 nt0 => ?_⟩
      have s0 := same_upd' (o := .tup [V.int 0, V.int 0]) nt0
      have h0 : upd H1 t0 (.tup [V.int 0, V.int 0]) t0 = some (.tup [V.int 0, V.int 0]) := upd_same
      have kp2 : ∀ b o, b ≠ cf → H b = some o → upd H1 t0 (.tup [V.int 0, V.int 0]) b = some o := fun b o n e => s0 _ _ (kp1 b o n e)
      have hp2 := s0 _ _ hp1
      have hcf2 := s0 _ _ hcf1
      have hcd2 := s0 _ _ hcd1
      have hdd2 := hdd1.mono fun t xs e => s0 _ _ e
      clear s0
      generalize upd H1 t0 (.tup [V.int 0, V.int 0]) = H2 at *
      obtain ⟨t9, e9, h9⟩ : ∃ t9, (valV kd (Sum.inl pc)).getD (V.ref t0) = V.ref t9 ∧ H2 t9 = some (.tup [.int (getA ds pc (0, 0)).1, .int (getA ds pc (0, 0)).2]) := by
        rcases hdd2.get pc with ⟨e1, e2⟩ | ⟨t, e1, e2⟩
        · exact ⟨t0, by rw [e1]; rfl, by rw [e2]; exact h0⟩
        · exact ⟨t, by rw [e1]; rfl, e2⟩
      refine ⟨_, DGet.k (k := Sum.inl pc) hcd2, ?_⟩
      rw [e9]
      refine ⟨t9, _, rfl, SqT.of h9, rfl, _, _, rfl, _, _, rfl, rfl, ?_⟩
      refine ⟨_, rfl, _, _, rfl, rfl, _, rfl, _, rfl, _, _, rfl, rfl, (by show 2 ≤ sizeLine; decide), fun t nt => ?_⟩
      have s3 := same_upd' (o := .tup [V.int ((getA ds pc (0, 0)).1 + 1), V.int ((getA ds pc (0, 0)).2 + bs)]) nt
      have h3 : upd H2 t (.tup [V.int ((getA ds pc (0, 0)).1 + 1), V.int ((getA ds pc (0, 0)).2 + bs)]) t = some (.tup [V.int ((getA ds pc (0, 0)).1 + 1), V.int ((getA ds pc (0, 0)).2 + bs)]) := upd_same
      have kp3 : ∀ b o, b ≠ cf → H b = some o → upd H2 t (.tup [V.int ((getA ds pc (0, 0)).1 + 1), V.int ((getA ds pc (0, 0)).2 + bs)]) b = some o := fun b o n e => s3 _ _ (kp2 b o n e)
      have hp3 := s3 _ _ hp2
      have hcf3 := s3 _ _ hcf2
      have hcd3 := s3 _ _ hcd2
      have hdd3 := hdd2.mono fun t xs e => s3 _ _ e
      clear s3
      generalize upd H2 t (.tup [V.int ((getA ds pc (0, 0)).1 + 1), V.int ((getA ds pc (0, 0)).2 + bs)]) = H3 at *
      have el := hdd3.len
      refine ⟨_, rfl, p, CC, dx, _, _, rfl, hp3, T.cC, T.nC_deeds, cF_deeds, _, rfl, cd, _, rfl, DPut.k (k := Sum.inl pc) hcd3 (Nat.lt_of_le_of_lt (Nat.le_of_eq el) (Nat.lt_trans hm (by decide))), ?_⟩
      have hdd4 : DdAt H3 (putK kd (Sum.inl pc) (.ref t)) (putA ds pc ((getA ds pc (0, 0)).1 + 1, (getA ds pc (0, 0)).2 + bs)) := DdAt.put h3 hdd3
      exact k _ _ (fun b o n1 n2 n3 e => by rw [upd_ne n3]; exact kp3 b o n2 e) (by rw [upd_ne npd]; exact hp3) (by rw [upd_ne ndf.symm]; exact hcf3) upd_same (hdd4.mono fun t' xs e => by rw [upd_ne (ne_of e hcd3 (by intro z; cases z))]; exact e)
    · rw [if_neg (fun z => of_decide_eq_false h2 (congrArg V.str z))] at k
      exact k _ kd (fun b o _ n2 _ e => kp1 _ _ n2 e) hp1 hcf1 hcd1 hdd1
abbrev sMmet : Stmt := inClass (topS 95) 5
def scMmetN : List Str := ["self", "touches", "kind", "address", "number", "row"]
theorem scMmet : FnScope scMmetN ["self", "touches"] (defScope sMmet) := ⟨rfl, rfl, rfl, by decide +kernel, rfl, by decide +kernel, by decide +kernel⟩
theorem ok_Mmet {f : Addr} {fd : FuncData} (F : Fun K "met" "Watches.met" sMmet f fd) (T : Ty K mg CB CM CP CK CW CF CH CC CI CS) : FnOk P w K mg base CX0 1 f fd ["self", "touches"] (spMet CW) := by
  refine F.ok scMmet (fun vs H Q E h => by obtain ⟨_, _, _, _, _, _, rfl, _⟩ := h; rfl) (fun cdv A outer s H vs Q E hr h => ?_)
  have hu := hu_of hr
  have z_enumerate := T.z_enumerate
  obtain ⟨p, dx, wr, tl, us, ts, rfl, hp, hwr, htl, htu, k⟩ := h
  refine ⟨_, (pss_cons (ps_for PassesOwn.never rfl (pi_list (pv 1)) (pg_tup rfl (pgs_cons (pg_name (i := 2) scMmet.nd rfl (.inl rfl)) (pgs_cons (pg_name (i := 3) scMmet.nd rfl (.inl rfl)) pgs_nil)))
      (pss_one (ps_for PassesOwn.never rfl (pi_enum (by rfl) z_enumerate (pa_cons (pe_fld (pv 0) rfl) pa_nil)) (pg_tup rfl (pgs_cons (pg_name (i := 4) scMmet.nd rfl (.inl rfl)) (pgs_cons (pg_name (i := 5) scMmet.nd rfl (.inl rfl)) pgs_nil)))
      (pss_one (ps_if (PW.pt (pw_and (pt_cmp (pc_notN (pv 5))) (pw_and (pt_chain op_le op_le (pe_ix ix_list (pv 5) pe_int (fun _ _ => rfl)) (pv 3) (pe_ix ix_list (pv 5) pe_int (fun _ _ => rfl))) (pw_and1 (pt_cmpR op_in_seq (pv 2) (pe_ix ix_list (pv 5) pe_int (fun _ _ => rfl)) (by rfl)))))) (pss_one (ps_ret (pe_tup (pa_cons pe_str (pa_cons (pv 4) (pa_cons (pv 3) (pa_cons (pv 2) pa_nil))))))) pss_nil)))))
    (pss_one (ps_ret pe_non))), ?_⟩
  refine ⟨_, rfl, tl, rfl, ⟨_, SqL.of htl⟩, ?_⟩
  refine for_list (K := K) (a := tl) (xs := us) (fun i σ H' => Same H H' ∧ ∃ y2 y3 y4 y5 : Option V, σ = [some (.ref p), some (.ref tl), y2, y3, y4, y5]) ⟨fun _ _ e => e, none, none, none, none, rfl⟩ (fun i σ H' _ h => SqL.of (h.1 _ _ htl)) ?_ ?_
  · rintro i v σ H1 hv ⟨s1, y2, y3, y4, y5, rfl⟩
    obtain ⟨q, t, rfl, e1, e2⟩ := TouAt.get htu hv
    refine ⟨q, _, rfl, SqT.of (s1 _ _ e2), rfl, _, _, rfl, _, _, rfl, rfl, ?_⟩
    refine ⟨_, rfl, p, CW, dx, _, _, rfl, (s1 _ _ hp), T.cW, T.nW_rows, wF_rows, wr, _, rfl, SqL.of (s1 _ _ hwr), ?_⟩
    refine for_enum (K := K) (a := wr) (xs := [V.non, V.non]) (fun j σ H' => Same H H' ∧ ∃ y4 y5 : Option V, σ = [some (.ref p), some (.ref tl), some (.str (kS t.1)), some (.int t.2), y4, y5]) ⟨s1, y4, y5, rfl⟩ (fun j σ H' _ h => SqL.of (h.1 _ _ hwr)) ?_ ?_
    · rintro j x T_ σ H2 hj nT ⟨s2, z4, z5, rfl⟩
      have hx : x = .non := by
        have := List.mem_of_getElem? hj
        simp only [List.mem_cons, List.not_mem_nil, or_false, or_self] at this
        exact this
      subst hx
      have s3 := same_upd' (o := .tup [V.int (j : Nat), V.non]) nT
      refine ⟨T_, _, rfl, SqT.of upd_same, rfl, _, _, rfl, _, _, rfl, rfl, ?_⟩
      refine ⟨_, rfl, _, rfl, ?_⟩
      refine ifN (fun h => absurd rfl (of_decide_eq_false h)) (fun _ => ?_)
      exact ⟨s2.trans s3, _, _, rfl⟩
    · rintro σ H2 ⟨s2, z4, z5, rfl⟩
      exact ⟨s2, _, _, _, _, rfl⟩
  · rintro σ H1 ⟨s1, y2, y3, y4, y5, rfl⟩
    exact k _ s1
abbrev sMbnd : Stmt := inClass (topS 89) 3
def scMbndN : List Str := ["self", "beat", "row"]
theorem scMbnd : FnScope scMbndN ["self", "beat"] (defScope sMbnd) := ⟨rfl, rfl, rfl, by decide +kernel, rfl, by decide +kernel, by decide +kernel⟩
theorem ok_Mbnd {f : Addr} {fd : FuncData} (F : Fun K "bending" "Mishaps.bending" sMbnd f fd) (T : Ty K mg CB CM CP CK CW CF CH CC CI CS) : FnOk P w K mg base CX0 1 f fd ["self", "beat"] (spBnd CI) := by
  refine F.ok scMbnd (fun vs H Q E h => by obtain ⟨_, _, _, _, _, rfl, _⟩ := h; rfl) (fun cdv A outer s H vs Q E hr h => ?_)
  have hu := hu_of hr
  obtain ⟨p, dx, ml, mr, bt, rfl, hp, hml, k⟩ := h
  refine ⟨_, (pss_cons (ps_for PassesOwn.never rfl (pi_list (pe_fld (pv 0) rfl)) (pg_name (i := 2) scMbnd.nd rfl (.inl rfl))
      (pss_one (ps_if (PW.pt (pw_and (pt_cmpR op_eq (pe_ix ix_list (pv 2) pe_int (fun _ _ => rfl)) pe_str (nomark _)) (pw_and1 (pt_cmpR op_le (pe_ix ix_list (pv 2) pe_int (fun _ _ => rfl)) (pv 1) (nomark _))))) (pss_one (ps_ret (pv 2))) pss_nil)))
    (pss_one (ps_ret pe_non))), ?_⟩
  refine ⟨_, rfl, p, CI, dx, _, _, rfl, hp, T.cI, T.nI_rows, iF_rows, ml, rfl, ⟨_, SqL.of hml⟩, ?_⟩
  refine for_list (K := K) (a := ml) (xs := []) (fun i σ H' => H' = H) rfl (fun i σ H' _ h => by rw [h]; exact SqL.of hml) (fun i v σ H' hv _ => by cases hv) ?_
  rintro σ H' rfl
  exact k
abbrev sMdue : Stmt := inClass (topS 89) 4
def scMdueN : List Str := ["self", "beat", "row"]
theorem scMdue : FnScope scMdueN ["self", "beat"] (defScope sMdue) := ⟨rfl, rfl, rfl, by decide +kernel, rfl, by decide +kernel, by decide +kernel⟩
theorem ok_Mdue {f : Addr} {fd : FuncData} (F : Fun K "due" "Mishaps.due" sMdue f fd) (T : Ty K mg CB CM CP CK CW CF CH CC CI CS) : FnOk P w K mg base CX0 1 f fd ["self", "beat"] (spDue CI) := by
  refine F.ok scMdue (fun vs H Q E h => by obtain ⟨_, _, _, _, _, rfl, _⟩ := h; rfl) (fun cdv A outer s H vs Q E hr h => ?_)
  have hu := hu_of hr
  obtain ⟨p, dx, ml, mr, bt, rfl, hp, hml, k⟩ := h
  refine ⟨_, (pss_one (ps_ret (pe_lc (own := [("row", 2)]) (g := gName 2) (by rfl) scMdue.nd (pi_list (pe_fld (pv 0) rfl)) (blkOk_by (own := [("row", 2)]) (N := scMdueN) (sc := defScope sMdue) (by decide +kernel)) (fun _ _ _ _ _ => (pg_name (i := 2) scMdue.nd rfl (.inl rfl))) (fun _ _ _ _ _ => (pts_one (PW.pt (pw_and (pt_cmpR op_ne (pe_ix (ix_listK (K := K)) (pv 2) pe_int (fun _ _ => rfl)) pe_str (nomark _)) (pw_and1 (pt_cmpR op_le (pe_ix (ix_listK (K := K)) (pv 2) pe_int (fun _ _ => rfl)) (pv 1) (nomark _))))))) (fun _ _ _ _ _ => (pv 2))))), ?_⟩
  refine ⟨_, rfl, p, CI, dx, _, _, rfl, hp, T.cI, T.nI_rows, iF_rows, ml, rfl, ⟨_, SqL.of hml⟩, fun D nD => ?_⟩
  refine lc_list (K := K) (a := ml) (xs := []) (fun i H' => H' = upd H D (.lst [])) rfl (fun i H' _ h => by rw [h]; exact SqL.of (same_upd' nD _ _ hml)) (fun i v H' hv _ => by cases hv) ?_
  rintro H' rfl
  exact k _ D (same_upd' nD) nD upd_same
abbrev sMsta : Stmt := inClass (topS 83) 2
def scMstaN : List Str := ["self", "address"]
theorem scMsta : FnScope scMstaN ["self", "address"] (defScope sMsta) := ⟨rfl, rfl, rfl, by decide +kernel, rfl, by decide +kernel, by decide +kernel⟩
theorem ok_Msta {f : Addr} {fd : FuncData} (F : Fun K "stands_at" "Marks.stands_at" sMsta f fd) (T : Ty K mg CB CM CP CK CW CF CH CC CI CS) : FnOk P w K mg base CX0 1 f fd ["self", "address"] (spSta CK CM) := by
  refine F.ok scMsta (fun vs H Q E h => by obtain ⟨_, _, _, _, _, _, _, _, _, rfl, _⟩ := h; rfl) (fun cdv A outer s H vs Q E hr h => ?_)
  have hu := hu_of hr
  obtain ⟨p, dk, m, dm, hd, er, ww, s_, a_, rfl, hp, hhd, hm, hs, k⟩ := h
  refine ⟨_, (pss_one (ps_ret (pe_or (pe_cmp (pc_din hu (pv 1) (pe_fld (pv 0) rfl))) (pe_one (pe_cmp (pc_din hu (pv 1) (pe_fld (pe_fld (pv 0) rfl) rfl))))))), ?_⟩
  refine ⟨_, rfl, _, rfl, p, CK, dk, _, _, rfl, hp, T.cK, T.nK_hard, kF_hard, hd, _, rfl, DGet.k (k := Sum.inl a_) hhd, _, rfl, ifB (fun h => by cases h) (fun _ => ?_)⟩
  exact ⟨_, rfl, _, rfl, p, CK, dk, _, _, rfl, hp, T.cK, T.nK_memory, kF_memory, m, CM, dm, _, _, rfl, hm, T.cM, T.n_swapped, mF_s, s_, _, rfl, DGet.k (k := Sum.inl a_) hs, k⟩
end
end Bh

/-! Words stay words: nothing becomes less than nought; how much is sent in a turn. -/
namespace Bh
open PySem PySem.Spec PyProof.Rows L2
theorem and_natN (x y : Nat) : Builtin.bitAnd (x : Int) (y : Int) = ((x &&& y : Nat) : Int) := by
  unfold Builtin.bitAnd
  rw [decide_eq_true (by omega), decide_eq_true (by omega)]
  rfl
theorem or_natN (x y : Nat) : Builtin.bitOr (x : Int) (y : Int) = ((x ||| y : Nat) : Int) := by
  unfold Builtin.bitOr Builtin.bitAnd Builtin.bitNot
  rw [decide_eq_false (by omega), decide_eq_false (by omega)]
  simp only
  have e1 : (-(-(x : Int) - 1) - 1).toNat = x := by omega
  have e2 : (-(-(y : Int) - 1) - 1).toNat = y := by omega
  rw [e1, e2]
  omega
theorem and_ge {x : Int} (y : Int) (hx : 0 ≤ x) : 0 ≤ Builtin.bitAnd x y := by
  unfold Builtin.bitAnd
  rw [decide_eq_true hx]
  by_cases h : 0 ≤ y
  · rw [decide_eq_true h]
    show (0 : Int) ≤ ((x.toNat &&& y.toNat : Nat) : Int)
    omega
  · rw [decide_eq_false h]
    show (0 : Int) ≤ x - ((x.toNat &&& (Builtin.bitNot y).toNat : Nat) : Int)
    have := Nat.and_le_left (n := x.toNat) (m := (Builtin.bitNot y).toNat)
    omega
theorem or_ge {x y : Int} (hx : 0 ≤ x) (hy : 0 ≤ y) : 0 ≤ Builtin.bitOr x y := by
  rw [← Int.toNat_of_nonneg hx, ← Int.toNat_of_nonneg hy, or_natN]
  omega
theorem xor_ge {x y : Int} (hx : 0 ≤ x) (hy : 0 ≤ y) : 0 ≤ Builtin.bitXor x y := by
  unfold Builtin.bitXor
  rw [← Int.toNat_of_nonneg hx, ← Int.toNat_of_nonneg hy, or_natN, and_natN]
  have h1 := Nat.and_le_left (n := x.toNat) (m := y.toNat)
  have h2 := Nat.left_le_or (n := x.toNat) (m := y.toNat)
  omega
def Mge (m : List Int) : Prop := ∀ j : Int, 0 ≤ rd m j
theorem Mge.st {m : List Int} (h : Mge m) {i v : Int} (hv : 0 ≤ v) : Mge (stM m i v) := fun j => by
  have h0 := h j
  unfold rd stM at *
  rw [List.getD_eq_getElem?_getD] at h0 ⊢
  rw [List.getElem?_set]
  split
  · split
    · exact hv
    · exact Int.le_refl 0
  · exact h0
theorem mge_of {m : List Int} (h : ∀ w ∈ m, 0 ≤ w) : Mge m := fun j => by
  unfold rd
  rw [List.getD_eq_getElem?_getD]
  cases e : m[j.toNat]? with
  | none => exact Int.le_refl 0
  | some w => exact h w (List.mem_of_getElem? e)
structure NN (x : Bd) : Prop where
  a : 0 ≤ x.a
  b : 0 ≤ x.b
  p : 0 ≤ x.pc
  m : Mge x.mem
  l : ∀ u ∈ x.line, 0 ≤ u.2
theorem Mge.takeLine {m : List Int} (h : Mge m) {v : Int} (hv : 0 ≤ v) : Mge (takeLineM v m) := by
  have h1 := h.st (i := 772) hv
  unfold takeLineM
  split
  · exact h1.st (or_ge (h1 770) (by decide))
  · exact h1
theorem Mge.goTimer {m : List Int} (h : Mge m) : Mge (goTimerM m) := by
  unfold goTimerM
  split
  · exact h
  · split
    · exact (h.st (or_ge (h 770) (by decide))).st (Int.le_refl 0)
    · exact h.st (by have := h 768; omega)
theorem Mge.putM {m : List Int} (h : Mge m) {a v : Int} (hv : 0 ≤ v) : Mge (putMM a v m) := by
  unfold putMM
  split
  · exact h.st (and_ge _ (h 770))
  · exact h.st hv
theorem NN.come {x : Bd} (h : NN x) : NN (comeM x) := by
  unfold comeM
  split
  · rename_i z
    refine { h with m := h.m.takeLine ?_ }
    obtain ⟨z1, _⟩ := z
    rw [List.getD_eq_getElem?_getD, List.getElem?_eq_getElem z1]
    exact h.l _ (List.getElem_mem z1)
  · exact h
theorem NN.one {x : Bd} (h : NN x) : NN (passOneM x) := by
  have h1 : NN { x with beat := x.beat + 1 } := { h with }
  have h2 := h1.come
  exact { h2 with m := h2.m.goTimer }
theorem NN.pass : ∀ (n : Nat) {x : Bd}, NN x → NN (passM n x)
  | 0, _, h => h
  | n + 1, _, h => NN.pass n h.one
theorem NN.put {x : Bd} (h : NN x) {a v : Int} (hv : 0 ≤ v) : NN (putWM a v x) := by
  unfold putWM sendM
  split
  · exact { h with m := h.m.putM hv }
  · exact { h with m := h.m.putM hv }
theorem reads_ge {m : List Int} (h : Mge m) (ts : List (Bool × Int)) (i : Nat) : 0 ≤ (readsM m ts).getD i 0 := by
  unfold readsM
  rw [List.getD_eq_getElem?_getD, List.getElem?_map]
  cases (ts.filter fun t => !t.1)[i]? with
  | none => exact Int.le_refl 0
  | some t => exact h t.2
theorem NN.give {x : Bd} (h : NN x) {v : Int} (hv : 0 ≤ v) : NN (giveM v x) := { h with a := hv }
theorem NN.doM {x : Bd} (h : NN x) {op : Nat} {n : Int} (hn : 0 ≤ n) {ws : List Int} (hw : ∀ i, 0 ≤ ws.getD i 0) : NN (Bh.doM op n ws x) := by
  unfold Bh.doM
  split
  · exact h.give hn
  · exact h.give (hw 0)
  · exact h.put h.a
  · exact h.give (Int.emod_nonneg _ (by decide))
  · exact h.give (Int.emod_nonneg _ (by decide))
  · exact h.give (and_ge _ h.a)
  · exact h.give (xor_ge h.a (hw 0))
  · exact h.give (hw 0)
  · exact h.put h.a
  · exact { h with b := h.a }
  · exact { h.give h.b with b := h.a }
  · exact { h with p := hn }
  · split
    · exact { h with p := hn }
    · exact h
  · split
    · exact { h with p := hn }
    · exact h
  · exact { h.put h.p with p := hn }
  · exact { h with p := hw 0 }
  · exact { h.put h.a with }
  · have h1 : NN { x with sp := x.sp + 1 } := { h with }
    exact h1.give (hw 0)
  · exact { h with }
  · exact { h with }
  · exact { h with p := hw 1 }
  · exact h.give (Int.ediv_nonneg h.a (by decide))
  · exact h
theorem NN.deed {x : Bd} (h : NN x) : NN (deedM x).2 := by
  rcases deed_cases x with ⟨w, ns, e⟩ | e
  · rw [e]
    exact { h with }
  · rw [e]
    have h1 : NN { x with pc := x.pc + 1 } := { h with p := by have := h.p; show 0 ≤ x.pc + 1; omega }
    exact NN.pass _ (h1.doM (Int.emod_nonneg _ (by decide)) (reads_ge h.m _))
theorem NN.int {x : Bd} (h : NN x) : NN (intM x).2 := by
  unfold intM
  split
  · exact { h with }
  · have h1 : NN (putWM (x.sp - 1) (b2n x.zero) (putWM x.sp x.pc x)) := (h.put h.p).put (by unfold b2n; split <;> decide)
    refine NN.pass 3 { h1 with p := ?_ }
    show (0 : Int) ≤ if Builtin.bitAnd (calledM x) 1 ≠ 0 then 1 else 2
    split <;> decide
theorem NN.turn {x : Bd} (h : NN x) : NN (turnM x).2 := by
  unfold turnM
  split
  · exact h
  · split
    · exact h.pass 1
    · split
      · exact NN.int { h with }
      · exact NN.deed { h with }
theorem NN.ok {x : Bd} (h : NN x) : PcOk x := fun _ _ => h.m _
theorem NN.tvd {x : Bd} (h : NN x) (T D : V) : NN (x.tvd T D) := { h with }
theorem come_sent (x : Bd) : (comeM x).sent = x.sent := by
  unfold comeM
  split <;> rfl
theorem pass_sent : ∀ (n : Nat) (x : Bd), (passM n x).sent = x.sent
  | 0, _ => rfl
  | n + 1, x => by
    show (passM n (passOneM x)).sent = x.sent
    rw [pass_sent n]
    exact come_sent { x with beat := x.beat + 1 }
theorem do_sent (op : Nat) (n : Int) (ws : List Int) (x : Bd) : (doM op n ws x).sent.length ≤ x.sent.length + 1 := by
  unfold doM
  split
  all_goals first
    | exact Nat.le_succ _
    | exact putWM_sent _ _ x
    | (split <;> exact Nat.le_succ _)
theorem turn_sent (x : Bd) : (turnM x).2.sent.length ≤ x.sent.length + 2 := by
  unfold turnM
  split
  · exact Nat.le_add_right _ _
  · split
    · rw [show ((("asleep" : Str), passM 1 x).2).sent = x.sent from pass_sent 1 x]
      exact Nat.le_add_right _ _
    · split
      · unfold intM
        split
        · exact Nat.le_add_right _ _
        · show (passM 3 _).sent.length ≤ _
          rw [pass_sent]
          have h1 := putWM_sent x.sp x.pc { x with asleep := false }
          have h2 := putWM_sent (x.sp - 1) (b2n x.zero) (putWM x.sp x.pc { x with asleep := false })
          exact Nat.le_trans h2 (Nat.succ_le_succ h1)
      · rcases deed_cases { x with asleep := false } with ⟨w, ns, e⟩ | e
        · rw [e]
          exact Nat.le_add_right _ _
        · rw [e]
          show (passM _ _).sent.length ≤ _
          rw [pass_sent]
          exact Nat.le_succ_of_le (do_sent _ _ _ _)
/-- what a turn leaves: where the memory's objects stand -/
theorem come_ma (x : Bd) : (comeM x).ma = x.ma ∧ (comeM x).sa = x.sa := by
  unfold comeM
  split <;> exact ⟨rfl, rfl⟩
theorem pass_ma : ∀ (n : Nat) (x : Bd), (passM n x).ma = x.ma ∧ (passM n x).sa = x.sa
  | 0, _ => ⟨rfl, rfl⟩
  | n + 1, x => by
    obtain ⟨h1, h2⟩ := pass_ma n (passOneM x)
    obtain ⟨h3, h4⟩ := come_ma { x with beat := x.beat + 1 }
    exact ⟨h1.trans h3, h2.trans h4⟩
theorem put_ma (a v : Int) (x : Bd) : (putWM a v x).ma = x.ma ∧ (putWM a v x).sa = x.sa := by
  unfold putWM sendM
  split <;> exact ⟨rfl, rfl⟩
theorem do_ma (op : Nat) (n : Int) (ws : List Int) (x : Bd) : (doM op n ws x).ma = x.ma ∧ (doM op n ws x).sa = x.sa := by
  unfold doM
  split
  all_goals first
    | exact ⟨rfl, rfl⟩
    | exact put_ma _ _ x
    | (split <;> exact ⟨rfl, rfl⟩)
theorem turn_ma (x : Bd) : (turnM x).2.ma = x.ma ∧ (turnM x).2.sa = x.sa := by
  unfold turnM
  split
  · exact ⟨rfl, rfl⟩
  · split
    · exact pass_ma 1 x
    · split
      · unfold intM
        split
        · exact ⟨rfl, rfl⟩
        · obtain ⟨h1, h2⟩ := put_ma x.sp x.pc { x with asleep := false }
          obtain ⟨h3, h4⟩ := put_ma (x.sp - 1) (b2n x.zero) (putWM x.sp x.pc { x with asleep := false })
          obtain ⟨h5, h6⟩ := pass_ma 3 { putWM (x.sp - 1) (b2n x.zero) (putWM x.sp x.pc { x with asleep := false }) with sp := x.sp - 2, lets := false, pc := if Builtin.bitAnd (calledM x) 1 ≠ 0 then 1 else 2 }
          exact ⟨h5.trans (h3.trans h1), h6.trans (h4.trans h2)⟩
      · rcases deed_cases { x with asleep := false } with ⟨w, ns, e⟩ | e
        · rw [e]
          exact ⟨rfl, rfl⟩
        · rw [e]
          obtain ⟨h1, h2⟩ := do_ma (opM x) (xM x) (readsM x.mem (toM x)) { x with asleep := false, pc := x.pc + 1 }
          obtain ⟨h3, h4⟩ := pass_ma (1 + (toM x).length) (doM (opM x) (xM x) (readsM x.mem (toM x)) { x with asleep := false, pc := x.pc + 1 })
          exact ⟨h3.trans h1, h4.trans h2⟩
end Bh

/-! A probe in the heap. -/
namespace Bh
open PySem PySem.Spec PyProof.Rows L2
/-- where a probe's things stand -/
structure Ap where
  dx : Addr
  bd : Addr
  A : Ad
  ts : List V
  ls : List V
  st : Addr
  dk : Addr
  hd : Addr
  er : Addr
  wa : Addr
  dw : Addr
  wr : Addr
  fr : Addr
  df : Addr
  fl : Addr
  hi : Addr
  dh : Addr
  hl : Addr
  co : Addr
  dc : Addr
  cd : Addr
  cf : Addr
  mi : Addr
  dm : Addr
  ml : Addr
  mr : Addr
  sd : Addr
  us : List V
  hs : List V
  kd : List (Key × V)
def Ap.own (p : Addr) (a : Ap) : List Addr := [p, a.fr, a.fl, a.hi, a.hl, a.co, a.cd, a.cf]
def FtP (p : Addr) (a : Ap) (b : Addr) : Prop := FtB a.bd a.A b ∨ b ∈ a.own p
def Pm.tvd (x : Pm) (T D : V) : Pm := { x with b := x.b.tvd T D }
structure PrC (CB CM CP CK CW CF CH CC CI : Addr) (S H : Hp) (p : Addr) (a : Ap) (x : Pm) : Prop where
  sm : Same S H
  fs : ∀ b, FtP p a b → S b = none
  nd : (a.own p).Nodup
  ob : ∀ b, b ∈ a.own p → ¬ FtB a.bd a.A b
  hp : H p = some (.ins CP a.dx (prF a.bd a.st a.wa a.fr a.hi a.co a.mi a.sd x.gone .non))
  B : BdOn CB CM H a.bd a.A a.ts a.ls x.b
  hfr : H a.fr = some (.ins CF a.df (frF a.fl x.strays))
  hfl : H a.fl = some (.lst a.us)
  rows : T3At H a.us x.rows
  hhi : H a.hi = some (.ins CH a.dh (hiF a.hl x.faded))
  hhl : H a.hl = some (.lst a.hs)
  hist : HtAt H a.hs x.hist
  hco : H a.co = some (.ins CC a.dc (coF a.cd a.cf x.idle x.peeked))
  hcd : H a.cd = some (.dK a.kd)
  deeds : DdAt H a.kd x.deeds
  hcf : H a.cf = some (.dK (spD x.spent))
  hst : S a.st = some (.ins CK a.dk (mkF x.b.ma a.hd a.er))
  hhd : S a.hd = some (.dK [])
  hwa : S a.wa = some (.ins CW a.dw (wtF a.wr))
  hwr : S a.wr = some (.lst [.non, .non])
  hmi : S a.mi = some (.ins CI a.dm (miF a.ml a.mr))
  hml : S a.ml = some (.lst [])
/-- how much there is of each -/
structure PrN (x : Pm) : Prop where
  s : x.b.sent.length ≤ 2 * x.n
  r : x.rows.length ≤ x.n
  h : x.hist.length ≤ 32
  d : x.deeds.length ≤ x.n
  t : x.spent.length ≤ x.n
  nn : NN x.b
theorem nd_ne {α : Type} {l : List α} {a b : α} (nd : l.Nodup) {i j : Nat} (h : i < j) (hi : l[i]? = some a) (hj : l[j]? = some b) : a ≠ b := fun e => by
  obtain ⟨i1, e1⟩ := List.getElem?_eq_some_iff.mp hi
  obtain ⟨j1, e2⟩ := List.getElem?_eq_some_iff.mp hj
  have := List.pairwise_iff_getElem.mp nd i j i1 j1 h
  exact this (e1.trans (e.trans e2.symm))
section
variable {CB CM CP CK CW CF CH CC CI : Addr} {S H H' : Hp} {p : Addr} {a : Ap} {x : Pm}
theorem PrC.solid (C : PrC CB CM CP CK CW CF CH CC CI S H p a x) : ∀ b, FtP p a b → ∃ o, H b = some o ∧ ∀ xs, o ≠ .tup xs := fun b h => by
  rcases h with h | h
  · exact C.B.solid b h
  · have h : b ∈ [p, a.fr, a.fl, a.hi, a.hl, a.co, a.cd, a.cf] := h
    simp only [List.mem_cons, List.not_mem_nil, or_false] at h
    rcases h with h | h | h | h | h | h | h | h <;> rw [h]
    · exact ⟨_, C.hp, fun xs z => by cases z⟩
    · exact ⟨_, C.hfr, fun xs z => by cases z⟩
    · exact ⟨_, C.hfl, fun xs z => by cases z⟩
    · exact ⟨_, C.hhi, fun xs z => by cases z⟩
    · exact ⟨_, C.hhl, fun xs z => by cases z⟩
    · exact ⟨_, C.hco, fun xs z => by cases z⟩
    · exact ⟨_, C.hcd, fun xs z => by cases z⟩
    · exact ⟨_, C.hcf, fun xs z => by cases z⟩
theorem PrC.m1 (C : PrC CB CM CP CK CW CF CH CC CI S H p a x) {i : Nat} {b : Addr} (h : (a.own p)[i]? = some b) : b ∈ a.own p := List.mem_of_getElem? h
/-- tuples stand as they stood where no more than own things changed -/
theorem tup_keep {F : Addr → Prop} (sol : ∀ b, F b → ∃ o, H b = some o ∧ ∀ xs, o ≠ .tup xs) (k : ∀ b o, ¬ F b → H b = some o → H' b = some o) : ∀ t xs, H t = some (.tup xs) → H' t = some (.tup xs) := fun t xs e => k t _ (fun z => by
  obtain ⟨o, e1, n⟩ := sol t z
  rw [e1] at e
  exact n xs (Option.some.inj e)) e
/-- it stands where the others' changes leave it -/
theorem PrC.keep (C : PrC CB CM CP CK CW CF CH CC CI S H p a x) (sm : Same S H') (k : ∀ b o, FtP p a b → H b = some o → H' b = some o) (t : ∀ b xs, H b = some (.tup xs) → H' b = some (.tup xs)) : PrC CB CM CP CK CW CF CH CC CI S H' p a x :=
  have o : ∀ {i : Nat} {b : Addr}, (a.own p)[i]? = some b → FtP p a b := fun h => .inr (List.mem_of_getElem? h)
  { C with
    sm := sm
    hp := k _ _ (o (i := 0) rfl) C.hp
    B := C.B.keep (fun b o h e => k b o (.inl h) e) t
    hfr := k _ _ (o (i := 1) rfl) C.hfr
    hfl := k _ _ (o (i := 2) rfl) C.hfl
    rows := C.rows.mono t
    hhi := k _ _ (o (i := 3) rfl) C.hhi
    hhl := k _ _ (o (i := 4) rfl) C.hhl
    hist := C.hist.mono t
    hco := k _ _ (o (i := 5) rfl) C.hco
    hcd := k _ _ (o (i := 6) rfl) C.hcd
    deeds := C.deeds.mono t
    hcf := k _ _ (o (i := 7) rfl) C.hcf }
theorem PrC.same (C : PrC CB CM CP CK CW CF CH CC CI S H p a x) (s : Same H H') : PrC CB CM CP CK CW CF CH CC CI S H' p a x :=
  C.keep (C.sm.trans s) (fun b o _ e => s b o e) (fun b xs e => s b _ e)
/-- another's call changed what is not its own -/
theorem PrC.other {F F' : Addr → Prop} (C : PrC CB CM CP CK CW CF CH CC CI S H p a x) (f : Fr F H F' H') (d : ∀ b, F b → ¬ FtP p a b) (ds : ∀ b, F b → S b = none) (sol : ∀ b, F b → ∃ o, H b = some o ∧ ∀ xs, o ≠ .tup xs) : PrC CB CM CP CK CW CF CH CC CI S H' p a x :=
  C.keep (f.st C.sm ds) (fun b o h e => f.keep b o (fun z => d b z h) e) (tup_keep sol f.keep)
/-- its board changed -/
theorem PrC.board (C : PrC CB CM CP CK CW CF CH CC CI S H p a x) {A' : Ad} {ts' ls' : List V} {y : Bd} (B : BdOn CB CM H' a.bd A' ts' ls' y) (f : Fr (FtB a.bd a.A) H (FtB a.bd A') H') (em : y.ma = x.b.ma) : PrC CB CM CP CK CW CF CH CC CI S H' p { a with A := A', ts := ts', ls := ls' } { x with b := y } :=
  have t := tup_keep C.B.solid f.keep
  have o : ∀ {i : Nat} {b : Addr} {w : HO}, (a.own p)[i]? = some b → H b = some w → H' b = some w := fun h e => f.keep _ _ (C.ob _ (List.mem_of_getElem? h)) e
  { C with
    sm := f.st C.sm (fun b h => C.fs b (.inl h))
    fs := fun b h => by
      rcases h with h | h
      · exact f.stn C.sm (fun b h => C.fs b (.inl h)) b h
      · exact C.fs b (.inr h)
    ob := fun b h z => by
      rcases f.new b z with y | y
      · exact C.ob b h y
      · obtain ⟨o, e, _⟩ := C.solid b (.inr h)
        rw [y] at e
        cases e
    hp := o (i := 0) rfl C.hp
    B := B
    hfr := o (i := 1) rfl C.hfr
    hfl := o (i := 2) rfl C.hfl
    rows := C.rows.mono t
    hhi := o (i := 3) rfl C.hhi
    hhl := o (i := 4) rfl C.hhl
    hist := C.hist.mono t
    hco := o (i := 5) rfl C.hco
    hcd := o (i := 6) rfl C.hcd
    deeds := C.deeds.mono t
    hcf := o (i := 7) rfl C.hcf
    hst := by
      show S a.st = some (.ins CK a.dk (mkF y.ma a.hd a.er))
      rw [em]
      exact C.hst }
theorem PrC.boardFr (C : PrC CB CM CP CK CW CF CH CC CI S H p a x) {A' : Ad} {ts' ls' : List V} (f : Fr (FtB a.bd a.A) H (FtB a.bd A') H') : Fr (FtP p a) H (FtP p { a with A := A', ts := ts', ls := ls' }) H' where
  keep := fun b o n e => f.keep b o (fun z => n (.inl z)) e
  new := fun b z => by
    rcases z with z | z
    · rcases f.new b z with y | y
      · exact .inl (.inl y)
      · exact .inr y
    · exact .inl (.inr z)
/-- own cells changed, by their places -/
theorem PrC.kOwn (C : PrC CB CM CP CK CW CF CH CC CI S H p a x) {l : List Nat} (k : ∀ b o, (∀ i ∈ l, (a.own p)[i]? ≠ some b) → H b = some o → H' b = some o) :
    Same S H' ∧ (∀ b o, FtB a.bd a.A b → H b = some o → H' b = some o) ∧ (∀ t xs, H t = some (.tup xs) → H' t = some (.tup xs)) ∧ (∀ i b o, i ∉ l → (a.own p)[i]? = some b → H b = some o → H' b = some o) ∧ Fr (FtP p a) H (FtP p a) H' := by
  refine ⟨fun b o e => k b o (fun i _ h => ?_) (C.sm _ _ e), fun b o h e => k b o (fun i _ z => C.ob b (List.mem_of_getElem? z) h) e, fun t xs e => k t _ (fun i _ z => ?_) e, fun i b o hi hb e => k b o (fun j hj z => ?_) e, ⟨fun b o n e => k b o (fun i _ z => n (.inr (List.mem_of_getElem? z))) e, fun b z => .inl z⟩⟩
  · rw [C.fs b (.inr (List.mem_of_getElem? h))] at e
    cases e
  · obtain ⟨o, e1, n⟩ := C.solid t (.inr (List.mem_of_getElem? z))
    rw [e1] at e
    exact n xs (Option.some.inj e)
  · rcases Nat.lt_trichotomy i j with h | h | h
    · exact nd_ne C.nd h hb z rfl
    · exact hi (h ▸ hj)
    · exact nd_ne C.nd h z hb rfl
theorem PrC.frames (C : PrC CB CM CP CK CW CF CH CC CI S H p a x) {us' : List V} {rows' : List (Int × Int × Str)} {st' : Int} (k : ∀ b o, b ≠ a.fr → b ≠ a.fl → H b = some o → H' b = some o) (h1 : H' a.fr = some (.ins CF a.df (frF a.fl st'))) (h2 : H' a.fl = some (.lst us')) (h3 : T3At H' us' rows') :
    PrC CB CM CP CK CW CF CH CC CI S H' p { a with us := us' } { x with rows := rows', strays := st' } ∧ Fr (FtP p a) H (FtP p { a with us := us' }) H' := by
  obtain ⟨s, kb, t, ko, f⟩ := C.kOwn (l := [1, 2]) (H' := H') (fun b o n e => k b o (fun z => n 1 (by decide) (by rw [z]; rfl)) (fun z => n 2 (by decide) (by rw [z]; rfl)) e)
  exact ⟨{ C with
    sm := s
    hp := ko 0 _ _ (by decide) rfl C.hp
    B := C.B.keep kb t
    hfr := h1
    hfl := h2
    rows := h3
    hhi := ko 3 _ _ (by decide) rfl C.hhi
    hhl := ko 4 _ _ (by decide) rfl C.hhl
    hist := C.hist.mono t
    hco := ko 5 _ _ (by decide) rfl C.hco
    hcd := ko 6 _ _ (by decide) rfl C.hcd
    deeds := C.deeds.mono t
    hcf := ko 7 _ _ (by decide) rfl C.hcf }, f⟩
theorem PrC.history (C : PrC CB CM CP CK CW CF CH CC CI S H p a x) {hs' : List V} {hist' : List (Int × Str × Int)} {f' : Int} (k : ∀ b o, b ≠ a.hi → b ≠ a.hl → H b = some o → H' b = some o) (h1 : H' a.hi = some (.ins CH a.dh (hiF a.hl f'))) (h2 : H' a.hl = some (.lst hs')) (h3 : HtAt H' hs' hist') :
    PrC CB CM CP CK CW CF CH CC CI S H' p { a with hs := hs' } { x with hist := hist', faded := f' } ∧ Fr (FtP p a) H (FtP p { a with hs := hs' }) H' := by
  obtain ⟨s, kb, t, ko, f⟩ := C.kOwn (l := [3, 4]) (H' := H') (fun b o n e => k b o (fun z => n 3 (by decide) (by rw [z]; rfl)) (fun z => n 4 (by decide) (by rw [z]; rfl)) e)
  exact ⟨{ C with
    sm := s
    hp := ko 0 _ _ (by decide) rfl C.hp
    B := C.B.keep kb t
    hfr := ko 1 _ _ (by decide) rfl C.hfr
    hfl := ko 2 _ _ (by decide) rfl C.hfl
    rows := C.rows.mono t
    hhi := h1
    hhl := h2
    hist := h3
    hco := ko 5 _ _ (by decide) rfl C.hco
    hcd := ko 6 _ _ (by decide) rfl C.hcd
    deeds := C.deeds.mono t
    hcf := ko 7 _ _ (by decide) rfl C.hcf }, f⟩
theorem PrC.counts (C : PrC CB CM CP CK CW CF CH CC CI S H p a x) {kd' : List (Key × V)} {ds' : List (Int × Int × Int)} {sp' : List (Int × Int)} {i' pk' : Int} (k : ∀ b o, b ≠ a.co → b ≠ a.cf → b ≠ a.cd → H b = some o → H' b = some o) (h1 : H' a.co = some (.ins CC a.dc (coF a.cd a.cf i' pk'))) (h2 : H' a.cf = some (.dK (spD sp'))) (h3 : H' a.cd = some (.dK kd')) (h4 : DdAt H' kd' ds') :
    PrC CB CM CP CK CW CF CH CC CI S H' p { a with kd := kd' } { x with deeds := ds', spent := sp', idle := i', peeked := pk' } ∧ Fr (FtP p a) H (FtP p { a with kd := kd' }) H' := by
  obtain ⟨s, kb, t, ko, f⟩ := C.kOwn (l := [5, 6, 7]) (H' := H') (fun b o n e => k b o (fun z => n 5 (by decide) (by rw [z]; rfl)) (fun z => n 7 (by decide) (by rw [z]; rfl)) (fun z => n 6 (by decide) (by rw [z]; rfl)) e)
  exact ⟨{ C with
    sm := s
    hp := ko 0 _ _ (by decide) rfl C.hp
    B := C.B.keep kb t
    hfr := ko 1 _ _ (by decide) rfl C.hfr
    hfl := ko 2 _ _ (by decide) rfl C.hfl
    rows := C.rows.mono t
    hhi := ko 3 _ _ (by decide) rfl C.hhi
    hhl := ko 4 _ _ (by decide) rfl C.hhl
    hist := C.hist.mono t
    hco := h1
    hcd := h3
    deeds := h4
    hcf := h2 }, f⟩
theorem PrC.turned (C : PrC CB CM CP CK CW CF CH CC CI S H p a x) {g : Int} :
    PrC CB CM CP CK CW CF CH CC CI S (upd H p (.ins CP a.dx (prF a.bd a.st a.wa a.fr a.hi a.co a.mi a.sd g .non))) p a { x with gone := g } ∧ Fr (FtP p a) H (FtP p a) (upd H p (.ins CP a.dx (prF a.bd a.st a.wa a.fr a.hi a.co a.mi a.sd g .non))) := by
  obtain ⟨s, kb, t, ko, f⟩ := C.kOwn (l := [0]) (H' := upd H p (.ins CP a.dx (prF a.bd a.st a.wa a.fr a.hi a.co a.mi a.sd g .non))) (fun b o n e => by rw [upd_ne (fun z => n 0 (by decide) (by rw [z]; rfl))]; exact e)
  exact ⟨{ C with
    sm := s
    hp := upd_same
    B := C.B.keep kb t
    hfr := ko 1 _ _ (by decide) rfl C.hfr
    hfl := ko 2 _ _ (by decide) rfl C.hfl
    rows := C.rows.mono t
    hhi := ko 3 _ _ (by decide) rfl C.hhi
    hhl := ko 4 _ _ (by decide) rfl C.hhl
    hist := C.hist.mono t
    hco := ko 5 _ _ (by decide) rfl C.hco
    hcd := ko 6 _ _ (by decide) rfl C.hcd
    deeds := C.deeds.mono t
    hcf := ko 7 _ _ (by decide) rfl C.hcf }, f⟩
end
end Bh

/-! A turn goes by under a probe. -/
namespace Bh
open PySem PySem.Spec PyProof.Rows L2
theorem bF_did {r t m l : Addr} {z le as : Bool} {bt : Int} {la : Nat} {sv tv dv : V} : (bdF r t m l z le as bt sv la tv dv).lookup ("did" : Str) = some dv := by kernel_rfl
theorem bF_tou {r t m l : Addr} {z le as : Bool} {bt : Int} {la : Nat} {sv tv dv : V} : (bdF r t m l z le as bt sv la tv dv).lookup ("touched" : Str) = some tv := by kernel_rfl
/-- what is never called here -/
def spNo : Sp := fun _ _ _ _ => False
def Tl (H : Hp) (T : V) : Prop := ∃ tl us ts, T = .ref tl ∧ H tl = some (.lst us) ∧ TouAt H us ts
section
variable (CB CM CP CK CW CF CH CC CI : Addr)
def spTf : Sp := fun vs H Q _ => ∃ (S : Hp) (p : Addr) (a : Ap) (x : Pm), vs = [.ref p] ∧ PrC CB CM CP CK CW CF CH CC CI S H p a x ∧ ∀ H', Same H H' → Q .non H'
def spNT : Sp := fun vs H Q _ => ∃ (S : Hp) (p : Addr) (a : Ap) (x : Pm), vs = [.ref p] ∧ PrC CB CM CP CK CW CF CH CC CI S H p a x ∧ PrN x ∧ x.n < 99000 ∧
  ∀ H' a' T D, Fr (FtP p a) H (FtP p a') H' → PrC CB CM CP CK CW CF CH CC CI S H' p a' ((noteTM x).2.tvd T D) → Tl H' T → Q (.str (noteTM x).1) H'
def spMm : Sp := fun vs H Q _ => ∃ (S : Hp) (p : Addr) (a : Ap) (x : Pm), vs = [.ref p] ∧ PrC CB CM CP CK CW CF CH CC CI S H p a x ∧ Q (.bl false) H
end
theorem back_len (k : Str) (r : List (Int × Int × Str)) (s : Int) : (backR k r s).1.length ≤ r.length := by
  unfold backR
  split
  · exact Nat.le_refl _
  · split
    · rw [List.length_dropLast]
      exact Nat.sub_le _ _
    · exact Nat.le_refl _
theorem foll_len (x : Pm) : (follT x).1.length ≤ x.rows.length + 1 := by
  unfold follT followR
  split
  · rw [List.length_append]; exact Nat.le_refl _
  · split
    · rw [List.length_append]; exact Nat.le_refl _
    · split
      · exact Nat.le_succ_of_le (back_len _ _ _)
      · split
        · exact Nat.le_succ_of_le (back_len _ _ _)
        · exact Nat.le_succ _
theorem didV_or (x : Bd) : didV x = .non ∨ ∃ n, didV x = .str n := by
  unfold didV
  split
  · exact .inr ⟨_, rfl⟩
  · exact .inl rfl
section
variable {P : Program} {w : World} {K : PySem.W.Frag} {mg : Str → Option Value} {base : Heap} {CB CM CP CK CW CF CH CC CI CS : Addr}
abbrev sMcme : Stmt := inClass (topS 89) 5
theorem ok_Mcme {f : Addr} {fd : FuncData} (F : Fun K "come" "Mishaps.come" sMcme f fd) (T : Ty K mg CB CM CP CK CW CF CH CC CI CS) : FnOk P w K mg base CX0 1 f fd ["self", "fault", "beat"] (spNo) := ⟨fun vs H Q E h => h.elim, fun A outer s H args us vs Q E hr he hb hv h => h.elim⟩
abbrev sMtbit : Stmt := inClass (topS 58) 7
theorem ok_Mtbit {f : Addr} {fd : FuncData} (F : Fun K "turn_bit" "Memory.turn_bit" sMtbit f fd) (T : Ty K mg CB CM CP CK CW CF CH CC CI CS) : FnOk P w K mg base CX0 1 f fd ["self", "address", "bit"] (spNo) := ⟨fun vs H Q E h => h.elim, fun A outer s H args us vs Q E hr he hb hv h => h.elim⟩
abbrev sMlose : Stmt := inClass (topS 75) 3
theorem ok_Mlose {f : Addr} {fd : FuncData} (F : Fun K "lose_power" "Board.lose_power" sMlose f fd) (T : Ty K mg CB CM CP CK CW CF CH CC CI CS) : FnOk P w K mg base CX0 1 f fd ["self"] (spNo) := ⟨fun vs H Q E h => h.elim, fun A outer s H args us vs Q E hr he hb hv h => h.elim⟩
abbrev sMpeek : Stmt := inClass (topS 99) 21
theorem ok_Mpeek {f : Addr} {fd : FuncData} (F : Fun K "peek" "Probe.peek" sMpeek f fd) (T : Ty K mg CB CM CP CK CW CF CH CC CI CS) : FnOk P w K mg base CX0 1 f fd ["self", "address"] (spNo) := ⟨fun vs H Q E h => h.elim, fun A outer s H args us vs Q E hr he hb hv h => h.elim⟩
abbrev sMngv : Stmt := inClass (topS 99) 20
theorem ok_Mngv {f : Addr} {fd : FuncData} (F : Fun K "note_gone" "Probe.note_gone" sMngv f fd) (T : Ty K mg CB CM CP CK CW CF CH CC CI CS) : FnOk P w K mg base CX0 1 f fd ["self", "addresses", "whole"] (spNo) := ⟨fun vs H Q E h => h.elim, fun A outer s H args us vs Q E hr he hb hv h => h.elim⟩
abbrev sMtf : Stmt := inClass (topS 99) 25
def scMtfN : List Str := ["self", "fault"]
theorem scMtf : FnScope scMtfN ["self"] (defScope sMtf) := ⟨rfl, rfl, rfl, by decide +kernel, rfl, by decide +kernel, by decide +kernel⟩
theorem ok_Mtf {f : Addr} {fd : FuncData} {fC_fra : Addr} {dC_fra : FuncData} {fM_cme : Addr} {dM_cme : FuncData} {fM_due : Addr} {dM_due : FuncData} {fM_lose : Addr} {dM_lose : FuncData} {fM_tbit : Addr} {dM_tbit : FuncData} (F : Fun K "take_faults" "Probe.take_faults" sMtf f fd) (T : Ty K mg CB CM CP CK CW CF CH CC CI CS)
    (C_fra : CalC P w K mg base CF 1 "Frames" ["self"] (spMkF CF) fC_fra dC_fra)
    (M_cme : CalM P w K mg base CI 1 "come" ["self", "fault", "beat"] (spNo) fM_cme dM_cme)
    (M_due : CalM P w K mg base CI 1 "due" ["self", "beat"] (spDue CI) fM_due dM_due)
    (M_lose : CalM P w K mg base CB 1 "lose_power" ["self"] (spNo) fM_lose dM_lose)
    (M_tbit : CalM P w K mg base CM 1 "turn_bit" ["self", "address", "bit"] (spNo) fM_tbit dM_tbit) : FnOk P w K mg base CX0 3 f fd ["self"] (spTf CB CM CP CK CW CF CH CC CI) := by
  refine F.ok scMtf (fun vs H Q E h => by obtain ⟨_, _, _, _, rfl, _⟩ := h; rfl) (fun cdv A outer s H vs Q E hr h => ?_)
  have hu := hu_of hr
  obtain ⟨S, p, a, x, rfl, C, k⟩ := h
  obtain ⟨sv, tv, dv, hpb, hz⟩ := C.B.hp
  refine ⟨_, (pss_one (ps_for PassesOwn.never rfl (pi_list (pe_meth (pe_fld (pv 0) rfl) M_due.c M_due.m M_due.G (hr.mono (by decide)) M_due.b .nil pass0 (pa_cons (pe_fld (pe_fld (pv 0) rfl) rfl) pa_nil))) (pg_name (i := 1) scMtf.nd rfl (.inl rfl))
      (pss_cons (ps_expr (pe_meth (pe_fld (pv 0) rfl) M_cme.c M_cme.m M_cme.G (hr.mono (by decide)) M_cme.b .nil pass0 (pa_cons (pv 1) (pa_cons (pe_fld (pe_fld (pv 0) rfl) rfl) pa_nil))))
    (pss_one (ps_if (pt_cmpR op_eq (pe_ix ix_list (pv 1) pe_int (fun _ _ => rfl)) pe_str (nomark _)) (pss_one (ps_expr (pe_meth (pe_fld (pe_fld (pv 0) rfl) rfl) M_tbit.c M_tbit.m M_tbit.G (hr.mono (by decide)) M_tbit.b .nil pass0 (pa_cons (pe_ix ix_list (pv 1) pe_int (fun _ _ => rfl)) (pa_cons (pe_ix ix_list (pv 1) pe_int (fun _ _ => rfl)) pa_nil))))) (pss_cons (ps_expr (pe_meth0 (pe_fld (pv 0) rfl) M_lose.c M_lose.m M_lose.G (hr.mono (by decide)) M_lose.b .nil pass0))
    (pss_one (ps_fld (pv 0) (pe_make0 C_fra.M C_fra.I (hr.mono (by decide)) rfl C_fra.g C_fra.b .nil pass0) rfl)))))))), ?_⟩
  refine ⟨_, rfl, p, CP, a.dx, _, _, rfl, C.hp, T.cP, T.nP_mishaps, pF_mishaps, a.mi, a.dm, _, rfl, C.sm _ _ C.hmi, iN_due, _, rfl, p, CP, a.dx, _, _, rfl, C.hp, T.cP, T.nP_board, pF_board, a.bd, CB, a.A.dx, _, _, rfl, hpb, T.cB, T.n_beat, bF_beat, a.mi, a.dm, a.ml, a.mr, x.b.beat, rfl, C.sm _ _ C.hmi, C.sm _ _ C.hml, fun H1 l s1 nl h1 => ?_⟩
  refine ⟨l, rfl, ⟨_, SqL.of h1⟩, ?_⟩
  refine for_list (K := K) (a := l) (xs := []) (fun i σ H' => H' = H1) rfl (fun i σ H' _ h => by rw [h]; exact SqL.of h1) (fun i v σ H' hv _ => by cases hv) ?_
  rintro σ H' rfl
  exact k _ s1
abbrev sMmm : Stmt := inClass (topS 99) 22
def scMmmN : List Str := ["self"]
theorem scMmm : FnScope scMmmN ["self"] (defScope sMmm) := ⟨rfl, rfl, rfl, by decide +kernel, rfl, by decide +kernel, by decide +kernel⟩
theorem ok_Mmm {f : Addr} {fd : FuncData} {fM_coming : Addr} {dM_coming : FuncData} {fM_sta : Addr} {dM_sta : FuncData} (F : Fun K "meets_mark" "Probe.meets_mark" sMmm f fd) (T : Ty K mg CB CM CP CK CW CF CH CC CI CS)
    (M_coming : CalM P w K mg base CB 2 "coming" ["self"] (spComing CB CM) fM_coming dM_coming)
    (M_sta : CalM P w K mg base CK 1 "stands_at" ["self", "address"] (spSta CK CM) fM_sta dM_sta) : FnOk P w K mg base CX0 3 f fd ["self"] (spMm CB CM CP CK CW CF CH CC CI) := by
  refine F.ok scMmm (fun vs H Q E h => by obtain ⟨_, _, _, _, rfl, _⟩ := h; rfl) (fun cdv A outer s H vs Q E hr h => ?_)
  have hu := hu_of hr
  obtain ⟨S, p, a, x, rfl, C, k⟩ := h
  obtain ⟨sv, tv, dv, hpb, hz⟩ := C.B.hp
  refine ⟨_, (pss_one (ps_ret (pe_and (pe_meth (pe_fld (pv 0) rfl) M_sta.c M_sta.m M_sta.G (hr.mono (by decide)) M_sta.b .nil pass0 (pa_cons (pe_dget hu (pe_fld (pe_fld (pv 0) rfl) rfl) pe_str (fun _ _ => rfl)) pa_nil)) (pe_one (pe_cmpR op_eq (pe_meth0 (pe_fld (pv 0) rfl) M_coming.c M_coming.m M_coming.G (hr.mono (by decide)) M_coming.b .nil pass0) pe_str (nomark _)))))), ?_⟩
  refine ⟨_, rfl, p, CP, a.dx, _, _, rfl, C.hp, T.cP, T.nP_standing, pF_standing, a.st, a.dk, _, rfl, C.sm _ _ C.hst, kN_stands_at, _, rfl, p, CP, a.dx, _, _, rfl, C.hp, T.cP, T.nP_board, pF_board, a.bd, CB, a.A.dx, _, _, rfl, hpb, T.cB, T.n_registers, bF_reg, a.A.r, _, rfl, dg (k := Sum.inr "pc") C.B.hr rG_pc, a.st, a.dk, x.b.ma, a.A.dm, a.hd, a.er, a.A.w, a.A.s, x.b.pc, rfl, C.sm _ _ C.hst, C.sm _ _ C.hhd, (by rw [← C.B.am]; exact C.B.hm), C.B.hs, ?_⟩
  exact ⟨_, rfl, ifB (fun h => by cases h) (fun _ => k)⟩
abbrev sMnt : Stmt := inClass (topS 99) 26
def scMntN : List Str := ["self", "beat", "pc", "to", "sort"]
theorem scMnt : FnScope scMntN ["self"] (defScope sMnt) := ⟨rfl, rfl, rfl, by decide +kernel, rfl, by decide +kernel, by decide +kernel⟩
theorem ok_Mnt {f : Addr} {fd : FuncData} {fM_fol : Addr} {dM_fol : FuncData} {fM_hno : Addr} {dM_hno : FuncData} {fM_inn : Addr} {dM_inn : FuncData} {fM_ntu : Addr} {dM_ntu : FuncData} {fM_turn : Addr} {dM_turn : FuncData} (F : Fun K "note_turn" "Probe.note_turn" sMnt f fd) (T : Ty K mg CB CM CP CK CW CF CH CC CI CS)
    (M_fol : CalM P w K mg base CF 2 "follow" ["self", "sort", "did", "at", "to"] (spFol CF) fM_fol dM_fol)
    (M_hno : CalM P w K mg base CH 1 "note" ["self", "beat", "sort", "pc"] (spHno CH) fM_hno dM_hno)
    (M_inn : CalM P w K mg base CF 1 "innermost" ["self"] (spInn CF) fM_inn dM_inn)
    (M_ntu : CalM P w K mg base CC 2 "note_turn" ["self", "sort", "pc", "beats", "to"] (spNtu CC) fM_ntu dM_ntu)
    (M_turn : CalM P w K mg base CB 6 "turn" ["self"] (spTurn CB CM) fM_turn dM_turn) : FnOk P w K mg base CX0 7 f fd ["self"] (spNT CB CM CP CK CW CF CH CC CI) := by
  refine F.ok scMnt (fun vs H Q E h => by obtain ⟨_, _, _, _, rfl, _⟩ := h; rfl) (fun cdv A outer s H vs Q E hr h => ?_)
  have hu := hu_of hr
  obtain ⟨S, p, a, x, rfl, C, N, hn, k⟩ := h
  obtain ⟨sv, tv, dv, hpb, hz⟩ := C.B.hp
  refine ⟨_, (pss_cons (ps_set (i := 1) scMnt.nd rfl (.inl rfl) (pe_fld (pe_fld (pv 0) rfl) rfl))
    (pss_cons (ps_set (i := 2) scMnt.nd rfl (.inl rfl) (pe_dget hu (pe_fld (pe_fld (pv 0) rfl) rfl) pe_str (fun _ _ => rfl)))
    (pss_cons (ps_set (i := 3) scMnt.nd rfl (.inl rfl) (pe_meth0 (pe_fld (pv 0) rfl) M_inn.c M_inn.m M_inn.G (hr.mono (by decide)) M_inn.b .nil pass0))
    (pss_cons (ps_set (i := 4) scMnt.nd rfl (.inl rfl) (pe_meth0 (pe_fld (pv 0) rfl) M_turn.c M_turn.m M_turn.G (hr.mono (by decide)) M_turn.b .nil pass0))
    (pss_cons (ps_if (pt_cmpR op_eq (pv 4) pe_str (nomark _)) (pss_one (ps_ret (pv 4))) pss_nil)
    (pss_cons (ps_expr (pe_meth (pe_fld (pv 0) rfl) M_fol.c M_fol.m M_fol.G (hr.mono (by decide)) M_fol.b .nil pass0 (pa_cons (pv 4) (pa_cons (pe_fld (pe_fld (pv 0) rfl) rfl) (pa_cons (pv 2) (pa_cons (pe_dget hu (pe_fld (pe_fld (pv 0) rfl) rfl) pe_str (fun _ _ => rfl)) pa_nil))))))
    (pss_cons (ps_if (pt_cmpR op_eq (pv 4) pe_str (nomark _)) (pss_one (ps_set (i := 3) scMnt.nd rfl (.inl rfl) (pe_meth0 (pe_fld (pv 0) rfl) M_inn.c M_inn.m M_inn.G (hr.mono (by decide)) M_inn.b .nil pass0))) pss_nil)
    (pss_cons (ps_fldaug (pv 0) pe_int in_add)
    (pss_cons (ps_expr (pe_meth (pe_fld (pv 0) rfl) M_hno.c M_hno.m M_hno.G (hr.mono (by decide)) M_hno.b .nil pass0 (pa_cons (pv 1) (pa_cons (pv 4) (pa_cons (pv 2) pa_nil)))))
    (pss_cons (ps_expr (pe_meth (pe_fld (pv 0) rfl) M_ntu.c M_ntu.m M_ntu.G (hr.mono (by decide)) M_ntu.b .nil pass0 (pa_cons (pv 4) (pa_cons (pv 2) (pa_cons (pe_op op_sub (pe_fld (pe_fld (pv 0) rfl) rfl) (pv 1)) (pa_cons (pv 3) pa_nil))))))
    (pss_one (ps_ret (pv 4))))))))))))), ?_⟩
  have nr := N.r
  have ns := N.s
  have nd_ := N.d
  have nt := N.t
  refine ⟨_, rfl, p, CP, a.dx, _, _, rfl, C.hp, T.cP, T.nP_board, pF_board, a.bd, CB, a.A.dx, _, _, rfl, hpb, T.cB, T.n_beat, bF_beat, _, rfl, p, CP, a.dx, _, _, rfl, C.hp, T.cP, T.nP_board, pF_board, a.bd, CB, a.A.dx, _, _, rfl, hpb, T.cB, T.n_registers, bF_reg, a.A.r, _, rfl, dg (k := Sum.inr "pc") C.B.hr rG_pc, ?_⟩
  refine ⟨_, rfl, p, CP, a.dx, _, _, rfl, C.hp, T.cP, T.nP_frames, pF_frames, a.fr, a.df, _, rfl, C.hfr, fN_innermost, a.fr, a.df, a.fl, x.strays, a.us, x.rows, rfl, C.hfr, C.hfl, C.rows, by omega, ?_⟩
  refine ⟨_, rfl, p, CP, a.dx, _, _, rfl, C.hp, T.cP, T.nP_board, pF_board, a.bd, a.A.dx, _, rfl, hpb, bN_turn, baseOf H a.bd a.A, a.bd, x.b, rfl, ⟨a.A, a.ts, a.ls, C.B.rebase⟩, by omega, N.nn.ok, fun H1 T_ tou R1 => ?_⟩
  obtain ⟨A1, ts1, ls1, B1, f1⟩ := R1.fr
  have C1 := C.board B1 f1 (turn_ma x.b).1
  have F1 := C.boardFr (ts' := ts1) (ls' := ls1) f1
  have tl1 : Tl H1 T_ := by
    obtain ⟨tl, us, e, _, h1, h2⟩ := tou
    exact ⟨tl, us, _, e, h1, h2⟩
  have ntl : ∀ tl, T_ = .ref tl → ∀ b, b ∈ a.own p → tl ≠ b := fun tl e b hb z => by
    obtain ⟨tl', us, e', n0, _, _⟩ := tou
    rw [e] at e'
    have e2 : tl = tl' := by cases e'; rfl
    rw [← e2, z, base_some (C.ob b hb)] at n0
    obtain ⟨o, eo, _⟩ := C.solid b (.inr hb)
    rw [eo] at n0
    cases n0
  clear f1 B1 tou
  by_cases es : (turnM x.b).1 = "stopped"
  · have en : noteTM x = (("stopped" : Str), { x with b := (turnM x.b).2, n := x.n + 1 }) := by
      unfold noteTM
      rw [if_pos es, es]
    rw [en] at k
    rw [es]
    exact ⟨_, rfl, rfl, _, rfl, ifB (fun _ => ⟨_, rfl, k _ { a with A := A1, ts := ts1, ls := ls1 } T_ (didV x.b) F1 { C1 with } tl1⟩) (fun h => absurd rfl (of_decide_eq_false h))⟩
  have en : noteTM x = ((turnM x.b).1, passedM x) := by
    unfold noteTM
    rw [if_neg es]
  rw [en] at k
  refine ⟨_, rfl, rfl, _, rfl, ifB (fun h => absurd (V.str.inj (of_decide_eq_true h)) es) (fun _ => ?_)⟩
  obtain ⟨sv1, tv1, dv1, hpb1, hz1⟩ := C1.B.hp
  have ed : dv1 = didV x.b := hz1.2.2
  subst ed
  refine ⟨_, rfl, p, CP, a.dx, _, _, rfl, C1.hp, T.cP, T.nP_frames, pF_frames, a.fr, a.df, _, rfl, C1.hfr, fN_follow, _, rfl, _, rfl, p, CP, a.dx, _, _, rfl, C1.hp, T.cP, T.nP_board, pF_board, a.bd, CB, A1.dx, _, _, rfl, hpb1, T.cB, T.n_did, bF_did, _, rfl, _, rfl, p, CP, a.dx, _, _, rfl, C1.hp, T.cP, T.nP_board, pF_board, a.bd, CB, A1.dx, _, _, rfl, hpb1, T.cB, T.n_registers, bF_reg, A1.r, _, rfl, dg (k := Sum.inr "pc") C1.B.hr rG_pc, a.fr, a.df, a.fl, x.strays, a.us, x.rows, (turnM x.b).1, didV x.b, x.b.pc, (turnM x.b).2.pc, rfl, didV_or _, C1.hfr, C1.hfl, C1.rows, by omega, fun H2 us2 kp2 hfr2 hfl2 rows2 => ?_⟩
  obtain ⟨C2, F2⟩ := C1.frames kp2 hfr2 hfl2 rows2
  have tl2 : Tl H2 T_ := by
    obtain ⟨tl, us, ts, e, h1, h2⟩ := tl1
    exact ⟨tl, us, ts, e, kp2 _ _ (ntl tl e _ (List.mem_of_getElem? (i := 1) rfl)) (ntl tl e _ (List.mem_of_getElem? (i := 2) rfl)) h1, h2.mono fun t xs q => kp2 _ _ (ne_of q C1.hfr (by intro z; cases z)) (ne_of q C1.hfl (by intro z; cases z)) q⟩
  have F2 := F1.trans F2
  clear kp2 hfr2 hfl2 rows2 F1 C1 tl1 hpb1 hz1
  obtain ⟨sv2, tv2, dv2, hpb2, hz2⟩ := C2.B.hp
  refine ⟨_, rfl, rfl, _, rfl, ifB (fun h => ?_) (fun h => ?_)⟩
  · have et : innerM (follT x).1 = toT x := by
      unfold toT
      rw [if_pos (V.str.inj (of_decide_eq_true h))]
    refine ⟨_, rfl, p, CP, a.dx, _, _, rfl, C2.hp, T.cP, T.nP_frames, pF_frames, a.fr, a.df, _, rfl, C2.hfr, fN_innermost, a.fr, a.df, a.fl, (follT x).2, us2, (follT x).1, rfl, C2.hfr, C2.hfl, C2.rows, by have := foll_len x; omega, ?_⟩
    refine ⟨_, rfl, p, CP, a.dx, _, _, rfl, C2.hp, T.cP, T.nP_turns_gone, pF_turns_gone, _, _, rfl, rfl, a.dx, _, C2.hp, (by show 10 < 1000; decide), ?_⟩
    rw [pP_turns_gone]
    have tl3 : Tl (upd H2 p (.ins CP a.dx (prF a.bd a.st a.wa a.fr a.hi a.co a.mi a.sd (x.gone + 1) .non))) T_ := by
      obtain ⟨tl, us, ts, e, h1, h2⟩ := tl2
      exact ⟨tl, us, ts, e, by rw [upd_ne (ntl tl e _ (List.mem_of_getElem? (i := 0) rfl))]; exact h1, h2.mono fun t xs q => by rw [upd_ne (ne_of q C2.hp (by intro z; cases z))]; exact q⟩
    obtain ⟨C3, F3⟩ := C2.turned (g := x.gone + 1)
    have F3 := F2.trans F3
    generalize upd H2 p (.ins CP a.dx (prF a.bd a.st a.wa a.fr a.hi a.co a.mi a.sd (x.gone + 1) .non)) = H3 at *
    refine ⟨_, rfl, p, CP, a.dx, _, _, rfl, C3.hp, T.cP, T.nP_history, pF_history, a.hi, a.dh, _, rfl, C3.hhi, hN_note, _, rfl, _, rfl, _, rfl, a.hi, a.dh, a.hl, x.faded, x.b.beat, x.b.pc, (turnM x.b).1, a.hs, x.hist, rfl, C3.hhi, C3.hhl, C3.hist, N.h, fun H4 hs4 kp4 hhi4 hhl4 hist4 => ?_⟩
    obtain ⟨C4, F4⟩ := C3.history kp4 hhi4 hhl4 hist4
    have F4 := F3.trans F4
    have tl4 : Tl H4 T_ := by
      obtain ⟨tl, us, ts, e, h1, h2⟩ := tl3
      exact ⟨tl, us, ts, e, kp4 _ _ (ntl tl e _ (List.mem_of_getElem? (i := 3) rfl)) (ntl tl e _ (List.mem_of_getElem? (i := 4) rfl)) h1, h2.mono fun t xs q => kp4 _ _ (ne_of q C3.hhi (by intro z; cases z)) (ne_of q C3.hhl (by intro z; cases z)) q⟩
    clear kp4 hhi4 hhl4 hist4 F3 tl3 C3
    obtain ⟨sv4, tv4, dv4, hpb4, hz4⟩ := C4.B.hp
    refine ⟨_, rfl, p, CP, a.dx, _, _, rfl, C4.hp, T.cP, T.nP_counts, pF_counts, a.co, a.dc, _, rfl, C4.hco, cN_note_turn, _, rfl, _, rfl, _, rfl, p, CP, a.dx, _, _, rfl, C4.hp, T.cP, T.nP_board, pF_board, a.bd, CB, A1.dx, _, _, rfl, hpb4, T.cB, T.n_beat, bF_beat, _, rfl, _, _, rfl, rfl, _, rfl, a.co, a.dc, a.cd, a.cf, x.idle, x.peeked, x.b.pc, (turnM x.b).2.beat - x.b.beat, innerM (follT x).1, (turnM x.b).1, x.spent, a.kd, x.deeds, rfl, C4.hco, C4.hcf, C4.hcd, C4.deeds, nd_ne C4.nd (i := 6) (j := 7) (by decide) rfl rfl, by omega, by omega, fun H5 kd5 kp5 hco5 hcf5 hcd5 dd5 => ?_⟩
    have hcf6 : H5 a.cf = some (.dK (spD (putA x.spent (toT x) (getA x.spent (toT x) 0 + ((turnM x.b).2.beat - x.b.beat))))) := by
      rw [← et]
      exact hcf5
    have tl5 : Tl H5 T_ := by
      obtain ⟨tl, us, ts, e, h1, h2⟩ := tl4
      exact ⟨tl, us, ts, e, kp5 _ _ (ntl tl e _ (List.mem_of_getElem? (i := 5) rfl)) (ntl tl e _ (List.mem_of_getElem? (i := 7) rfl)) (ntl tl e _ (List.mem_of_getElem? (i := 6) rfl)) h1, h2.mono fun t xs q => kp5 _ _ (ne_of q C4.hco (by intro z; cases z)) (ne_of q C4.hcf (by intro z; cases z)) (ne_of q C4.hcd (by intro z; cases z)) q⟩
    obtain ⟨C5, F5⟩ := C4.counts kp5 hco5 hcf6 hcd5 dd5
    have C6 : PrC CB CM CP CK CW CF CH CC CI S H5 p { a with A := A1, ts := ts1, ls := ls1, us := us2, hs := hs4, kd := kd5 } ((passedM x).tvd T_ (didV x.b)) := { C5 with }
    exact ⟨_, rfl, k _ _ T_ _ (F4.trans F5) C6 tl5⟩
  · have et : innerM x.rows = toT x := by
      unfold toT
      rw [if_neg (fun z => of_decide_eq_false h (congrArg V.str z))]
    refine ⟨_, rfl, p, CP, a.dx, _, _, rfl, C2.hp, T.cP, T.nP_turns_gone, pF_turns_gone, _, _, rfl, rfl, a.dx, _, C2.hp, (by show 10 < 1000; decide), ?_⟩
    rw [pP_turns_gone]
    have tl3 : Tl (upd H2 p (.ins CP a.dx (prF a.bd a.st a.wa a.fr a.hi a.co a.mi a.sd (x.gone + 1) .non))) T_ := by
      obtain ⟨tl, us, ts, e, h1, h2⟩ := tl2
      exact ⟨tl, us, ts, e, by rw [upd_ne (ntl tl e _ (List.mem_of_getElem? (i := 0) rfl))]; exact h1, h2.mono fun t xs q => by rw [upd_ne (ne_of q C2.hp (by intro z; cases z))]; exact q⟩
    obtain ⟨C3, F3⟩ := C2.turned (g := x.gone + 1)
    have F3 := F2.trans F3
    generalize upd H2 p (.ins CP a.dx (prF a.bd a.st a.wa a.fr a.hi a.co a.mi a.sd (x.gone + 1) .non)) = H3 at *
    refine ⟨_, rfl, p, CP, a.dx, _, _, rfl, C3.hp, T.cP, T.nP_history, pF_history, a.hi, a.dh, _, rfl, C3.hhi, hN_note, _, rfl, _, rfl, _, rfl, a.hi, a.dh, a.hl, x.faded, x.b.beat, x.b.pc, (turnM x.b).1, a.hs, x.hist, rfl, C3.hhi, C3.hhl, C3.hist, N.h, fun H4 hs4 kp4 hhi4 hhl4 hist4 => ?_⟩
    obtain ⟨C4, F4⟩ := C3.history kp4 hhi4 hhl4 hist4
    have F4 := F3.trans F4
    have tl4 : Tl H4 T_ := by
      obtain ⟨tl, us, ts, e, h1, h2⟩ := tl3
      exact ⟨tl, us, ts, e, kp4 _ _ (ntl tl e _ (List.mem_of_getElem? (i := 3) rfl)) (ntl tl e _ (List.mem_of_getElem? (i := 4) rfl)) h1, h2.mono fun t xs q => kp4 _ _ (ne_of q C3.hhi (by intro z; cases z)) (ne_of q C3.hhl (by intro z; cases z)) q⟩
    clear kp4 hhi4 hhl4 hist4 F3 tl3 C3
    obtain ⟨sv4, tv4, dv4, hpb4, hz4⟩ := C4.B.hp
    refine ⟨_, rfl, p, CP, a.dx, _, _, rfl, C4.hp, T.cP, T.nP_counts, pF_counts, a.co, a.dc, _, rfl, C4.hco, cN_note_turn, _, rfl, _, rfl, _, rfl, p, CP, a.dx, _, _, rfl, C4.hp, T.cP, T.nP_board, pF_board, a.bd, CB, A1.dx, _, _, rfl, hpb4, T.cB, T.n_beat, bF_beat, _, rfl, _, _, rfl, rfl, _, rfl, a.co, a.dc, a.cd, a.cf, x.idle, x.peeked, x.b.pc, (turnM x.b).2.beat - x.b.beat, innerM x.rows, (turnM x.b).1, x.spent, a.kd, x.deeds, rfl, C4.hco, C4.hcf, C4.hcd, C4.deeds, nd_ne C4.nd (i := 6) (j := 7) (by decide) rfl rfl, by omega, by omega, fun H5 kd5 kp5 hco5 hcf5 hcd5 dd5 => ?_⟩
    have hcf6 : H5 a.cf = some (.dK (spD (putA x.spent (toT x) (getA x.spent (toT x) 0 + ((turnM x.b).2.beat - x.b.beat))))) := by
      rw [← et]
      exact hcf5
    have tl5 : Tl H5 T_ := by
      obtain ⟨tl, us, ts, e, h1, h2⟩ := tl4
      exact ⟨tl, us, ts, e, kp5 _ _ (ntl tl e _ (List.mem_of_getElem? (i := 5) rfl)) (ntl tl e _ (List.mem_of_getElem? (i := 7) rfl)) (ntl tl e _ (List.mem_of_getElem? (i := 6) rfl)) h1, h2.mono fun t xs q => kp5 _ _ (ne_of q C4.hco (by intro z; cases z)) (ne_of q C4.hcf (by intro z; cases z)) (ne_of q C4.hcd (by intro z; cases z)) q⟩
    obtain ⟨C5, F5⟩ := C4.counts kp5 hco5 hcf6 hcd5 dd5
    have C6 : PrC CB CM CP CK CW CF CH CC CI S H5 p { a with A := A1, ts := ts1, ls := ls1, us := us2, hs := hs4, kd := kd5 } ((passedM x).tvd T_ (didV x.b)) := { C5 with }
    exact ⟨_, rfl, k _ _ T_ _ (F4.trans F5) C6 tl5⟩
end
end Bh

/-! A probe lets its board go. -/
namespace Bh
open PySem PySem.Spec PyProof.Rows L2
theorem noteH_len {bt pc f : Int} {so : Str} {h : List (Int × Str × Int)} (hl : h.length ≤ 32) : (noteHR bt so pc h f).1.length ≤ 32 := by
  unfold noteHR
  split
  · rw [List.length_drop, List.length_append, List.length_singleton]
    omega
  · rw [List.length_append, List.length_singleton]
    omega
theorem deedsR_len (so : Str) (pc bs : Int) (l : List (Int × Int × Int)) : (deedsR so pc bs l).length ≤ l.length + 1 := by
  unfold deedsR
  split
  · exact putA_len _ _ _
  · exact Nat.le_succ _
theorem PrN.note {x : Pm} (N : PrN x) : PrN (noteTM x).2 := by
  have h1 := turn_sent x.b
  have h2 := foll_len x
  have h3 := deedsR_len (turnM x.b).1 x.b.pc ((turnM x.b).2.beat - x.b.beat) x.deeds
  have h4 := putA_len x.spent (toT x) (getA x.spent (toT x) 0 + ((turnM x.b).2.beat - x.b.beat))
  have hs := N.s
  have hr := N.r
  have hd := N.d
  have ht := N.t
  unfold noteTM
  show PrN (if (turnM x.b).1 = "stopped" then { x with b := (turnM x.b).2, n := x.n + 1 } else passedM x)
  split
  · exact ⟨by show (turnM x.b).2.sent.length ≤ 2 * (x.n + 1); omega, by show x.rows.length ≤ x.n + 1; omega, N.h, by show x.deeds.length ≤ x.n + 1; omega, by show x.spent.length ≤ x.n + 1; omega, N.nn.turn⟩
  · exact ⟨by show (turnM x.b).2.sent.length ≤ 2 * (x.n + 1); omega, by show (follT x).1.length ≤ x.n + 1; omega, noteH_len N.h, by show (deedsR _ _ _ _).length ≤ x.n + 1; omega, by show (putA _ _ _).length ≤ x.n + 1; omega, N.nn.turn⟩
theorem PrN.tvd {x : Pm} (N : PrN x) (T D : V) : PrN (x.tvd T D) := ⟨N.s, N.r, N.h, N.d, N.t, N.nn.tvd T D⟩
theorem note_n (x : Pm) : (noteTM x).2.n = x.n + 1 := by
  unfold noteTM
  show (if (turnM x.b).1 = "stopped" then { x with b := (turnM x.b).2, n := x.n + 1 } else passedM x).n = _
  split <;> rfl
/-- touched and did don't matter to what goes on -/
theorem note_tvd (x : Pm) (T D : V) : ∃ T' D', noteTM (x.tvd T D) = ((noteTM x).1, (noteTM x).2.tvd T' D') := by
  have e := tvd_turn x.b T D
  refine ⟨T, D, ?_⟩
  have eb : turnM (x.tvd T D).b = ((turnM x.b).1, (turnM x.b).2.tvd T D) := e
  have ed : didV (x.tvd T D).b = didV x.b := by
    unfold didV
    rw [eb]
    rfl
  have ef : follT (x.tvd T D) = follT x := by
    unfold follT
    rw [eb, ed]
    rfl
  have et : toT (x.tvd T D) = toT x := by
    unfold toT
    rw [eb, ef]
    rfl
  unfold noteTM
  rw [eb]
  show ((turnM x.b).1, if (turnM x.b).1 = "stopped" then _ else _) = _
  split
  · rfl
  · refine congrArg (Prod.mk _) ?_
    unfold passedM
    rw [eb, ef, et]
    rfl
/-! ### the ends of a go -/
inductive En where
  | no
  | over (q dx : Addr) (d : Int) (b : Bool)
  | out (q dx : Addr) (d : Int)
def oeF (d : Int) (b : Bool) : List (Str × V) := [("depth", .int d), ("deed_done", .bl b)]
def ouF (d : Int) : List (Str × V) := [("depth", .int d)]
section
variable {d : Int} {b c : Bool}
theorem oF_depth : (oeF d b).lookup ("depth" : Str) = some (.int d) := by kernel_rfl
theorem oF_deed : (oeF d b).lookup ("deed_done" : Str) = some (.bl b) := by kernel_rfl
theorem oP_deed : putF "deed_done" (.bl c) (oeF d b) = oeF d c := by kernel_rfl
theorem uF_depth : (ouF d).lookup ("depth" : Str) = some (.int d) := by kernel_rfl
theorem oN_comes : (oeF d b).lookup ("comes" : Str) = none := by kernel_rfl
theorem uN_comes : (ouF d).lookup ("comes" : Str) = none := by kernel_rfl
end
def overB (b : Bool) (so : Str) (ahead d : Int) : Bool := if so = "deed" ∧ ahead = d then true else b
def En.step (e : En) (so : Str) (ahead : Int) : En := match e with
  | .over q dx d b => .over q dx d (overB b so ahead d)
  | e => e
def En.comes (e : En) (so : Str) (ahead now : Int) : Bool := match e with
  | .no => false
  | .over _ _ d b => overB b so ahead d && decide (now ≤ d)
  | .out _ _ d => decide (now < d)
def EnAt (CO CQ : Addr) (H : Hp) : En → V → Prop
  | .no, v => v = .non
  | .over q dx d b, v => v = .ref q ∧ H q = some (.ins CO dx (oeF d b))
  | .out q dx d, v => v = .ref q ∧ H q = some (.ins CQ dx (ouF d))
def FtE : En → Addr → Prop
  | .no, _ => False
  | .over q _ _ _, b => b = q
  | .out q _ _, b => b = q
theorem FtE_step (e : En) (so : Str) (ahead : Int) : FtE (e.step so ahead) = FtE e := by cases e <;> rfl
def FtX (p : Addr) (a : Ap) (e : En) (b : Addr) : Prop := FtP p a b ∨ FtE e b
inductive Cz where
  | none
  | stop (s : Str × List Int)
  | done
def CzAt (H : Hp) (v : V) : Cz → Prop
  | .none => v = .non
  | .stop s => StopAt H v (some s)
  | .done => ∃ q, v = .ref q ∧ H q = some (.tup [.str "done"])
def RzAt (H : Hp) (v : V) : Cz → Prop
  | .none => ∃ q, v = .ref q ∧ H q = some (.tup [.str "turns"])
  | .stop s => StopAt H v (some s)
  | .done => ∃ q, v = .ref q ∧ H q = some (.tup [.str "done"])
/-- one turn with its end: the cause that holds it -/
def passT (e : En) (x : Pm) : Cz × En × Pm :=
  match (noteTM x).2.b.stop with
  | some s => (.stop s, e, (noteTM x).2)
  | none => (if e.comes (noteTM x).1 x.rows.length (noteTM x).2.rows.length = true then .done else .none, e.step (noteTM x).1 x.rows.length, (noteTM x).2)
def runP : Nat → En → Pm → Cz × En × Pm
  | 0, e, x => (.none, e, x)
  | n + 1, e, x => match (passT e x).1 with
    | .none => runP n (passT e x).2.1 (passT e x).2.2
    | .stop s => (.stop s, (passT e x).2)
    | .done => (.done, (passT e x).2)
def goP (m : Int) (e : En) (x : Pm) : Cz × En × Pm :=
  match x.b.stop with
  | some s => if 0 < m then (.stop s, e, x) else (.none, e, x)
  | none => runP m.toNat e x
def isOut : En → Nat
  | .no => 0
  | .over _ _ _ _ => 1
  | .out _ _ _ => 2
section
variable (CB CM CP CK CW CF CH CC CI CO CQ : Addr)
def spFT : Sp := fun vs H Q _ => ∃ (S : Hp) (p : Addr) (a : Ap) (x : Pm), vs = [.ref p] ∧ PrC CB CM CP CK CW CF CH CC CI S H p a x ∧ PrN x ∧ x.n < 99000 ∧
  ∀ H' a' T D, Fr (FtP p a) H (FtP p a') H' → PrC CB CM CP CK CW CF CH CC CI S H' p a' ((noteTM x).2.tvd T D) → Tl H' T → Q (.str (noteTM x).1) H'
def spComO : Sp := fun vs H Q _ => ∃ (q dx : Addr) (so : Str) (d ahead now : Int) (b : Bool), vs = [.ref q, .str so, .int ahead, .int now] ∧ H q = some (.ins CO dx (oeF d b)) ∧
  ∀ H', (∀ c o, c ≠ q → H c = some o → H' c = some o) → H' q = some (.ins CO dx (oeF d (overB b so ahead d))) → Q (.bl (overB b so ahead d && decide (now ≤ d))) H'
def spComQ : Sp := fun vs H Q _ => ∃ (q dx : Addr) (so : Str) (d ahead now : Int), vs = [.ref q, .str so, .int ahead, .int now] ∧ H q = some (.ins CQ dx (ouF d)) ∧ Q (.bl (decide (now < d))) H
def spPT (o : Nat) : Sp := fun vs H Q _ => ∃ (S : Hp) (p : Addr) (a : Ap) (x : Pm) (e : En) (ev : V), vs = [.ref p, ev] ∧ PrC CB CM CP CK CW CF CH CC CI S H p a x ∧ PrN x ∧ x.n < 99000 ∧ EnAt CO CQ H e ev ∧ (isOut e = o ∨ e = .no) ∧ (∀ b, FtE e b → S b = none ∧ ¬ FtP p a b) ∧
  ∀ H' a' T D v, Fr (FtX p a e) H (FtX p a' e) H' → PrC CB CM CP CK CW CF CH CC CI S H' p a' ((passT e x).2.2.tvd T D) → EnAt CO CQ H' (passT e x).2.1 ev → (∀ b, FtE e b → ¬ FtP p a' b) → CzAt H' v (passT e x).1 → Q v H'
end
section
variable {P : Program} {w : World} {K : PySem.W.Frag} {mg : Str → Option Value} {base : Heap} {CB CM CP CK CW CF CH CC CI CS CO CQ : Addr}
structure To (K : PySem.W.Frag) (CO CQ : Addr) : Prop where
  cO : Cls K CO
  nO_depth : NoAttr K CO "depth"
  nO_deed_done : NoAttr K CO "deed_done"
abbrev sMft : Stmt := inClass (topS 99) 24
def scMftN : List Str := ["self", "fault", "sort"]
theorem scMft : FnScope scMftN ["self"] (defScope sMft) := ⟨rfl, rfl, rfl, by decide +kernel, rfl, by decide +kernel, by decide +kernel⟩
theorem ok_Mft {f : Addr} {fd : FuncData} {fM_bnd : Addr} {dM_bnd : FuncData} {fM_cme : Addr} {dM_cme : FuncData} {fM_nt : Addr} {dM_nt : FuncData} {fM_tf : Addr} {dM_tf : FuncData} (F : Fun K "follow_turn" "Probe.follow_turn" sMft f fd) (T : Ty K mg CB CM CP CK CW CF CH CC CI CS)
    (M_bnd : CalM P w K mg base CI 1 "bending" ["self", "beat"] (spBnd CI) fM_bnd dM_bnd)
    (M_cme : CalM P w K mg base CI 1 "come" ["self", "fault", "beat"] (spNo) fM_cme dM_cme)
    (M_nt : CalM P w K mg base CP 7 "note_turn" ["self"] (spNT CB CM CP CK CW CF CH CC CI) fM_nt dM_nt)
    (M_tf : CalM P w K mg base CP 3 "take_faults" ["self"] (spTf CB CM CP CK CW CF CH CC CI) fM_tf dM_tf) : FnOk P w K mg base CX0 8 f fd ["self"] (spFT CB CM CP CK CW CF CH CC CI) := by
  refine F.ok scMft (fun vs H Q E h => by obtain ⟨_, _, _, _, rfl, _⟩ := h; rfl) (fun cdv A outer s H vs Q E hr h => ?_)
  have hu := hu_of hr
  obtain ⟨S, p, a, x, rfl, C, N, hn, k⟩ := h
  obtain ⟨sv, tv, dv, hpb, hz⟩ := C.B.hp
  refine ⟨_, (pss_cons (ps_set (i := 1) scMft.nd rfl (.inl rfl) (pe_meth (pe_fld (pv 0) rfl) M_bnd.c M_bnd.m M_bnd.G (hr.mono (by decide)) M_bnd.b .nil pass0 (pa_cons (pe_fld (pe_fld (pv 0) rfl) rfl) pa_nil)))
    (pss_cons (ps_if (pt_cmp (pc_isN (pv 1))) (pss_one (ps_set (i := 2) scMft.nd rfl (.inl rfl) (pe_meth0 (pv 0) M_nt.c M_nt.m M_nt.G (hr.mono (by decide)) M_nt.b .nil pass0))) (pss_cons (ps_fld (pe_fld (pv 0) rfl) (pe_ix ix_list (pv 1) pe_int (fun _ _ => rfl)) rfl)
    (pss_cons (ps_set (i := 2) scMft.nd rfl (.inl rfl) (pe_meth0 (pv 0) M_nt.c M_nt.m M_nt.G (hr.mono (by decide)) M_nt.b .nil pass0))
    (pss_cons (ps_if (pt_cmpR op_eq (pe_fld (pe_fld (pv 0) rfl) rfl) pe_int (nomark _)) (pss_one (ps_expr (pe_meth (pe_fld (pv 0) rfl) M_cme.c M_cme.m M_cme.G (hr.mono (by decide)) M_cme.b .nil pass0 (pa_cons (pv 1) (pa_cons (pe_fld (pe_fld (pv 0) rfl) rfl) pa_nil))))) pss_nil)
    (pss_one (ps_fld (pe_fld (pv 0) rfl) pe_int rfl))))))
    (pss_cons (ps_expr (pe_meth0 (pv 0) M_tf.c M_tf.m M_tf.G (hr.mono (by decide)) M_tf.b .nil pass0))
    (pss_one (ps_ret (pv 2)))))), ?_⟩
  refine ⟨_, rfl, p, CP, a.dx, _, _, rfl, C.hp, T.cP, T.nP_mishaps, pF_mishaps, a.mi, a.dm, _, rfl, C.sm _ _ C.hmi, iN_bending, _, rfl, p, CP, a.dx, _, _, rfl, C.hp, T.cP, T.nP_board, pF_board, a.bd, CB, a.A.dx, _, _, rfl, hpb, T.cB, T.n_beat, bF_beat, a.mi, a.dm, a.ml, a.mr, x.b.beat, rfl, C.sm _ _ C.hmi, C.sm _ _ C.hml, ?_⟩
  refine ⟨_, rfl, _, rfl, ifB (fun _ => ?_) (fun h => absurd rfl (of_decide_eq_false h))⟩
  refine ⟨_, rfl, p, a.dx, _, rfl, C.hp, pN_note_turn, S, p, a, x, rfl, C, N, hn, fun H1 a1 T_ D_ F1 C1 tl => ?_⟩
  refine ⟨_, rfl, p, a1.dx, _, rfl, C1.hp, pN_take_faults, S, p, a1, _, rfl, C1, fun H2 s2 => ?_⟩
  refine ⟨_, rfl, k H2 a1 T_ D_ (F1.trans (Fr.of_same s2)) (C1.same s2) ?_⟩
  obtain ⟨tl, us, ts, e, h1, h2⟩ := tl
  exact ⟨tl, us, ts, e, s2 _ _ h1, h2.mono fun t xs q => s2 _ _ q⟩
end
end Bh

/-! A turn with its end. -/
namespace Bh
open PySem PySem.Spec PyProof.Rows L2
section
variable {CB CM CP CK CW CF CH CC CI : Addr} {S H H' : Hp} {p q : Addr} {a : Ap} {x : Pm}
theorem PrC.kept1 (C : PrC CB CM CP CK CW CF CH CC CI S H p a x) (k : ∀ c o, c ≠ q → H c = some o → H' c = some o) (nf : ¬ FtP p a q) (ns : S q = none) (nt : ∀ xs, H q ≠ some (.tup xs)) : PrC CB CM CP CK CW CF CH CC CI S H' p a x :=
  C.keep (fun b o e => k b o (fun z => by rw [z, ns] at e; cases e) (C.sm _ _ e)) (fun b o h e => k b o (fun z => nf (z ▸ h)) e) (fun b xs e => k b _ (fun z => nt xs (z ▸ e)) e)
end
theorem pe_never {X : Cx} {x : Expr} : PE X x (fun _ _ _ => False) := ⟨fun _ _ _ _ _ _ h => h.elim⟩
theorem Fr.ext {p : Addr} {a a' : Ap} {e : En} {H H' : Hp} (f : Fr (FtP p a) H (FtP p a') H') : Fr (FtX p a e) H (FtX p a' e) H' where
  keep := fun b o n h => f.keep b o (fun z => n (.inl z)) h
  new := fun b z => by
    rcases z with z | z
    · rcases f.new b z with y | y
      · exact .inl (.inl y)
      · exact .inr y
    · exact .inl (.inr z)
theorem Fr.one {F : Addr → Prop} {q : Addr} {H H' : Hp} (h : F q) (k : ∀ c o, c ≠ q → H c = some o → H' c = some o) : Fr F H F H' := ⟨fun b o n e => k b o (fun z => n (z ▸ h)) e, fun _ z => .inl z⟩
section
variable {P : Program} {w : World} {K : PySem.W.Frag} {mg : Str → Option Value} {base : Heap} {CB CM CP CK CW CF CH CC CI CS CO CQ : Addr}
abbrev sMcomO : Stmt := inClass (topS 11) 1
def scMcomON : List Str := ["self", "sort", "ahead", "now"]
theorem scMcomO : FnScope scMcomON ["self", "sort", "ahead", "now"] (defScope sMcomO) := ⟨rfl, rfl, rfl, by decide +kernel, rfl, by decide +kernel, by decide +kernel⟩
theorem ok_McomO {f : Addr} {fd : FuncData} (F : Fun K "comes" "OverEnd.comes" sMcomO f fd) (T : Ty K mg CB CM CP CK CW CF CH CC CI CS) (TO : To K CO CQ) : FnOk P w K mg base CX0 1 f fd ["self", "sort", "ahead", "now"] (spComO CO) := by
  refine F.ok scMcomO (fun vs H Q E h => by obtain ⟨_, _, _, _, _, _, _, rfl, _⟩ := h; rfl) (fun cdv A outer s H vs Q E hr h => ?_)
  have hu := hu_of hr
  obtain ⟨q, dx, so, d, ahead, now, b, rfl, hq, k⟩ := h
  refine ⟨_, (pss_cons (ps_if (PW.pt (pw_and (pt_cmpR op_eq (pv 1) pe_str (nomark _)) (pw_and1 (pt_cmpR op_eq (pv 2) (pe_fld (pv 0) rfl) (nomark _))))) (pss_one (ps_fld (pv 0) pe_bl rfl)) pss_nil)
    (pss_one (ps_ret (pe_and (pe_fld (pv 0) rfl) (pe_one (pe_cmpR op_le (pv 3) (pe_fld (pv 0) rfl) (nomark _))))))), ?_⟩
  unfold overB at k
  refine ⟨_, rfl, rfl, _, rfl, ifB (fun h => ?_) (fun h => ?_)⟩
  · have es := V.str.inj (of_decide_eq_true h)
    refine ⟨_, rfl, _, rfl, q, CO, dx, _, _, rfl, hq, TO.cO, TO.nO_depth, oF_depth, rfl, _, rfl, ifB (fun h2 => ?_) (fun h2 => ?_)⟩
    · rw [if_pos ⟨es, V.int.inj (of_decide_eq_true h2)⟩] at k
      refine ⟨_, rfl, q, CO, dx, _, rfl, hq, TO.cO, TO.nO_deed_done, (by show 2 < 1000; decide), ?_⟩
      rw [oP_deed]
      have h9 : upd H q (.ins CO dx (oeF d true)) q = some (.ins CO dx (oeF d true)) := upd_same
      refine ⟨_, rfl, q, CO, dx, _, _, rfl, h9, TO.cO, TO.nO_deed_done, oF_deed, _, rfl, ifB (fun _ => ?_) (fun h => by cases h)⟩
      exact ⟨_, rfl, _, rfl, q, CO, dx, _, _, rfl, h9, TO.cO, TO.nO_depth, oF_depth, _, _, rfl, rfl, k _ (fun c o n e => by rw [upd_ne n]; exact e) h9⟩
    · rw [if_neg (fun z => of_decide_eq_false h2 (congrArg V.int z.2))] at k
      have k := k H (fun _ _ _ e => e) hq
      refine ⟨_, rfl, q, CO, dx, _, _, rfl, hq, TO.cO, TO.nO_deed_done, oF_deed, _, rfl, ?_⟩
      cases b with
      | true => exact ⟨_, rfl, _, rfl, q, CO, dx, _, _, rfl, hq, TO.cO, TO.nO_depth, oF_depth, _, _, rfl, rfl, k⟩
      | false => exact k
  · rw [if_neg (fun z => of_decide_eq_false h (congrArg V.str z.1))] at k
    have k := k H (fun _ _ _ e => e) hq
    refine ⟨_, rfl, q, CO, dx, _, _, rfl, hq, TO.cO, TO.nO_deed_done, oF_deed, _, rfl, ?_⟩
    cases b with
    | true => exact ⟨_, rfl, _, rfl, q, CO, dx, _, _, rfl, hq, TO.cO, TO.nO_depth, oF_depth, _, _, rfl, rfl, k⟩
    | false => exact k
abbrev sMpt : Stmt := inClass (topS 99) 23
def scMptN : List Str := ["self", "end", "depth", "sort", "cause"]
theorem scMpt : FnScope scMptN ["self", "end"] (defScope sMpt) := ⟨rfl, rfl, rfl, by decide +kernel, rfl, by decide +kernel, by decide +kernel⟩
theorem ok_Mpt {f : Addr} {fd : FuncData} {fM_comO : Addr} {dM_comO : FuncData} {fM_ft : Addr} {dM_ft : FuncData} {fM_met : Addr} {dM_met : FuncData} (F : Fun K "pass_turn" "Probe.pass_turn" sMpt f fd) (T : Ty K mg CB CM CP CK CW CF CH CC CI CS)
    (M_comO : CalM P w K mg base CO 1 "comes" ["self", "sort", "ahead", "now"] (spComO CO) fM_comO dM_comO)
    (M_ft : CalM P w K mg base CP 8 "follow_turn" ["self"] (spFT CB CM CP CK CW CF CH CC CI) fM_ft dM_ft)
    (M_met : CalM P w K mg base CW 1 "met" ["self", "touches"] (spMet CW) fM_met dM_met) : FnOk P w K mg base CX0 9 f fd ["self", "end"] (spPT CB CM CP CK CW CF CH CC CI CO CQ 1) := by
  refine F.ok scMpt (fun vs H Q E h => by obtain ⟨_, _, _, _, _, _, rfl, _⟩ := h; rfl) (fun cdv A outer s H vs Q E hr h => ?_)
  have hu := hu_of hr
  have z_len := T.z_len
  obtain ⟨S, p, a, x, e, ev, rfl, C, N, hn, he, hio, heo, k⟩ := h
  refine ⟨_, (pss_cons (ps_set (i := 2) scMpt.nd rfl (.inl rfl) (pe_callB call_len_seq (by rfl) z_len PySem.boot_len (pa_cons (pe_fld (pe_fld (pv 0) rfl) rfl) pa_nil)))
    (pss_cons (ps_set (i := 3) scMpt.nd rfl (.inl rfl) (pe_meth0 (pv 0) M_ft.c M_ft.m M_ft.G (hr.mono (by decide)) M_ft.b .nil pass0))
    (pss_cons (ps_if (pt_cmp (pc_notN (pe_fld (pe_fld (pv 0) rfl) rfl))) (pss_one (ps_ret (pe_fld (pe_fld (pv 0) rfl) rfl))) pss_nil)
    (pss_cons (ps_set (i := 4) scMpt.nd rfl (.inl rfl) (pe_meth (pe_fld (pv 0) rfl) M_met.c M_met.m M_met.G (hr.mono (by decide)) M_met.b .nil pass0 (pa_cons (pe_fld (pe_fld (pv 0) rfl) rfl) pa_nil)))
    (pss_cons (ps_if (PW.pt (pw_and (pt_cmp (pc_isN (pv 4))) (pw_and (pt_cmp (pc_notN (pv 1))) (pw_and1 (pt_val (pe_meth (pv 1) M_comO.c M_comO.m M_comO.G (hr.mono (by decide)) M_comO.b .nil pass0 (pa_cons (pv 3) (pa_cons (pv 2) (pa_cons (pe_callB call_len_seq (by rfl) z_len PySem.boot_len (pa_cons (pe_fld (pe_fld (pv 0) rfl) rfl) pa_nil)) pa_nil))))))))) (pss_one (ps_ret (pe_tup (pa_cons pe_str pa_nil)))) pss_nil)
    (pss_one (ps_ret (pv 4)))))))), ?_⟩
  have el := C.rows.len
  refine ⟨_, rfl, p, CP, a.dx, _, _, rfl, C.hp, T.cP, T.nP_frames, pF_frames, a.fr, CF, a.df, _, _, rfl, C.hfr, T.cF, T.nF_rows, fF_rows, a.fl, _, rfl, .inl (SqL.of C.hfl), ?_⟩
  rw [el]
  refine ⟨_, rfl, p, a.dx, _, rfl, C.hp, pN_follow_turn, S, p, a, x, rfl, C, N, hn, fun H1 a1 T_ D_ F1 C1 tl1 => ?_⟩
  obtain ⟨sv1, tv1, dv1, hpb1, hz1⟩ := C1.B.hp
  refine ⟨_, rfl, p, CP, a1.dx, _, _, rfl, C1.hp, T.cP, T.nP_board, pF_board, a1.bd, CB, a1.A.dx, _, _, rfl, hpb1, T.cB, T.n_stopped, bF_stop, _, rfl, ?_⟩
  obtain ⟨hs1, ht1, hd1⟩ := hz1
  have ent : ∀ b, FtE e b → ¬ FtP p a1 b := fun b h z => by
    rcases F1.new b z with y | y
    · exact (heo b h).2 y
    · cases e with
      | no => exact h
      | over q dx d c =>
        have h : b = q := h
        rw [h, he.2] at y
        cases y
      | out q dx d =>
        have h : b = q := h
        rw [h, he.2] at y
        cases y
  have he1 : EnAt CO CQ H1 e ev := by
    cases e with
    | no => exact he
    | over q dx d c => exact ⟨he.1, F1.keep _ _ (heo q rfl).2 he.2⟩
    | out q dx d => exact ⟨he.1, F1.keep _ _ (heo q rfl).2 he.2⟩
  unfold passT at k
  cases es : (noteTM x).2.b.stop with
  | some r =>
    rw [es] at k
    have hs1 : StopAt H1 sv1 (noteTM x).2.b.stop := hs1
    rw [es] at hs1
    refine ifN (fun _ => ?_) (fun h => ?_)
    · exact ⟨_, rfl, p, CP, a1.dx, _, _, rfl, C1.hp, T.cP, T.nP_board, pF_board, a1.bd, CB, a1.A.dx, _, _, rfl, hpb1, T.cB, T.n_stopped, bF_stop, k H1 a1 T_ D_ sv1 F1.ext C1 he1 ent hs1⟩
    · obtain ⟨q9, rfl, _⟩ := hs1
      cases of_decide_eq_true h
  | none =>
    rw [es] at k
    have hs1 : StopAt H1 sv1 (noteTM x).2.b.stop := hs1
    rw [es] at hs1
    have hs1 : sv1 = .non := hs1
    subst hs1
    refine ifN (fun h => absurd rfl (of_decide_eq_false h)) (fun _ => ?_)
    obtain ⟨tl, us, ts, et, h1, h2⟩ := tl1
    have ht1 : tv1 = T_ := ht1
    rw [et] at ht1
    subst ht1
    refine ⟨_, rfl, p, CP, a1.dx, _, _, rfl, C1.hp, T.cP, T.nP_watching, pF_watching, a1.wa, a1.dw, _, rfl, C1.sm _ _ C1.hwa, wN_met, _, rfl, p, CP, a1.dx, _, _, rfl, C1.hp, T.cP, T.nP_board, pF_board, a1.bd, CB, a1.A.dx, _, _, rfl, hpb1, T.cB, T.n_touched, bF_tou, a1.wa, a1.dw, a1.wr, tl, us, ts, rfl, C1.sm _ _ C1.hwa, C1.sm _ _ C1.hwr, h1, h2, fun H2 s2 => ?_⟩
    have C2 := C1.same s2
    have F2 := F1.trans (Fr.of_same s2)
    have he2 : EnAt CO CQ H2 e ev := by
      cases e with
      | no => exact he1
      | over q dx d c => exact ⟨he1.1, s2 _ _ he1.2⟩
      | out q dx d => exact ⟨he1.1, s2 _ _ he1.2⟩
    refine ⟨_, rfl, _, rfl, ifB (fun _ => ?_) (fun h => absurd rfl (of_decide_eq_false h))⟩
    have el1 : a1.us.length = (noteTM x).2.rows.length := C1.rows.len
    cases e with
    | no =>
      obtain rfl : ev = .non := he2
      exact ⟨_, rfl, _, rfl, ifN (fun h => absurd rfl (of_decide_eq_false h)) (fun _ => ⟨_, rfl, k H2 a1 T_ D_ .non F2.ext C2 rfl ent rfl⟩)⟩
    | over q dx d c =>
      obtain ⟨rfl, hq⟩ := he2
      refine ⟨_, rfl, _, rfl, ifN (fun _ => ?_) (fun h => by cases (of_decide_eq_true h))⟩
      refine ⟨_, rfl, q, dx, _, rfl, hq, oN_comes, _, rfl, _, rfl, _, rfl, p, CP, a1.dx, _, _, rfl, C2.hp, T.cP, T.nP_frames, pF_frames, a1.fr, CF, a1.df, _, _, rfl, C2.hfr, T.cF, T.nF_rows, fF_rows, a1.fl, _, rfl, .inl (SqL.of C2.hfl), ?_⟩
      rw [el1]
      refine ⟨q, dx, (noteTM x).1, d, (x.rows.length : Int), ((noteTM x).2.rows.length : Int), c, rfl, hq, fun H3 kp3 hq3 => ?_⟩
      have C3 := C2.kept1 kp3 (ent q rfl) (heo q rfl).1 (fun xs z => by rw [hq] at z; cases z)
      have F3 := (F2.ext (e := .over q dx d c)).trans (Fr.one (F := FtX p a1 (.over q dx d c)) (.inr rfl) kp3)
      refine ⟨_, rfl, ifB (fun h => ?_) (fun h => ?_)⟩
      · rw [show En.comes (.over q dx d c) (noteTM x).1 (x.rows.length : Int) ((noteTM x).2.rows.length : Int) = true from h, if_pos rfl] at k
        refine ⟨(by show 1 ≤ sizeLine; decide), fun t nt => ?_⟩
        have s9 := same_upd' (o := .tup [V.str "done"]) nt
        exact k _ a1 _ D_ (.ref t) (F3.trans (Fr.of_same s9)) (C3.same s9) ⟨rfl, s9 _ _ hq3⟩ ent ⟨t, rfl, upd_same⟩
      · rw [show En.comes (.over q dx d c) (noteTM x).1 (x.rows.length : Int) ((noteTM x).2.rows.length : Int) = false from h, if_neg (by intro z; cases z)] at k
        exact ⟨_, rfl, k _ a1 _ D_ .non F3 C3 ⟨rfl, hq3⟩ ent rfl⟩
    | out q dx d => rcases hio with h | h <;> cases h
end
end Bh

/-! Turns go by till something holds the board. -/
namespace Bh
open PySem PySem.Spec PyProof.Rows L2
theorem passT_tvd (e : En) (x : Pm) (T D : V) : ∃ T' D', passT e (x.tvd T D) = ((passT e x).1, (passT e x).2.1, (passT e x).2.2.tvd T' D') := by
  obtain ⟨T', D', h⟩ := note_tvd x T D
  refine ⟨T', D', ?_⟩
  unfold passT
  rw [h]
  show (match (noteTM x).2.b.stop with
    | some s => _
    | none => _) = _
  cases (noteTM x).2.b.stop <;> rfl
theorem PrN.pass {x : Pm} (N : PrN x) (e : En) : PrN (passT e x).2.2 := by
  have h := N.note
  unfold passT
  cases (noteTM x).2.b.stop <;> exact h
theorem pass_n (e : En) (x : Pm) : (passT e x).2.2.n = x.n + 1 := by
  have h := note_n x
  unfold passT
  cases (noteTM x).2.b.stop <;> exact h
theorem pass_en (e : En) (x : Pm) : FtE (passT e x).2.1 = FtE e ∧ isOut (passT e x).2.1 = isOut e ∧ ((passT e x).2.1 = .no ↔ e = .no) := by
  unfold passT
  cases (noteTM x).2.b.stop with
  | some s => exact ⟨rfl, rfl, Iff.rfl⟩
  | none => cases e <;> refine ⟨rfl, rfl, ?_⟩ <;> constructor <;> intro h <;> cases h <;> rfl
section
variable (CB CM CP CK CW CF CH CC CI CO CQ : Addr)
def spNG : Sp := fun vs H Q _ => ∃ (S : Hp) (p : Addr) (a : Ap) (x : Pm) (v : V) (b : Bool), vs = [.ref p, v, .bl b] ∧ PrC CB CM CP CK CW CF CH CC CI S H p a x ∧ Q .non H
def spLG (o : Nat) : Sp := fun vs H Q _ => ∃ (S : Hp) (p : Addr) (a : Ap) (x : Pm) (e : En) (ev : V) (m : Int) (pk : Addr) (wv : V), vs = [.ref p, .int m, .ref pk, wv, ev] ∧ PrC CB CM CP CK CW CF CH CC CI S H p a x ∧ PrN x ∧ 0 ≤ m ∧ m ≤ 1000 ∧ (x.n : Int) + m < 99000 ∧
  EnAt CO CQ H e ev ∧ (isOut e = o ∨ e = .no) ∧ (∀ b, FtE e b → S b = none ∧ ¬ FtP p a b) ∧ H pk = some (.dK []) ∧ ¬ FtX p a e pk ∧
  ∀ H' a' T D v, Fr (FtX p a e) H (FtX p a' e) H' → PrC CB CM CP CK CW CF CH CC CI S H' p a' ((goP m e x).2.2.tvd T D) → EnAt CO CQ H' (goP m e x).2.1 ev → (∀ b, FtE e b → ¬ FtP p a' b) → RzAt H' v (goP m e x).1 → Q v H'
end
section
variable {P : Program} {w : World} {K : PySem.W.Frag} {mg : Str → Option Value} {base : Heap} {CB CM CP CK CW CF CH CC CI CS CO CQ : Addr}
abbrev sMng : Stmt := inClass (topS 99) 20
def scMngN : List Str := ["self", "addresses", "whole"]
theorem scMng : FnScope scMngN ["self", "addresses", "whole"] (defScope sMng) := ⟨rfl, rfl, rfl, by decide +kernel, rfl, by decide +kernel, by decide +kernel⟩
theorem ok_Mng {f : Addr} {fd : FuncData} {fM_ngv : Addr} {dM_ngv : FuncData} (F : Fun K "note_gone" "Probe.note_gone" sMng f fd) (T : Ty K mg CB CM CP CK CW CF CH CC CI CS)
    (M_ngv : CalM P w K mg base CP 1 "note_gone" ["self", "addresses", "whole"] (spNo) fM_ngv dM_ngv) : FnOk P w K mg base CX0 2 f fd ["self", "addresses", "whole"] (spNG CB CM CP CK CW CF CH CC CI) := by
  refine F.ok scMng (fun vs H Q E h => by obtain ⟨_, _, _, _, _, _, rfl, _⟩ := h; rfl) (fun cdv A outer s H vs Q E hr h => ?_)
  have hu := hu_of hr
  obtain ⟨S, p, a, x, v, b_, rfl, C, k⟩ := h
  refine ⟨_, (pss_one (ps_if (pt_cmp (pc_notN (pe_fld (pv 0) rfl))) (pss_one (ps_expr (pe_meth (pe_fld (pv 0) rfl) M_ngv.c M_ngv.m M_ngv.G (hr.mono (by decide)) M_ngv.b .nil pass0 (pa_cons (pv 1) (pa_cons (pv 2) pa_nil))))) pss_nil)), ?_⟩
  exact ⟨_, rfl, p, CP, a.dx, _, _, rfl, C.hp, T.cP, T.nP_course, pF_course, _, rfl, ifN (fun h => absurd rfl (of_decide_eq_false h)) (fun _ => k)⟩
abbrev sMlg : Stmt := inClass (topS 99) 19
def scMlgN : List Str := ["self", "most", "peeks", "words", "end", "number", "addresses", "address", "cause"]
theorem scMlg : FnScope scMlgN ["self", "most", "peeks", "words", "end"] (defScope sMlg) := ⟨rfl, rfl, rfl, by decide +kernel, rfl, by decide +kernel, by decide +kernel⟩
theorem ok_Mlg {f : Addr} {fd : FuncData} {fM_mm : Addr} {dM_mm : FuncData} {fM_ng : Addr} {dM_ng : FuncData} {fM_peek : Addr} {dM_peek : FuncData} {fM_pt : Addr} {dM_pt : FuncData} (F : Fun K "let_go" "Probe.let_go" sMlg f fd) (T : Ty K mg CB CM CP CK CW CF CH CC CI CS)
    (M_mm : CalM P w K mg base CP 3 "meets_mark" ["self"] (spMm CB CM CP CK CW CF CH CC CI) fM_mm dM_mm)
    (M_ng : CalM P w K mg base CP 2 "note_gone" ["self", "addresses", "whole"] (spNG CB CM CP CK CW CF CH CC CI) fM_ng dM_ng)
    (M_peek : CalM P w K mg base CP 1 "peek" ["self", "address"] (spNo) fM_peek dM_peek)
    (M_pt : CalM P w K mg base CP 9 "pass_turn" ["self", "end"] (spPT CB CM CP CK CW CF CH CC CI CO CQ 1) fM_pt dM_pt) : FnOk P w K mg base CX0 10 f fd ["self", "most", "peeks", "words", "end"] (spLG CB CM CP CK CW CF CH CC CI CO CQ 1) := by
  refine F.ok scMlg (fun vs H Q E h => by obtain ⟨_, _, _, _, _, _, _, _, _, rfl, _⟩ := h; rfl) (fun cdv A outer s H vs Q E hr h => ?_)
  have hu := hu_of hr
  have z_range := T.z_range
  obtain ⟨S, p, a, x, e, ev, m, pk, wv, rfl, C, N, m0, m1, hn, he, hio, heo, hpk, npk, k⟩ := h
  obtain ⟨sv, tv, dv, hpb, hz⟩ := C.B.hp
  refine ⟨_, (pss_cons (ps_if (PW.pt (pw_and (pt_cmpR op_gt (pv 1) pe_int (nomark _)) (pw_and1 (pt_cmp (pc_notN (pe_fld (pe_fld (pv 0) rfl) rfl)))))) (pss_one (ps_ret (pe_fld (pe_fld (pv 0) rfl) rfl))) pss_nil)
    (pss_cons (ps_for PassesOwn.never rfl (pi_range1 (by rfl) z_range (pa_cons (pv 1) pa_nil)) (pg_name (i := 5) scMlg.nd rfl (.inl rfl))
      (pss_cons (ps_set (i := 6) scMlg.nd rfl (.inl rfl) (pe_dget2 hu (pv 2) (pv 5) (pe_lst pa_nil) ⟨rfl, rfl, rfl, rfl⟩))
    (pss_cons (ps_for PassesOwn.never rfl (pi_list (pv 6)) (pg_name (i := 7) scMlg.nd rfl (.inl rfl))
      (pss_one (ps_expr (pe_bm PySem.F.plainAttrs_list PySem.F.slot_list_append PySem.F.type_list_append mt_append (pv 3) (pa_cons (pe_meth (pv 0) M_peek.c M_peek.m M_peek.G (hr.mono (by decide)) M_peek.b .nil pass0 (pa_cons (pv 7) pa_nil)) pa_nil)))))
    (pss_cons (ps_if (PW.pt (pw_and (pt_cmpR op_gt (pv 5) pe_int (nomark _)) (pw_and1 (pt_val (pe_meth0 (pv 0) M_mm.c M_mm.m M_mm.G (hr.mono (by decide)) M_mm.b .nil pass0))))) (pss_cons (ps_expr (pe_meth (pv 0) M_ng.c M_ng.m M_ng.G (hr.mono (by decide)) M_ng.b .nil pass0 (pa_cons (pv 6) (pa_cons pe_bl pa_nil))))
    (pss_one (ps_ret (pe_tup (pa_cons pe_str (pa_cons (pe_dget hu (pe_fld (pe_fld (pv 0) rfl) rfl) pe_str (fun _ _ => rfl)) pa_nil)))))) pss_nil)
    (pss_cons (ps_set (i := 8) scMlg.nd rfl (.inl rfl) (pe_meth (pv 0) M_pt.c M_pt.m M_pt.G (hr.mono (by decide)) M_pt.b .nil pass0 (pa_cons (pv 4) pa_nil)))
    (pss_cons (ps_expr (pe_meth (pv 0) M_ng.c M_ng.m M_ng.G (hr.mono (by decide)) M_ng.b .nil pass0 (pa_cons (pv 6) (pa_cons pe_bl pa_nil))))
    (pss_one (ps_if (pt_cmp (pc_notN (pv 8))) (pss_one (ps_ret (pv 8))) pss_nil))))))))
    (pss_one (ps_ret (pe_tup (pa_cons pe_str pa_nil)))))), ?_⟩
  cases es : x.b.stop with
  | some r =>
    rw [es] at hz
    obtain ⟨hs, ht_, hd_⟩ := hz
    by_cases hm : 0 < m
    · have ek : goP m e x = (.stop r, e, x) := by
        unfold goP
        rw [es]
        exact if_pos hm
      rw [ek] at k
      refine ⟨_, rfl, _, _, rfl, rfl, _, rfl, ifB (fun _ => ?_) (fun h => absurd hm (of_decide_eq_false h))⟩
      refine ⟨_, rfl, p, CP, a.dx, _, _, rfl, C.hp, T.cP, T.nP_board, pF_board, a.bd, CB, a.A.dx, _, _, rfl, hpb, T.cB, T.n_stopped, bF_stop, _, rfl, ifN (fun _ => ?_) (fun h => ?_)⟩
      · exact ⟨_, rfl, p, CP, a.dx, _, _, rfl, C.hp, T.cP, T.nP_board, pF_board, a.bd, CB, a.A.dx, _, _, rfl, hpb, T.cB, T.n_stopped, bF_stop, k H a x.b.tv x.b.dv sv Fr.rfl' C he (fun b h => (heo b h).2) hs⟩
      · obtain ⟨q9, rfl, _⟩ := hs
        cases of_decide_eq_true h
    · have ek : goP m e x = (.none, e, x) := by
        unfold goP
        rw [es]
        exact if_neg hm
      have e0 : m.toNat = 0 := by omega
      refine ⟨_, rfl, _, _, rfl, rfl, _, rfl, ifB (fun h => absurd (of_decide_eq_true h) hm) (fun _ => ifB (fun h => by cases h) (fun _ => ?_))⟩
      refine ⟨_, rfl, m, rfl, by omega, by omega, ?_⟩
      rw [e0]
      refine for_range (lo := 0) (n := 0) (fun i σ H' => H' = H) rfl (fun i _ _ h => absurd h (Nat.not_lt_zero _)) ?_
      rintro σ H' rfl
      rw [ek] at k
      refine ⟨(by show 1 ≤ sizeLine; decide), fun t nt => ?_⟩
      have s9 := same_upd' (o := .tup [V.str "turns"]) nt
      refine k _ a x.b.tv x.b.dv (.ref t) (Fr.of_same s9) (C.same s9) ?_ (fun b h => (heo b h).2) ⟨t, rfl, upd_same⟩
      cases e with
      | no => exact he
      | over q dx d c => exact ⟨he.1, s9 _ _ he.2⟩
      | out q dx d => exact ⟨he.1, s9 _ _ he.2⟩
  | none =>
    rw [es] at hz
    obtain ⟨hs, ht_, hd_⟩ := hz
    obtain rfl : sv = .non := hs
    have eg : goP m e x = runP m.toNat e x := by
      unfold goP
      rw [es]
    refine ⟨_, rfl, _, _, rfl, rfl, _, rfl, ifB (fun _ => ?_) (fun _ => ?_)⟩
    · refine ⟨_, rfl, p, CP, a.dx, _, _, rfl, C.hp, T.cP, T.nP_board, pF_board, a.bd, CB, a.A.dx, _, _, rfl, hpb, T.cB, T.n_stopped, bF_stop, _, rfl, ifN (fun h => absurd rfl (of_decide_eq_false h)) (fun _ => ?_)⟩
      refine ⟨_, rfl, m, rfl, by omega, by omega, ?_⟩
      refine for_range (lo := 0) (n := m.toNat) (fun i σ H' => ∃ (y6 y7 y8 y9 : Option V) (ai : Ap) (xi : Pm) (ei : En) (T_ D_ : V), σ = [some (.ref p), some (.int m), some (.ref pk), some wv, some ev, y6, y7, y8, y9] ∧ PrC CB CM CP CK CW CF CH CC CI S H' p ai (xi.tvd T_ D_) ∧ PrN xi ∧ xi.n = x.n + i ∧ Fr (FtX p a e) H (FtX p ai e) H' ∧ EnAt CO CQ H' ei ev ∧ FtE ei = FtE e ∧ (isOut ei = 1 ∨ ei = .no) ∧ (∀ b, FtE e b → ¬ FtP p ai b) ∧ H' pk = some (.dK []) ∧ ¬ FtX p ai e pk ∧ runP (m.toNat - i) ei xi = runP m.toNat e x) ⟨none, none, none, none, a, x, e, x.b.tv, x.b.dv, rfl, C, N, rfl, Fr.rfl', he, rfl, hio, (fun b h => (heo b h).2), hpk, npk, rfl⟩ ?_ ?_
      · rintro i σ H0 hi ⟨y6, y7, y8, y9, ai, xi, ei, T_, D_, rfl, Ci, Ni, hni, Fi, hei, fe, hio1, heo1, hpki, npk1, rn⟩
        refine ⟨_, rfl, pk, rfl, .inl ⟨_, .inl hpki⟩, _, rfl, Nat.zero_le _, fun l nl => ?_⟩
        have s1 := same_upd' (o := .lst []) nl
        have hl : upd H0 l (.lst []) l = some (.lst []) := upd_same
        have C1 := Ci.same s1
        have Fi1 := Fi.trans (Fr.of_same s1)
        have hpk1 := s1 _ _ hpki
        have he1 : EnAt CO CQ (upd H0 l (.lst [])) ei ev := by
          cases ei with
          | no => exact hei
          | over q dx d c => exact ⟨hei.1, s1 _ _ hei.2⟩
          | out q dx d => exact ⟨hei.1, s1 _ _ hei.2⟩
        clear s1 Ci Fi hei hpki
        generalize upd H0 l (.lst []) = H1 at *
        have hm1 : i < m.toNat := hi
        refine ⟨_, DGet.k (k := Sum.inl (0 + (i : Int))) hpk1, ?_⟩
        refine ⟨_, rfl, l, rfl, ⟨_, SqL.of hl⟩, ?_⟩
        refine for_list (K := K) (a := l) (xs := []) (fun j σ H' => H' = H1 ∧ σ = [some (.ref p), some (.int m), some (.ref pk), some wv, some ev, some (.int (0 + (i : Int))), some (.ref l), y8, y9]) ⟨rfl, rfl⟩ (fun j σ H' _ h => by rw [h.1]; exact SqL.of hl) (fun j v σ H' hv _ => by cases hv) ?_
        rintro σ H' ⟨rfl, rfl⟩
        refine ⟨_, rfl, _, _, rfl, rfl, _, rfl, ifB (fun _ => ?_) (fun _ => ?_)⟩
        · refine ⟨_, rfl, p, ai.dx, _, rfl, C1.hp, pN_meets_mark, S, p, ai, _, rfl, C1, ?_⟩
          refine ⟨_, rfl, ifB (fun h => by cases h) (fun _ => ?_)⟩
          refine ⟨_, rfl, p, ai.dx, _, rfl, C1.hp, pN_pass_turn, _, rfl, S, p, ai, xi.tvd T_ D_, ei, ev, rfl, C1, Ni.tvd _ _, (by show xi.n < 99000; omega), he1, hio1, (fun b h => by rw [fe] at h; exact ⟨(heo b h).1, heo1 b h⟩), fun H2 a2 T2 D2 v F2 C2 he2 heo2 cz => ?_⟩
          obtain ⟨T3, D3, e3⟩ := passT_tvd ei xi T_ D_
          rw [e3] at C2 he2 cz
          have hfx : ∀ c, FtX p c ei = FtX p c e := fun c => by unfold FtX; rw [fe]
          have F2' := F2
          rw [hfx, hfx] at F2'
          have F3 := Fi1.trans F2'
          have heo3 : ∀ b, FtE e b → ¬ FtP p a2 b := fun b h => heo2 b (by rw [fe]; exact h)
          refine ⟨_, rfl, p, a2.dx, _, rfl, C2.hp, pN_note_gone, _, rfl, S, p, a2, _, .ref l, true, rfl, C2, ?_⟩
          refine ⟨_, rfl, _, rfl, ?_⟩
          have er : runP (m.toNat - i) ei xi = match (passT ei xi).1 with
              | .none => runP (m.toNat - (i + 1)) (passT ei xi).2.1 (passT ei xi).2.2
              | .stop s => (.stop s, (passT ei xi).2)
              | .done => (.done, (passT ei xi).2) := by
            rw [show m.toNat - i = (m.toNat - (i + 1)) + 1 by omega]
            rfl
          obtain ⟨q1, q2, q3⟩ := pass_en ei xi
          cases ec : (passT ei xi).1 with
          | none =>
            rw [ec] at cz er
            obtain rfl : v = .non := cz
            refine ifN (fun h => absurd rfl (of_decide_eq_false h)) (fun _ => ?_)
            refine ⟨_, _, _, _, a2, (passT ei xi).2.2, (passT ei xi).2.1, T2, D2, rfl, C2, Ni.pass ei, by rw [pass_n]; omega, F3, he2, q1.trans fe, ?_, heo3, ?_, ?_, ?_⟩
            · rcases hio1 with h | h
              · exact .inl (q2.trans h)
              · exact .inr (q3.mpr h)
            · exact F2'.keep _ _ npk1 hpk1
            · intro z
              rcases F2'.new pk z with y | y
              · exact npk1 y
              · rw [y] at hpk1; cases hpk1
            · exact er.symm.trans rn
          | stop s_ =>
            rw [ec] at cz er
            refine ifN (fun _ => ?_) (fun h => ?_)
            · have ek : goP m e x = (.stop s_, (passT ei xi).2) := by rw [eg, ← rn, er]
              rw [ek] at k
              exact ⟨_, rfl, k H2 a2 T2 D2 v F3 C2 he2 heo3 cz⟩
            · obtain ⟨q9, rfl, _⟩ := cz
              cases of_decide_eq_true h
          | done =>
            rw [ec] at cz er
            refine ifN (fun _ => ?_) (fun h => ?_)
            · have ek : goP m e x = (.done, (passT ei xi).2) := by rw [eg, ← rn, er]
              rw [ek] at k
              exact ⟨_, rfl, k H2 a2 T2 D2 v F3 C2 he2 heo3 cz⟩
            · obtain ⟨q9, rfl, _⟩ := cz
              cases of_decide_eq_true h
        · refine ifB (fun h => by cases h) (fun _ => ?_)
          refine ⟨_, rfl, p, ai.dx, _, rfl, C1.hp, pN_pass_turn, _, rfl, S, p, ai, xi.tvd T_ D_, ei, ev, rfl, C1, Ni.tvd _ _, (by show xi.n < 99000; omega), he1, hio1, (fun b h => by rw [fe] at h; exact ⟨(heo b h).1, heo1 b h⟩), fun H2 a2 T2 D2 v F2 C2 he2 heo2 cz => ?_⟩
          obtain ⟨T3, D3, e3⟩ := passT_tvd ei xi T_ D_
          rw [e3] at C2 he2 cz
          have hfx : ∀ c, FtX p c ei = FtX p c e := fun c => by unfold FtX; rw [fe]
          have F2' := F2
          rw [hfx, hfx] at F2'
          have F3 := Fi1.trans F2'
          have heo3 : ∀ b, FtE e b → ¬ FtP p a2 b := fun b h => heo2 b (by rw [fe]; exact h)
          refine ⟨_, rfl, p, a2.dx, _, rfl, C2.hp, pN_note_gone, _, rfl, S, p, a2, _, .ref l, true, rfl, C2, ?_⟩
          refine ⟨_, rfl, _, rfl, ?_⟩
          have er : runP (m.toNat - i) ei xi = match (passT ei xi).1 with
              | .none => runP (m.toNat - (i + 1)) (passT ei xi).2.1 (passT ei xi).2.2
              | .stop s => (.stop s, (passT ei xi).2)
              | .done => (.done, (passT ei xi).2) := by
            rw [show m.toNat - i = (m.toNat - (i + 1)) + 1 by omega]
            rfl
          obtain ⟨q1, q2, q3⟩ := pass_en ei xi
          cases ec : (passT ei xi).1 with
          | none =>
            rw [ec] at cz er
            obtain rfl : v = .non := cz
            refine ifN (fun h => absurd rfl (of_decide_eq_false h)) (fun _ => ?_)
            refine ⟨_, _, _, _, a2, (passT ei xi).2.2, (passT ei xi).2.1, T2, D2, rfl, C2, Ni.pass ei, by rw [pass_n]; omega, F3, he2, q1.trans fe, ?_, heo3, ?_, ?_, ?_⟩
            · rcases hio1 with h | h
              · exact .inl (q2.trans h)
              · exact .inr (q3.mpr h)
            · exact F2'.keep _ _ npk1 hpk1
            · intro z
              rcases F2'.new pk z with y | y
              · exact npk1 y
              · rw [y] at hpk1; cases hpk1
            · exact er.symm.trans rn
          | stop s_ =>
            rw [ec] at cz er
            refine ifN (fun _ => ?_) (fun h => ?_)
            · have ek : goP m e x = (.stop s_, (passT ei xi).2) := by rw [eg, ← rn, er]
              rw [ek] at k
              exact ⟨_, rfl, k H2 a2 T2 D2 v F3 C2 he2 heo3 cz⟩
            · obtain ⟨q9, rfl, _⟩ := cz
              cases of_decide_eq_true h
          | done =>
            rw [ec] at cz er
            refine ifN (fun _ => ?_) (fun h => ?_)
            · have ek : goP m e x = (.done, (passT ei xi).2) := by rw [eg, ← rn, er]
              rw [ek] at k
              exact ⟨_, rfl, k H2 a2 T2 D2 v F3 C2 he2 heo3 cz⟩
            · obtain ⟨q9, rfl, _⟩ := cz
              cases of_decide_eq_true h
      · rintro σ H0 ⟨y6, y7, y8, y9, ai, xi, ei, T_, D_, rfl, Ci, Ni, hni, Fi, hei, fe, hio1, heo1, hpki, npk1, rn⟩
        rw [Nat.sub_self] at rn
        have rn : (Cz.none, ei, xi) = runP m.toNat e x := rn
        have ek : goP m e x = (.none, ei, xi) := by rw [eg, ← rn]
        rw [ek] at k
        refine ⟨(by show 1 ≤ sizeLine; decide), fun t nt => ?_⟩
        have s9 := same_upd' (o := .tup [V.str "turns"]) nt
        refine k _ ai T_ D_ (.ref t) (Fi.trans (Fr.of_same s9)) (Ci.same s9) ?_ heo1 ⟨t, rfl, upd_same⟩
        cases ei with
        | no => exact hei
        | over q dx d c => exact ⟨hei.1, s9 _ _ hei.2⟩
        | out q dx d => exact ⟨hei.1, s9 _ _ hei.2⟩
    · refine ifB (fun h => by cases h) (fun _ => ?_)
      refine ⟨_, rfl, m, rfl, by omega, by omega, ?_⟩
      refine for_range (lo := 0) (n := m.toNat) (fun i σ H' => ∃ (y6 y7 y8 y9 : Option V) (ai : Ap) (xi : Pm) (ei : En) (T_ D_ : V), σ = [some (.ref p), some (.int m), some (.ref pk), some wv, some ev, y6, y7, y8, y9] ∧ PrC CB CM CP CK CW CF CH CC CI S H' p ai (xi.tvd T_ D_) ∧ PrN xi ∧ xi.n = x.n + i ∧ Fr (FtX p a e) H (FtX p ai e) H' ∧ EnAt CO CQ H' ei ev ∧ FtE ei = FtE e ∧ (isOut ei = 1 ∨ ei = .no) ∧ (∀ b, FtE e b → ¬ FtP p ai b) ∧ H' pk = some (.dK []) ∧ ¬ FtX p ai e pk ∧ runP (m.toNat - i) ei xi = runP m.toNat e x) ⟨none, none, none, none, a, x, e, x.b.tv, x.b.dv, rfl, C, N, rfl, Fr.rfl', he, rfl, hio, (fun b h => (heo b h).2), hpk, npk, rfl⟩ ?_ ?_
      · rintro i σ H0 hi ⟨y6, y7, y8, y9, ai, xi, ei, T_, D_, rfl, Ci, Ni, hni, Fi, hei, fe, hio1, heo1, hpki, npk1, rn⟩
        refine ⟨_, rfl, pk, rfl, .inl ⟨_, .inl hpki⟩, _, rfl, Nat.zero_le _, fun l nl => ?_⟩
        have s1 := same_upd' (o := .lst []) nl
        have hl : upd H0 l (.lst []) l = some (.lst []) := upd_same
        have C1 := Ci.same s1
        have Fi1 := Fi.trans (Fr.of_same s1)
        have hpk1 := s1 _ _ hpki
        have he1 : EnAt CO CQ (upd H0 l (.lst [])) ei ev := by
          cases ei with
          | no => exact hei
          | over q dx d c => exact ⟨hei.1, s1 _ _ hei.2⟩
          | out q dx d => exact ⟨hei.1, s1 _ _ hei.2⟩
        clear s1 Ci Fi hei hpki
        generalize upd H0 l (.lst []) = H1 at *
        have hm1 : i < m.toNat := hi
        refine ⟨_, DGet.k (k := Sum.inl (0 + (i : Int))) hpk1, ?_⟩
        refine ⟨_, rfl, l, rfl, ⟨_, SqL.of hl⟩, ?_⟩
        refine for_list (K := K) (a := l) (xs := []) (fun j σ H' => H' = H1 ∧ σ = [some (.ref p), some (.int m), some (.ref pk), some wv, some ev, some (.int (0 + (i : Int))), some (.ref l), y8, y9]) ⟨rfl, rfl⟩ (fun j σ H' _ h => by rw [h.1]; exact SqL.of hl) (fun j v σ H' hv _ => by cases hv) ?_
        rintro σ H' ⟨rfl, rfl⟩
        refine ⟨_, rfl, _, _, rfl, rfl, _, rfl, ifB (fun _ => ?_) (fun _ => ?_)⟩
        · refine ⟨_, rfl, p, ai.dx, _, rfl, C1.hp, pN_meets_mark, S, p, ai, _, rfl, C1, ?_⟩
          refine ⟨_, rfl, ifB (fun h => by cases h) (fun _ => ?_)⟩
          refine ⟨_, rfl, p, ai.dx, _, rfl, C1.hp, pN_pass_turn, _, rfl, S, p, ai, xi.tvd T_ D_, ei, ev, rfl, C1, Ni.tvd _ _, (by show xi.n < 99000; omega), he1, hio1, (fun b h => by rw [fe] at h; exact ⟨(heo b h).1, heo1 b h⟩), fun H2 a2 T2 D2 v F2 C2 he2 heo2 cz => ?_⟩
          obtain ⟨T3, D3, e3⟩ := passT_tvd ei xi T_ D_
          rw [e3] at C2 he2 cz
          have hfx : ∀ c, FtX p c ei = FtX p c e := fun c => by unfold FtX; rw [fe]
          have F2' := F2
          rw [hfx, hfx] at F2'
          have F3 := Fi1.trans F2'
          have heo3 : ∀ b, FtE e b → ¬ FtP p a2 b := fun b h => heo2 b (by rw [fe]; exact h)
          refine ⟨_, rfl, p, a2.dx, _, rfl, C2.hp, pN_note_gone, _, rfl, S, p, a2, _, .ref l, true, rfl, C2, ?_⟩
          refine ⟨_, rfl, _, rfl, ?_⟩
          have er : runP (m.toNat - i) ei xi = match (passT ei xi).1 with
              | .none => runP (m.toNat - (i + 1)) (passT ei xi).2.1 (passT ei xi).2.2
              | .stop s => (.stop s, (passT ei xi).2)
              | .done => (.done, (passT ei xi).2) := by
            rw [show m.toNat - i = (m.toNat - (i + 1)) + 1 by omega]
            rfl
          obtain ⟨q1, q2, q3⟩ := pass_en ei xi
          cases ec : (passT ei xi).1 with
          | none =>
            rw [ec] at cz er
            obtain rfl : v = .non := cz
            refine ifN (fun h => absurd rfl (of_decide_eq_false h)) (fun _ => ?_)
            refine ⟨_, _, _, _, a2, (passT ei xi).2.2, (passT ei xi).2.1, T2, D2, rfl, C2, Ni.pass ei, by rw [pass_n]; omega, F3, he2, q1.trans fe, ?_, heo3, ?_, ?_, ?_⟩
            · rcases hio1 with h | h
              · exact .inl (q2.trans h)
              · exact .inr (q3.mpr h)
            · exact F2'.keep _ _ npk1 hpk1
            · intro z
              rcases F2'.new pk z with y | y
              · exact npk1 y
              · rw [y] at hpk1; cases hpk1
            · exact er.symm.trans rn
          | stop s_ =>
            rw [ec] at cz er
            refine ifN (fun _ => ?_) (fun h => ?_)
            · have ek : goP m e x = (.stop s_, (passT ei xi).2) := by rw [eg, ← rn, er]
              rw [ek] at k
              exact ⟨_, rfl, k H2 a2 T2 D2 v F3 C2 he2 heo3 cz⟩
            · obtain ⟨q9, rfl, _⟩ := cz
              cases of_decide_eq_true h
          | done =>
            rw [ec] at cz er
            refine ifN (fun _ => ?_) (fun h => ?_)
            · have ek : goP m e x = (.done, (passT ei xi).2) := by rw [eg, ← rn, er]
              rw [ek] at k
              exact ⟨_, rfl, k H2 a2 T2 D2 v F3 C2 he2 heo3 cz⟩
            · obtain ⟨q9, rfl, _⟩ := cz
              cases of_decide_eq_true h
        · refine ifB (fun h => by cases h) (fun _ => ?_)
          refine ⟨_, rfl, p, ai.dx, _, rfl, C1.hp, pN_pass_turn, _, rfl, S, p, ai, xi.tvd T_ D_, ei, ev, rfl, C1, Ni.tvd _ _, (by show xi.n < 99000; omega), he1, hio1, (fun b h => by rw [fe] at h; exact ⟨(heo b h).1, heo1 b h⟩), fun H2 a2 T2 D2 v F2 C2 he2 heo2 cz => ?_⟩
          obtain ⟨T3, D3, e3⟩ := passT_tvd ei xi T_ D_
          rw [e3] at C2 he2 cz
          have hfx : ∀ c, FtX p c ei = FtX p c e := fun c => by unfold FtX; rw [fe]
          have F2' := F2
          rw [hfx, hfx] at F2'
          have F3 := Fi1.trans F2'
          have heo3 : ∀ b, FtE e b → ¬ FtP p a2 b := fun b h => heo2 b (by rw [fe]; exact h)
          refine ⟨_, rfl, p, a2.dx, _, rfl, C2.hp, pN_note_gone, _, rfl, S, p, a2, _, .ref l, true, rfl, C2, ?_⟩
          refine ⟨_, rfl, _, rfl, ?_⟩
          have er : runP (m.toNat - i) ei xi = match (passT ei xi).1 with
              | .none => runP (m.toNat - (i + 1)) (passT ei xi).2.1 (passT ei xi).2.2
              | .stop s => (.stop s, (passT ei xi).2)
              | .done => (.done, (passT ei xi).2) := by
            rw [show m.toNat - i = (m.toNat - (i + 1)) + 1 by omega]
            rfl
          obtain ⟨q1, q2, q3⟩ := pass_en ei xi
          cases ec : (passT ei xi).1 with
          | none =>
            rw [ec] at cz er
            obtain rfl : v = .non := cz
            refine ifN (fun h => absurd rfl (of_decide_eq_false h)) (fun _ => ?_)
            refine ⟨_, _, _, _, a2, (passT ei xi).2.2, (passT ei xi).2.1, T2, D2, rfl, C2, Ni.pass ei, by rw [pass_n]; omega, F3, he2, q1.trans fe, ?_, heo3, ?_, ?_, ?_⟩
            · rcases hio1 with h | h
              · exact .inl (q2.trans h)
              · exact .inr (q3.mpr h)
            · exact F2'.keep _ _ npk1 hpk1
            · intro z
              rcases F2'.new pk z with y | y
              · exact npk1 y
              · rw [y] at hpk1; cases hpk1
            · exact er.symm.trans rn
          | stop s_ =>
            rw [ec] at cz er
            refine ifN (fun _ => ?_) (fun h => ?_)
            · have ek : goP m e x = (.stop s_, (passT ei xi).2) := by rw [eg, ← rn, er]
              rw [ek] at k
              exact ⟨_, rfl, k H2 a2 T2 D2 v F3 C2 he2 heo3 cz⟩
            · obtain ⟨q9, rfl, _⟩ := cz
              cases of_decide_eq_true h
          | done =>
            rw [ec] at cz er
            refine ifN (fun _ => ?_) (fun h => ?_)
            · have ek : goP m e x = (.done, (passT ei xi).2) := by rw [eg, ← rn, er]
              rw [ek] at k
              exact ⟨_, rfl, k H2 a2 T2 D2 v F3 C2 he2 heo3 cz⟩
            · obtain ⟨q9, rfl, _⟩ := cz
              cases of_decide_eq_true h
      · rintro σ H0 ⟨y6, y7, y8, y9, ai, xi, ei, T_, D_, rfl, Ci, Ni, hni, Fi, hei, fe, hio1, heo1, hpki, npk1, rn⟩
        rw [Nat.sub_self] at rn
        have rn : (Cz.none, ei, xi) = runP m.toNat e x := rn
        have ek : goP m e x = (.none, ei, xi) := by rw [eg, ← rn]
        rw [ek] at k
        refine ⟨(by show 1 ≤ sizeLine; decide), fun t nt => ?_⟩
        have s9 := same_upd' (o := .tup [V.str "turns"]) nt
        refine k _ ai T_ D_ (.ref t) (Fi.trans (Fr.of_same s9)) (Ci.same s9) ?_ heo1 ⟨t, rfl, upd_same⟩
        cases ei with
        | no => exact hei
        | over q dx d c => exact ⟨hei.1, s9 _ _ hei.2⟩
        | out q dx d => exact ⟨hei.1, s9 _ _ hei.2⟩
end
end Bh

/-! Where a board's memory stands doesn't matter to what goes on. -/
namespace Bh
open PySem PySem.Spec PyProof.Rows L2
/-- with other things in the fields that tell where the memory stands -/
def Bd.mas (x : Bd) (T D : Addr) : Bd := { x with ma := T, sa := D }
theorem mas_come (x : Bd) (T D : Addr) : comeM (x.mas T D) = (comeM x).mas T D := by
  unfold comeM
  show (if x.la < x.line.length ∧ (x.line.getD x.la (0, 0)).1 = x.beat then _ else _) = Bd.mas (if x.la < x.line.length ∧ (x.line.getD x.la (0, 0)).1 = x.beat then _ else _) T D
  split <;> rfl
theorem mas_one (x : Bd) (T D : Addr) : passOneM (x.mas T D) = (passOneM x).mas T D := by
  have h := mas_come { x with beat := x.beat + 1 } T D
  unfold passOneM
  show { comeM (Bd.mas { x with beat := x.beat + 1 } T D) with mem := goTimerM (comeM (Bd.mas { x with beat := x.beat + 1 } T D)).mem } = _
  rw [h]
  rfl
theorem mas_pass : ∀ (n : Nat) (x : Bd) (T D : Addr), passM n (x.mas T D) = (passM n x).mas T D
  | 0, _, _, _ => rfl
  | n + 1, x, T, D => by
    show passM n (passOneM (x.mas T D)) = (passM n (passOneM x)).mas T D
    rw [mas_one, mas_pass n]
theorem mas_put (a v : Int) (x : Bd) (T D : Addr) : putWM a v (x.mas T D) = (putWM a v x).mas T D := by
  unfold putWM sendM
  split <;> rfl
theorem mas_do (op : Nat) (n : Int) (ws : List Int) (x : Bd) (T D : Addr) : doM op n ws (x.mas T D) = (doM op n ws x).mas T D := by
  unfold doM
  split
  all_goals first
    | rfl
    | (show putWM _ _ (x.mas T D) = _; rw [mas_put]; rfl)
    | (show { putWM x.sp x.pc (x.mas T D) with sp := x.sp - 1, pc := n } = _; rw [mas_put]; rfl)
    | (show { putWM x.sp x.a (x.mas T D) with sp := x.sp - 1 } = _; rw [mas_put]; rfl)
    | (show (if x.zero = true then _ else _) = Bd.mas (if x.zero = true then _ else _) T D; split <;> rfl)
    | (show (if 32768 ≤ x.a then _ else _) = Bd.mas (if 32768 ≤ x.a then _ else _) T D; split <;> rfl)
theorem mas_done (x : Bd) (T D : Addr) : doneM (x.mas T D) = (doneM x).mas T D := by
  show passM (1 + (toM x).length) (doM (opM x) (xM x) (readsM x.mem (toM x)) (Bd.mas { x with pc := x.pc + 1 } T D)) = (passM (1 + (toM x).length) (doM (opM x) (xM x) (readsM x.mem (toM x)) { x with pc := x.pc + 1 })).mas T D
  rw [mas_do, mas_pass]
theorem mas_begun (x : Bd) (T D : Addr) : begunM (x.mas T D) = (begunM x).mas T D := by
  show passM 3 { putWM (x.sp - 1) (b2n x.zero) (putWM x.sp x.pc (x.mas T D)) with sp := x.sp - 2, lets := false, pc := if Builtin.bitAnd (calledM x) 1 ≠ 0 then 1 else 2 } = _
  rw [mas_put, mas_put]
  exact mas_pass 3 { putWM (x.sp - 1) (b2n x.zero) (putWM x.sp x.pc x) with sp := x.sp - 2, lets := false, pc := if Builtin.bitAnd (calledM x) 1 ≠ 0 then 1 else 2 } T D
theorem mas_deed (x : Bd) (T D : Addr) : deedM (x.mas T D) = ((deedM x).1, (deedM x).2.mas T D) := by
  unfold deedM
  by_cases c1 : ¬ (0 ≤ x.pc ∧ x.pc < 768)
  · rw [if_pos c1, if_pos (show ¬ (0 ≤ (x.mas T D).pc ∧ (x.mas T D).pc < 768) from c1)]
    rfl
  · rw [if_neg c1, if_neg (show ¬ ¬ (0 ≤ (x.mas T D).pc ∧ (x.mas T D).pc < 768) from c1)]
    by_cases c2 : 23 ≤ opM x
    · rw [if_pos c2, if_pos (show 23 ≤ opM (x.mas T D) from c2)]
      rfl
    · rw [if_neg c2, if_neg (show ¬ 23 ≤ opM (x.mas T D) from c2)]
      by_cases c3 : opM x = 0
      · rw [if_pos c3, if_pos (show opM (x.mas T D) = 0 from c3)]
        rfl
      · rw [if_neg c3, if_neg (show ¬ opM (x.mas T D) = 0 from c3)]
        have et : firstBad (toM (x.mas T D)) = firstBad (toM x) := rfl
        rw [et]
        cases firstBad (toM x) with
        | some r => rfl
        | none =>
          dsimp only
          rw [mas_done]
theorem mas_int (x : Bd) (T D : Addr) : intM (x.mas T D) = ((intM x).1, (intM x).2.mas T D) := by
  unfold intM
  have et : firstBad [(true, (x.mas T D).sp), (true, (x.mas T D).sp - 1)] = firstBad [(true, x.sp), (true, x.sp - 1)] := rfl
  rw [et]
  cases firstBad [(true, x.sp), (true, x.sp - 1)] with
  | some r => rfl
  | none =>
    dsimp only
    rw [mas_begun]
theorem mas_turn (x : Bd) (T D : Addr) : turnM (x.mas T D) = ((turnM x).1, (turnM x).2.mas T D) := by
  unfold turnM
  show (if x.stop ≠ none then _ else if x.asleep = true ∧ calledM x = 0 then (("asleep" : Str), passM 1 (x.mas T D)) else if x.lets = true ∧ calledM x ≠ 0 then intM (Bd.mas { x with asleep := false } T D) else deedM (Bd.mas { x with asleep := false } T D)) = _
  split
  · rfl
  · split
    · rw [mas_pass]
    · split
      · rw [mas_int]
      · rw [mas_deed]
def Pm.mas (x : Pm) (m s : Addr) : Pm := { x with b := x.b.mas m s }
theorem note_mas (x : Pm) (T D : Addr) : noteTM (x.mas T D) = ((noteTM x).1, (noteTM x).2.mas T D) := by
  have eb : turnM (x.mas T D).b = ((turnM x.b).1, (turnM x.b).2.mas T D) := mas_turn x.b T D
  have ed : didV (x.mas T D).b = didV x.b := by
    unfold didV
    rw [eb]
    rfl
  have ef : follT (x.mas T D) = follT x := by
    unfold follT
    rw [eb, ed]
    rfl
  have et : toT (x.mas T D) = toT x := by
    unfold toT
    rw [eb, ef]
    rfl
  unfold noteTM
  rw [eb]
  show ((turnM x.b).1, if (turnM x.b).1 = "stopped" then _ else _) = _
  split
  · rfl
  · refine congrArg (Prod.mk _) ?_
    unfold passedM
    rw [eb, ef, et]
    rfl
theorem passT_mas (e : En) (x : Pm) (T D : Addr) : passT e (x.mas T D) = ((passT e x).1, (passT e x).2.1, (passT e x).2.2.mas T D) := by
  unfold passT
  rw [note_mas]
  show (match (noteTM x).2.b.stop with
    | some s => _
    | none => _) = _
  cases (noteTM x).2.b.stop <;> rfl
theorem goP_mas (m : Int) (e : En) (x : Pm) (T D : Addr) : goP m e (x.mas T D) = ((goP m e x).1, (goP m e x).2.1, (goP m e x).2.2.mas T D) := by
  have hr : ∀ (n : Nat) (e : En) (x : Pm), runP n e (x.mas T D) = ((runP n e x).1, (runP n e x).2.1, (runP n e x).2.2.mas T D) := by
    intro n
    induction n with
    | zero => exact fun e x => rfl
    | succ n ih =>
      intro e x
      unfold runP
      rw [passT_mas]
      dsimp only
      cases (passT e x).1 with
      | none => exact ih _ _
      | stop s => rfl
      | done => rfl
  unfold goP
  have eb : (x.mas T D).b.stop = x.b.stop := rfl
  rw [eb]
  cases x.b.stop with
  | some s =>
    dsimp only
    by_cases h : 0 < m
    · rw [if_pos h, if_pos h]
    · rw [if_neg h, if_neg h]
  | none => exact hr _ e x
end Bh

/-! What a probe is asked to do: to go, to step. -/
namespace Bh
open PySem PySem.Spec PyProof.Rows L2
theorem FunD.ok0 {P : Program} {w : World} {K : PySem.W.Frag} {mg : Str → Option Value} {base : Heap} {x qual : Str} {st : Stmt} {dvs : List V} {kws : List (Str × V)} {f : Addr} {fd : FuncData} {N ps : List Str} {k : Nat} {sp : Sp} (F : FunD K x qual (defArgs st) (defBody st) (defScope st) dvs kws f fd) (S : FnScope N ps (defScope st)) (len : ∀ vs H Q E, sp vs H Q E → vs.length = ps.length)
    (hbody : ∀ (cdv : Value) (A : Around) (outer : List Env) (s : Shared) (H : Hp) (vs : List V) (Q : VK) (E : XK), Room k (A.deeper (envOfC qual (defScope st) s.heap.objs.size f cdv)) → sp vs H Q E →
      ∃ t, PSs (cxOf CX0 P w K mg base N qual (defScope st) f cdv A outer s H E).nox (defBody st) t ∧ t { nx := fun _ H' => Q .non H', rt := Q } (start N vs) H) : FnOk P w K mg base CX0 (k + 1) f fd ps sp :=
  F.ok S len fun cdv A outer s H vs Q E hr hsp => by
    obtain ⟨t, h, q⟩ := hbody cdv A outer s H vs Q E hr hsp
    exact ⟨t, h.nox, q⟩
/-- a method whose last parameter may be left out: None then -/
structure CalMd (P : Program) (w : World) (K : PySem.W.Frag) (mg : Str → Option Value) (base : Heap) (C : Addr) (k : Nat) (nm : Str) (ps : List Str) (sp : Sp) (f : Addr) (fd : FuncData) : Prop where
  c : Cls K C
  m : Meth K C nm f
  b : Binds K fd ps [.none]
  G : FnOk P w K mg base CX0 k f fd ps sp
theorem PrN.mas {x : Pm} (N : PrN x) (m s : Addr) : PrN (x.mas m s) := ⟨N.s, N.r, N.h, N.d, N.t, { N.nn with }⟩
/-- a probe and its own things, by what it is -/
def PrA (CB CM CP CK CW CF CH CC CI : Addr) (S H : Hp) (F : Addr → Prop) (p : Addr) (x : Pm) : Prop := (∃ a T D m s, F = FtP p a ∧ PrC CB CM CP CK CW CF CH CC CI S H p a ((x.mas m s).tvd T D)) ∧ PrN x
section
variable {CB CM CP CK CW CF CH CC CI : Addr} {S H H' : Hp} {F G G' : Addr → Prop} {p : Addr} {x : Pm}
theorem PrA.solid (A : PrA CB CM CP CK CW CF CH CC CI S H F p x) : ∀ b, F b → ∃ o, H b = some o ∧ ∀ xs, o ≠ .tup xs := by
  obtain ⟨⟨a, T, D, m, s, rfl, C⟩, _⟩ := A
  exact C.solid
theorem PrA.off (A : PrA CB CM CP CK CW CF CH CC CI S H F p x) : ∀ b, F b → S b = none := by
  obtain ⟨⟨a, T, D, m, s, rfl, C⟩, _⟩ := A
  exact C.fs
theorem PrA.sm (A : PrA CB CM CP CK CW CF CH CC CI S H F p x) : Same S H := by
  obtain ⟨⟨a, T, D, m, s, rfl, C⟩, _⟩ := A
  exact C.sm
theorem PrA.same (A : PrA CB CM CP CK CW CF CH CC CI S H F p x) (s' : Same H H') : PrA CB CM CP CK CW CF CH CC CI S H' F p x := by
  obtain ⟨⟨a, T, D, m, s, rfl, C⟩, N⟩ := A
  exact ⟨⟨a, T, D, m, s, rfl, C.same s'⟩, N⟩
theorem PrA.other (A : PrA CB CM CP CK CW CF CH CC CI S H F p x) (f : Fr G H G' H') (d : ∀ b, G b → ¬ F b) (ds : ∀ b, G b → S b = none) (sol : ∀ b, G b → ∃ o, H b = some o ∧ ∀ xs, o ≠ .tup xs) : PrA CB CM CP CK CW CF CH CC CI S H' F p x ∧ ∀ b, G' b → ¬ F b := by
  have s1 := A.solid
  obtain ⟨⟨a, T, D, m, s, rfl, C⟩, N⟩ := A
  refine ⟨⟨⟨a, T, D, m, s, rfl, C.other f d ds sol⟩, N⟩, fun b h z => ?_⟩
  rcases f.new b h with y | y
  · exact d b y z
  · obtain ⟨o, e, _⟩ := s1 b z
    rw [y] at e
    cases e
/-- more stands for good -/
theorem PrA.base {S' : Hp} (A : PrA CB CM CP CK CW CF CH CC CI S H F p x) (s1 : Same S S') (s2 : Same S' H) (d : ∀ b, F b → S' b = none) : PrA CB CM CP CK CW CF CH CC CI S' H F p x := by
  obtain ⟨⟨a, T, D, m, s, rfl, C⟩, N⟩ := A
  exact ⟨⟨a, T, D, m, s, rfl, { C with
    sm := s2
    fs := d
    hst := s1 _ _ C.hst
    hhd := s1 _ _ C.hhd
    hwa := s1 _ _ C.hwa
    hwr := s1 _ _ C.hwr
    hmi := s1 _ _ C.hmi
    hml := s1 _ _ C.hml }⟩, N⟩
end
theorem Fr.drop {p : Addr} {a a' : Ap} {H H1 H' : Hp} {e : En} (s : Same H H1) (he : ∀ b, FtE e b → H b = none) (f : Fr (FtX p a e) H1 (FtX p a' e) H') : Fr (FtP p a) H (FtP p a') H' where
  keep := fun b o n h => f.keep b o (fun z => by
    rcases z with z | z
    · exact n z
    · rw [he b z] at h; cases h) (s _ _ h)
  new := fun b z => by
    rcases f.new b (.inl z) with y | y
    · rcases y with y | y
      · exact .inl y
      · exact .inr (he b y)
    · exact .inr (s.free y)
theorem goP_tvd (m : Int) (e : En) (x : Pm) (T D : V) : ∃ T' D', goP m e (x.tvd T D) = ((goP m e x).1, (goP m e x).2.1, (goP m e x).2.2.tvd T' D') := by
  have hr : ∀ (n : Nat) (e : En) (x : Pm) (T D : V), ∃ T' D', runP n e (x.tvd T D) = ((runP n e x).1, (runP n e x).2.1, (runP n e x).2.2.tvd T' D') := by
    intro n
    induction n with
    | zero => exact fun e x T D => ⟨T, D, rfl⟩
    | succ n ih =>
      intro e x T D
      obtain ⟨T1, D1, h⟩ := passT_tvd e x T D
      unfold runP
      rw [h]
      dsimp only
      cases (passT e x).1 with
      | none => exact ih _ _ T1 D1
      | stop s => exact ⟨T1, D1, rfl⟩
      | done => exact ⟨T1, D1, rfl⟩
  unfold goP
  have eb : (x.tvd T D).b.stop = x.b.stop := rfl
  rw [eb]
  cases x.b.stop with
  | some s =>
    dsimp only
    by_cases h : 0 < m
    · rw [if_pos h, if_pos h]
      exact ⟨T, D, rfl⟩
    · rw [if_neg h, if_neg h]
      exact ⟨T, D, rfl⟩
  | none => exact hr _ e x T D
def En.at_ (e : En) (q dx : Addr) : En := match e with
  | .no => .no
  | .over _ _ d b => .over q dx d b
  | .out _ _ d => .out q dx d
theorem passT_at (e : En) (x : Pm) (q dx : Addr) : passT (e.at_ q dx) x = ((passT e x).1, (passT e x).2.1.at_ q dx, (passT e x).2.2) := by
  unfold passT
  cases (noteTM x).2.b.stop with
  | some s => rfl
  | none => cases e <;> rfl
theorem goP_at (m : Int) (e : En) (x : Pm) (q dx : Addr) : goP m (e.at_ q dx) x = ((goP m e x).1, (goP m e x).2.1.at_ q dx, (goP m e x).2.2) := by
  have hr : ∀ (n : Nat) (e : En) (x : Pm), runP n (e.at_ q dx) x = ((runP n e x).1, (runP n e x).2.1.at_ q dx, (runP n e x).2.2) := by
    intro n
    induction n with
    | zero => exact fun e x => rfl
    | succ n ih =>
      intro e x
      unfold runP
      rw [passT_at]
      dsimp only
      cases (passT e x).1 with
      | none => exact ih _ _
      | stop s => rfl
      | done => rfl
  unfold goP
  cases x.b.stop with
  | some s =>
    dsimp only
    by_cases h : 0 < m
    · rw [if_pos h, if_pos h]
    · rw [if_neg h, if_neg h]
  | none => exact hr _ e x
theorem RzAt.mono {H H' : Hp} (k : ∀ t xs, H t = some (.tup xs) → H' t = some (.tup xs)) {v : V} : ∀ {c : Cz}, RzAt H v c → RzAt H' v c
  | .none, ⟨t, e, h⟩ => ⟨t, e, k _ _ h⟩
  | .done, ⟨t, e, h⟩ => ⟨t, e, k _ _ h⟩
  | .stop s, h => StopAt.mono (o := some s) k h
theorem goP_N {x : Pm} (N : PrN x) (m : Int) (e : En) : PrN (goP m e x).2.2 ∧ (goP m e x).2.2.n ≤ x.n + m.toNat := by
  have hr : ∀ (n : Nat) (e : En) (x : Pm), PrN x → PrN (runP n e x).2.2 ∧ (runP n e x).2.2.n ≤ x.n + n := by
    intro n
    induction n with
    | zero => exact fun e x N => ⟨N, Nat.le_refl _⟩
    | succ n ih =>
      intro e x N
      have N1 := N.pass e
      have n1 := pass_n e x
      unfold runP
      cases (passT e x).1 with
      | none =>
        obtain ⟨a, b⟩ := ih (passT e x).2.1 (passT e x).2.2 N1
        exact ⟨a, by show (runP n (passT e x).2.1 (passT e x).2.2).2.2.n ≤ _; omega⟩
      | stop s => exact ⟨N1, by show (passT e x).2.2.n ≤ _; omega⟩
      | done => exact ⟨N1, by show (passT e x).2.2.n ≤ _; omega⟩
  unfold goP
  cases x.b.stop with
  | some s =>
    show PrN (if 0 < m then _ else _ : Cz × En × Pm).2.2 ∧ (if 0 < m then _ else _ : Cz × En × Pm).2.2.n ≤ _
    by_cases h : 0 < m
    · rw [if_pos h]
      exact ⟨N, Nat.le_add_right _ _⟩
    · rw [if_neg h]
      exact ⟨N, Nat.le_add_right _ _⟩
  | none => exact hr _ e x N
section
variable (CB CM CP CK CW CF CH CC CI CO CQ : Addr)
def spPbt : Sp := fun vs H Q _ => vs = [.non] ∧ ∀ H' pk, Same H H' → H pk = none → H' pk = some (.dK []) → Q (.ref pk) H'
def spOvI (C : Addr) : Sp := fun vs H Q _ => ∃ (q dx : Addr) (d : Int), vs = [.ref q, .int d] ∧ H q = some (.ins C dx []) ∧ ∀ H', (∀ b o, b ≠ q → H b = some o → H' b = some o) → H' q = some (.ins C dx (oeF d false)) → Q .non H'
def spOuI (C : Addr) : Sp := fun vs H Q _ => ∃ (q dx : Addr) (d : Int), vs = [.ref q, .int d] ∧ H q = some (.ins C dx []) ∧ ∀ H', (∀ b o, b ≠ q → H b = some o → H' b = some o) → H' q = some (.ins C dx (ouF d)) → Q .non H'
def spGo : Sp := fun vs H Q _ => ∃ (S : Hp) (F : Addr → Prop) (p : Addr) (x : Pm) (m : Int), vs = [.ref p, .int m, .non] ∧ PrA CB CM CP CK CW CF CH CC CI S H F p x ∧ 0 ≤ m ∧ m ≤ 1000 ∧ (x.n : Int) + m < 99000 ∧
  ∀ H' F' q v wl, H wl = none → Fr F H F' H' → PrA CB CM CP CK CW CF CH CC CI S H' F' p (goP m .no x).2.2 → H' q = some (.tup [v, .ref wl]) → H' wl = some (.lst []) → RzAt H' v (goP m .no x).1 → Q (.ref q) H'
def spOver : Sp := fun vs H Q _ => ∃ (S : Hp) (F : Addr → Prop) (p : Addr) (x : Pm) (m : Int), vs = [.ref p, .int m] ∧ PrA CB CM CP CK CW CF CH CC CI S H F p x ∧ 0 ≤ m ∧ m ≤ 1000 ∧ (x.n : Int) + m < 99000 ∧
  ∀ H' F' v, Fr F H F' H' → PrA CB CM CP CK CW CF CH CC CI S H' F' p (goP m (.over 0 0 x.rows.length false) x).2.2 → RzAt H' v (goP m (.over 0 0 x.rows.length false) x).1 → Q v H'
def spOut_ : Sp := fun vs H Q _ => ∃ (S : Hp) (F : Addr → Prop) (p : Addr) (x : Pm) (m : Int), vs = [.ref p, .int m] ∧ PrA CB CM CP CK CW CF CH CC CI S H F p x ∧ 0 ≤ m ∧ m ≤ 1000 ∧ (x.n : Int) + m < 99000 ∧ x.rows ≠ [] ∧
  ∀ H' F' v, Fr F H F' H' → PrA CB CM CP CK CW CF CH CC CI S H' F' p (goP m (.out 0 0 x.rows.length) x).2.2 → RzAt H' v (goP m (.out 0 0 x.rows.length) x).1 → Q v H'
def spSin : Sp := fun vs H Q _ => ∃ (S : Hp) (F : Addr → Prop) (p : Addr) (x : Pm), vs = [.ref p] ∧ PrA CB CM CP CK CW CF CH CC CI S H F p x ∧ (x.n : Int) + 1 < 99000 ∧
  ∀ H' F' v, Fr F H F' H' → PrA CB CM CP CK CW CF CH CC CI S H' F' p (goP 1 .no x).2.2 → RzAt H' v (goP 1 .no x).1 → Q v H'
def spFrs : Sp := fun vs H Q _ => ∃ (S : Hp) (F : Addr → Prop) (p : Addr) (x : Pm), vs = [.ref p] ∧ PrA CB CM CP CK CW CF CH CC CI S H F p x ∧ ∀ H' l us, Same H H' → H l = none → H' l = some (.lst us) → T3At H' us x.rows → Q (.ref l) H'
def spStr : Sp := fun vs H Q _ => ∃ (S : Hp) (F : Addr → Prop) (p : Addr) (x : Pm), vs = [.ref p] ∧ PrA CB CM CP CK CW CF CH CC CI S H F p x ∧ Q (.int x.strays) H
end
section
variable {P : Program} {w : World} {K : PySem.W.Frag} {mg : Str → Option Value} {base : Heap} {CB CM CP CK CW CF CH CC CI CS CO CQ : Addr}
abbrev sCove : Stmt := inClass (topS 11) 0
def scCoveN : List Str := ["self", "depth"]
theorem scCove : FnScope scCoveN ["self", "depth"] (defScope sCove) := ⟨rfl, rfl, rfl, by decide +kernel, rfl, by decide +kernel, by decide +kernel⟩
theorem ok_Cove {f : Addr} {fd : FuncData} (F : Fun K "__init__" "OverEnd.__init__" sCove f fd) (T : Ty K mg CB CM CP CK CW CF CH CC CI CS) (TO : To K CO CQ) : FnOk P w K mg base CX0 1 f fd ["self", "depth"] (spOvI CO) := by
  refine F.ok scCove (fun vs H Q E h => by obtain ⟨_, _, _, rfl, _⟩ := h; rfl) (fun cdv A outer s H vs Q E hr h => ?_)
  have hu := hu_of hr
  obtain ⟨q, dx, d, rfl, hq, k⟩ := h
  refine ⟨_, (pss_cons (ps_fld (pv 0) (pv 1) rfl)
    (pss_one (ps_fld (pv 0) pe_bl rfl))), ?_⟩
  refine ⟨_, rfl, _, rfl, q, CO, dx, _, rfl, hq, TO.cO, TO.nO_depth, (by show 0 < 1000; decide), ?_⟩
  refine ⟨_, rfl, q, CO, dx, _, rfl, upd_same, TO.cO, TO.nO_deed_done, (by show 1 < 1000; decide), ?_⟩
  rw [upd_upd]
  exact k _ (fun b o n e => by rw [upd_ne n]; exact e) upd_same
abbrev sFpbt : Stmt := topS 98
def scFpbtN : List Str := ["peeks", "found", "number", "address"]
theorem scFpbt : FnScope scFpbtN ["peeks"] (defScope sFpbt) := ⟨rfl, rfl, rfl, by decide +kernel, rfl, by decide +kernel, by decide +kernel⟩
theorem ok_Fpbt {f : Addr} {fd : FuncData} (F : Fun K "peeks_by_turn" "peeks_by_turn" sFpbt f fd) (T : Ty K mg CB CM CP CK CW CF CH CC CI CS) : FnOk P w K mg base CX0 1 f fd ["peeks"] (spPbt) := by
  refine F.ok scFpbt (fun vs H Q E h => by obtain ⟨rfl, _⟩ := h; rfl) (fun cdv A outer s H vs Q E hr h => ?_)
  have hu := hu_of hr
  obtain ⟨rfl, k⟩ := h
  refine ⟨_, (pss_cons (ps_set (i := 1) scFpbt.nd rfl (.inl rfl) pe_dnewK)
    (pss_cons (ps_for PassesOwn.never rfl (pi_list (pe_orT (pv 0) (pe_one (pe_lst pa_nil)))) (pg_tup rfl (pgs_cons (pg_name (i := 2) scFpbt.nd rfl (.inl rfl)) (pgs_cons (pg_name (i := 3) scFpbt.nd rfl (.inl rfl)) pgs_nil)))
      pss_never)
    (pss_one (ps_ret (pv 1))))), ?_⟩
  intro pk npk
  have s1 := same_upd' (o := .dK []) npk
  have h1 : upd H pk (.dK []) pk = some (.dK []) := upd_same
  generalize upd H pk (.dK []) = H1 at *
  refine ⟨_, rfl, _, rfl, ifB (fun h => by cases h) (fun _ => ⟨Nat.zero_le _, fun l nl => ?_⟩)⟩
  have s2 := same_upd' (o := .lst []) nl
  refine ⟨l, rfl, ⟨_, SqL.of upd_same⟩, ?_⟩
  refine for_list (K := K) (a := l) (xs := []) (fun i σ H' => H' = upd H1 l (.lst []) ∧ ∃ y2 y3 : Option V, σ = [some .non, some (.ref pk), y2, y3]) ⟨rfl, none, none, rfl⟩ (fun i σ H' _ h => by rw [h.1]; exact SqL.of upd_same) (fun i v σ H' hv _ => by cases hv) ?_
  rintro σ H' ⟨rfl, y2, y3, rfl⟩
  exact ⟨_, rfl, k _ pk (s1.trans s2) npk (s2 _ _ h1)⟩
abbrev sMgo : Stmt := inClass (topS 99) 9
def scMgoN : List Str := ["self", "most", "peeks", "words", "cause"]
theorem scMgo : FnScope scMgoN ["self", "most", "peeks"] (defScope sMgo) := ⟨rfl, rfl, rfl, by decide +kernel, rfl, by decide +kernel, by decide +kernel⟩
theorem ok_Mgo {f : Addr} {fd : FuncData} {fF_pbt : Addr} {dF_pbt : FuncData} {fM_lg : Addr} {dM_lg : FuncData} (F : FunD K "go" "Probe.go" (defArgs sMgo) (defBody sMgo) (defScope sMgo) [.non] [] f fd) (T : Ty K mg CB CM CP CK CW CF CH CC CI CS)
    (F_pbt : CalF P w K mg base 1 "peeks_by_turn" ["peeks"] (spPbt) fF_pbt dF_pbt)
    (M_lg : CalM P w K mg base CP 10 "let_go" ["self", "most", "peeks", "words", "end"] (spLG CB CM CP CK CW CF CH CC CI CO CQ 1) fM_lg dM_lg) : FnOk P w K mg base CX0 11 f fd ["self", "most", "peeks"] (spGo CB CM CP CK CW CF CH CC CI) := by
  refine FunD.ok0 F scMgo (fun vs H Q E h => by obtain ⟨_, _, _, _, _, rfl, _⟩ := h; rfl) (fun cdv A outer s H vs Q E hr h => ?_)
  have hu := hu_of hr
  obtain ⟨S, F_, p, x, m, rfl, Y, m0, m1, hn, k⟩ := h
  obtain ⟨⟨a, T0, D0, ma_, sa_, rfl, C⟩, N⟩ := Y
  refine ⟨_, (pss_cons (ps_set (i := 3) scMgo.nd rfl (.inl rfl) (pe_lst pa_nil))
    (pss_cons (ps_set (i := 4) scMgo.nd rfl (.inl rfl) (pe_meth (pv 0) M_lg.c M_lg.m M_lg.G (hr.mono (by decide)) M_lg.b .nil pass0 (pa_cons (pv 1) (pa_cons (pe_call F_pbt.G (hr.mono (by decide)) (by rfl) F_pbt.g F_pbt.kp F_pbt.b .nil pass0 (pa_cons (pv 2) pa_nil)) (pa_cons (pv 3) (pa_cons pe_non pa_nil))))))
    (pss_one (ps_ret (pe_tup (pa_cons (pv 4) (pa_cons (pv 3) pa_nil))))))), ?_⟩
  refine ⟨Nat.zero_le _, fun wl nwl => ?_⟩
  have s1 := same_upd' (o := .lst []) nwl
  have h1 : upd H wl (.lst []) wl = some (.lst []) := upd_same
  have C1 := C.same s1
  have off : ∀ {b : Addr}, H b = none → ¬ FtP p a b := fun e z => by
    obtain ⟨o, e2, _⟩ := C.solid _ z
    rw [e] at e2; cases e2
  generalize upd H wl (.lst []) = H1 at *
  refine ⟨_, rfl, p, a.dx, _, rfl, C1.hp, pN_let_go, _, rfl, _, rfl, rfl, fun H2 pk s2 npk hpk => ?_⟩
  have C2 := C1.same s2
  refine ⟨_, rfl, S, p, a, (x.mas ma_ sa_).tvd T0 D0, .no, .non, m, pk, .ref wl, rfl, C2, PrN.tvd (N.mas _ _) _ _, m0, m1, hn, rfl, .inr rfl, (fun b h => h.elim), hpk, (fun z => by
    rcases z with z | z
    · exact off (s1.free npk) z
    · exact z), fun H3 a3 T3 D3 v F3 C3 _ _ rz => ?_⟩
  obtain ⟨T4, D4, e4⟩ := goP_tvd m .no (x.mas ma_ sa_) T0 D0
  rw [e4, goP_mas] at C3 rz
  have hw3 := F3.keep _ _ (fun z => by
    rcases z with z | z
    · exact off nwl z
    · exact z) (s2 _ _ h1)
  refine ⟨_, rfl, _, rfl, (by show 2 ≤ sizeLine; decide), fun q nq => ?_⟩
  have s5 := same_upd' (o := .tup [v, V.ref wl]) nq
  have F4 := Fr.drop (s1.trans s2) (e := .no) (fun b h => h.elim) F3
  refine k _ (FtP p a3) q v wl nwl (F4.trans (Fr.of_same s5)) ⟨⟨a3, T3, D3, ma_, sa_, rfl, C3.same s5⟩, (goP_N N m .no).1⟩ upd_same (s5 _ _ hw3) ?_
  exact rz.mono fun t xs e => s5 _ _ e
abbrev sFsov : Stmt := topS 12
def scFsovN : List Str := ["probe", "most"]
theorem scFsov : FnScope scFsovN ["probe", "most"] (defScope sFsov) := ⟨rfl, rfl, rfl, by decide +kernel, rfl, by decide +kernel, by decide +kernel⟩
theorem ok_Fsov {f : Addr} {fd : FuncData} {fC_ove : Addr} {dC_ove : FuncData} {fM_lg : Addr} {dM_lg : FuncData} (F : Fun K "step_over" "step_over" sFsov f fd) (T : Ty K mg CB CM CP CK CW CF CH CC CI CS)
    (C_ove : CalC P w K mg base CO 1 "OverEnd" ["self", "depth"] (spOvI CO) fC_ove dC_ove)
    (M_lg : CalM P w K mg base CP 10 "let_go" ["self", "most", "peeks", "words", "end"] (spLG CB CM CP CK CW CF CH CC CI CO CQ 1) fM_lg dM_lg) : FnOk P w K mg base CX0 11 f fd ["probe", "most"] (spOver CB CM CP CK CW CF CH CC CI) := by
  refine F.ok scFsov (fun vs H Q E h => by obtain ⟨_, _, _, _, _, rfl, _⟩ := h; rfl) (fun cdv A outer s H vs Q E hr h => ?_)
  have hu := hu_of hr
  have z_len := T.z_len
  obtain ⟨S, F_, p, x, m, rfl, Y, m0, m1, hn, k⟩ := h
  obtain ⟨⟨a, T0, D0, ma_, sa_, rfl, C⟩, N⟩ := Y
  refine ⟨_, (pss_one (ps_ret (pe_meth (pv 0) M_lg.c M_lg.m M_lg.G (hr.mono (by decide)) M_lg.b .nil pass0 (pa_cons (pv 1) (pa_cons pe_dnewK (pa_cons (pe_lst pa_nil) (pa_cons (pe_make C_ove.M C_ove.I (hr.mono (by decide)) rfl C_ove.g C_ove.b .nil pass0 (pa_cons (pe_callB call_len_seq (by rfl) z_len PySem.boot_len (pa_cons (pe_fld (pe_fld (pv 0) rfl) rfl) pa_nil)) pa_nil)) pa_nil))))))), ?_⟩
  have off : ∀ {b : Addr}, H b = none → ¬ FtP p a b := fun e z => by
    obtain ⟨o, e2, _⟩ := C.solid _ z
    rw [e] at e2; cases e2
  have el := C.rows.len
  refine ⟨_, rfl, p, a.dx, _, rfl, C.hp, pN_let_go, _, rfl, fun pk npk => ?_⟩
  have s0 : Same H H := fun _ _ e => e
  have o1 := off npk
  have s1 := same_upd' (o := .dK []) npk
  have h1 : upd H pk (.dK []) pk = some (.dK []) := upd_same
  have n1 : ∀ b, upd H pk (.dK []) b = none → H b = none := fun b e => s1.free e
  have C1 := C.same (s0.trans s1)
  generalize upd H pk (.dK []) = H1 at *
  refine ⟨Nat.zero_le _, fun wl nwl => ?_⟩
  have s2 := same_upd' (o := .lst []) nwl
  have h2 := s2 _ _ h1
  have C2 := C1.same s2
  generalize upd H1 wl (.lst []) = H2 at *
  refine ⟨_, rfl, p, CP, a.dx, _, _, rfl, C2.hp, T.cP, T.nP_frames, pF_frames, a.fr, CF, a.df, _, _, rfl, C2.hfr, T.cF, T.nF_rows, fF_rows, a.fl, _, rfl, .inl (SqL.of C2.hfl), ?_⟩
  rw [el]
  intro q dq nq ndq hne
  have s3 : Same H2 (upd (upd H2 dq (.own q)) q (.ins CO dq [])) := fun z o ez => by
    rw [upd_ne (ne_of_none ez nq), upd_ne (ne_of_none ez ndq)]
    exact ez
  refine ⟨q, dq, (x.rows.length : Int), rfl, upd_same, fun H4 kp4 hq4 => ⟨rfl, ?_⟩⟩
  have s4 : Same H2 H4 := fun z o ez => kp4 z o (ne_of_none ez nq) (s3 z o ez)
  have C4 := C2.same s4
  have nqH : H q = none := s0.free (s1.free (s2.free nq))
  have en : (En.over 0 0 x.rows.length false).at_ q dq = En.over q dq x.rows.length false := rfl
  refine ⟨S, p, a, (x.mas ma_ sa_).tvd T0 D0, En.over q dq x.rows.length false, .ref q, m, pk, .ref wl, rfl, C4, PrN.tvd (N.mas _ _) _ _, m0, m1, hn, ⟨rfl, hq4⟩, .inl rfl, (fun b (h : b = q) => by rw [h]; exact ⟨C.sm.free nqH, off nqH⟩), s4 _ _ h2, (fun z => by
    rcases z with z | z
    · exact off (s0.free npk) z
    · have z : pk = q := z
      rw [z, nq] at h2; cases h2), fun H5 a5 T5 D5 v F5 C5 _ _ rz => ?_⟩
  obtain ⟨T6, D6, e6⟩ := goP_tvd m (En.over q dq x.rows.length false) (x.mas ma_ sa_) T0 D0
  rw [e6, goP_mas, ← en, goP_at] at C5 rz
  have F6 := Fr.drop (((s0.trans s1).trans s2).trans s4) (e := En.over q dq x.rows.length false) (fun b (h : b = q) => by rw [h]; exact nqH) F5
  exact k _ (FtP p a5) v F6 ⟨⟨a5, _, _, ma_, sa_, rfl, C5⟩, (goP_N N m _).1⟩ rz
abbrev sFfrs : Stmt := topS 13
def scFfrsN : List Str := ["probe"]
theorem scFfrs : FnScope scFfrsN ["probe"] (defScope sFfrs) := ⟨rfl, rfl, rfl, by decide +kernel, rfl, by decide +kernel, by decide +kernel⟩
theorem ok_Ffrs {f : Addr} {fd : FuncData} (F : Fun K "frames_of" "frames_of" sFfrs f fd) (T : Ty K mg CB CM CP CK CW CF CH CC CI CS) : FnOk P w K mg base CX0 1 f fd ["probe"] (spFrs CB CM CP CK CW CF CH CC CI) := by
  refine F.ok scFfrs (fun vs H Q E h => by obtain ⟨_, _, _, _, rfl, _⟩ := h; rfl) (fun cdv A outer s H vs Q E hr h => ?_)
  have hu := hu_of hr
  have z_list := T.z_list
  obtain ⟨S, F_, p, x, rfl, Y, k⟩ := h
  obtain ⟨⟨a, T0, D0, ma_, sa_, rfl, C⟩, N⟩ := Y
  refine ⟨_, (pss_one (ps_ret (pe_callTy call_list_of (by rfl) z_list (by decide +kernel) (pa_cons (pe_fld (pe_fld (pv 0) rfl) rfl) pa_nil)))), ?_⟩
  exact ⟨_, rfl, p, CP, a.dx, _, _, rfl, C.hp, T.cP, T.nP_frames, pF_frames, a.fr, CF, a.df, _, _, rfl, C.hfr, T.cF, T.nF_rows, fF_rows, a.fl, _, rfl, .inl (SqL.of C.hfl), fun l nl => k _ l a.us (same_upd' nl) nl upd_same (C.rows.mono fun t xs e => same_upd' nl _ _ e)⟩
abbrev sFstr : Stmt := topS 14
def scFstrN : List Str := ["probe"]
theorem scFstr : FnScope scFstrN ["probe"] (defScope sFstr) := ⟨rfl, rfl, rfl, by decide +kernel, rfl, by decide +kernel, by decide +kernel⟩
theorem ok_Fstr {f : Addr} {fd : FuncData} (F : Fun K "strays_of" "strays_of" sFstr f fd) (T : Ty K mg CB CM CP CK CW CF CH CC CI CS) : FnOk P w K mg base CX0 1 f fd ["probe"] (spStr CB CM CP CK CW CF CH CC CI) := by
  refine F.ok scFstr (fun vs H Q E h => by obtain ⟨_, _, _, _, rfl, _⟩ := h; rfl) (fun cdv A outer s H vs Q E hr h => ?_)
  have hu := hu_of hr
  obtain ⟨S, F_, p, x, rfl, Y, k⟩ := h
  obtain ⟨⟨a, T0, D0, ma_, sa_, rfl, C⟩, N⟩ := Y
  refine ⟨_, (pss_one (ps_ret (pe_fld (pe_fld (pv 0) rfl) rfl))), ?_⟩
  exact ⟨_, rfl, p, CP, a.dx, _, _, rfl, C.hp, T.cP, T.nP_frames, pF_frames, a.fr, CF, a.df, _, _, rfl, C.hfr, T.cF, T.nF_strays, fF_strays, k⟩
end
end Bh

/-! A probe is made. -/
namespace Bh
open PySem PySem.Spec PyProof.Rows L2
def newP (ns : List Int) (ls : List (Int × Int)) : Pm := { b := newBd ns ls, rows := [], strays := 0, hist := [], faded := 0, deeds := [], spent := [], idle := 0, peeked := 0, gone := 0, n := 0 }
theorem rise_ge : ∀ {n : Int} {ls : List (Int × Int)}, riseM n ls → ∀ u ∈ ls, 0 ≤ u.2
  | _, [], _, _, h => by cases h
  | _, r :: rs, ⟨_, h1, _, h3⟩, u, h => by
    rcases List.mem_cons.mp h with rfl | h
    · exact h1
    · exact rise_ge h3 u h
theorem newP_N {ns : List Int} {ls : List (Int × Int)} (hw : WordsOk ns) (hr : riseM 0 ls) : PrN (newP ns ls) := ⟨Nat.zero_le _, Nat.zero_le _, Nat.zero_le _, Nat.zero_le _, Nat.zero_le _, ⟨Int.le_refl 0, Int.le_refl 0, Int.le_refl 0, mge_of (fun v h => by
  have h : v ∈ memOf ns := h
  unfold memOf at h
  simp only [List.mem_append, List.mem_replicate] at h
  rcases h with (h | h) | h
  · exact (hw v h).1
  · rw [h.2]; decide
  · rw [h.2]; decide), rise_ge hr⟩⟩
theorem fresh1 {Hb : Hp} {p v : Addr} {X : HO} (n : upd Hb p X v = none) : v ≠ p ∧ Hb v = none := by
  have h : v ≠ p := fun z => by rw [z, upd_same] at n; cases n
  rw [upd_ne h] at n
  exact ⟨h, n⟩
theorem fresh3 {Hb : Hp} {p d v l : Addr} {X o1 o2 : HO} (n : upd (upd (upd Hb p X) d o1) v o2 l = none) : l ≠ v ∧ l ≠ p ∧ Hb l = none := by
  obtain ⟨h1, n⟩ := fresh1 n
  obtain ⟨_, n⟩ := fresh1 n
  obtain ⟨h3, n⟩ := fresh1 n
  exact ⟨h1, h3, n⟩
theorem made_same {H H' : Hp} {q d C : Addr} (nq : H q = none) (nd : H d = none) (k : ∀ b o, b ≠ q → upd (upd H d (.own q)) q (.ins C d []) b = some o → H' b = some o) : Same H H' := fun b o e => by
  have n1 := ne_of_none e nq
  refine k b o n1 ?_
  rw [upd_ne n1, upd_ne (ne_of_none e nd)]
  exact e
theorem tup_off {Hb : Hp} {p CP d : Addr} {fs : List (Str × V)} : ∀ t xs, upd Hb p (.ins CP d fs) t = some (.tup xs) → Hb t = some (.tup xs) := fun t xs e => by
  have h : t ≠ p := fun z => by rw [z, upd_same] at e; cases e
  rwa [upd_ne h] at e
def spPrI (CB CM CP CK CW CF CH CC CI : Addr) : Sp := fun vs H Q _ => ∃ (p dx im ln : Addr) (us : List V) (ns : List Int) (ls : List (Int × Int)), vs = [.ref p, .ref im, .ref ln] ∧ H p = some (.ins CP dx []) ∧ H im = some (.lst (ns.map V.int)) ∧ ns.length ≤ 512 ∧ WordsOk ns ∧
  H ln = some (.lst us) ∧ TupsAt H us ls ∧ riseM 0 ls ∧ ∀ (H' : Hp) (F : Addr → Prop) (St : List Addr), (∀ b o, b ≠ p → H b = some o → H' b = some o) → (∀ b, F b → b = p ∨ H b = none) → (∀ b, b ∈ St → H b = none ∧ ¬ F b) →
    (∀ S, Same S H' → (∀ b, F b → S b = none) → (∀ b, b ∈ St → S b = H' b) → PrA CB CM CP CK CW CF CH CC CI S H' F p (newP ns ls)) → Q .non H'
section
variable {P : Program} {w : World} {K : PySem.W.Frag} {mg : Str → Option Value} {base : Heap} {CB CM CP CK CW CF CH CC CI CS CO CQ : Addr}
abbrev sCprb : Stmt := inClass (topS 99) 0
def scCprbN : List Str := ["self", "image", "line"]
theorem scCprb : FnScope scCprbN ["self", "image", "line"] (defScope sCprb) := ⟨rfl, rfl, rfl, by decide +kernel, rfl, by decide +kernel, by decide +kernel⟩
theorem ok_Cprb {f : Addr} {fd : FuncData} {fC_board : Addr} {dC_board : FuncData} {fC_cou : Addr} {dC_cou : FuncData} {fC_fra : Addr} {dC_fra : FuncData} {fC_his : Addr} {dC_his : FuncData} {fC_mar : Addr} {dC_mar : FuncData} {fC_mis : Addr} {dC_mis : FuncData} {fC_sta : Addr} {dC_sta : FuncData} {fC_wat : Addr} {dC_wat : FuncData} (F : Fun K "__init__" "Probe.__init__" sCprb f fd) (T : Ty K mg CB CM CP CK CW CF CH CC CI CS)
    (C_board : CalC P w K mg base CB 6 "Board" ["self", "image", "line"] (spBI CB CM) fC_board dC_board)
    (C_cou : CalC P w K mg base CC 1 "Counts" ["self"] (spMkC CC) fC_cou dC_cou)
    (C_fra : CalC P w K mg base CF 1 "Frames" ["self"] (spMkF CF) fC_fra dC_fra)
    (C_his : CalC P w K mg base CH 1 "History" ["self"] (spMkH CH) fC_his dC_his)
    (C_mar : CalC P w K mg base CK 1 "Marks" ["self", "memory"] (spMkK CK) fC_mar dC_mar)
    (C_mis : CalC P w K mg base CI 1 "Mishaps" ["self"] (spMkI CI) fC_mis dC_mis)
    (C_sta : CalC P w K mg base CS 1 "Stands" ["self"] (spMade CS) fC_sta dC_sta)
    (C_wat : CalC P w K mg base CW 1 "Watches" ["self"] (spMkW CW) fC_wat dC_wat) : FnOk P w K mg base CX0 8 f fd ["self", "image", "line"] (spPrI CB CM CP CK CW CF CH CC CI) := by
  refine F.ok scCprb (fun vs H Q E h => by obtain ⟨_, _, _, _, _, _, _, rfl, _⟩ := h; rfl) (fun cdv A outer s H vs Q E hr h => ?_)
  have hu := hu_of hr
  obtain ⟨p, dx, im, ln, us, ns, ls, rfl, hp, him, hl, hw, hln, htu, hri, k⟩ := h
  refine ⟨_, (pss_cons (ps_fld (pv 0) (pe_make C_board.M C_board.I (hr.mono (by decide)) rfl C_board.g C_board.b .nil pass0 (pa_cons (pv 1) (pa_cons (pv 2) pa_nil))) rfl)
    (pss_cons (ps_fld (pv 0) (pe_make C_mar.M C_mar.I (hr.mono (by decide)) rfl C_mar.g C_mar.b .nil pass0 (pa_cons (pe_fld (pe_fld (pv 0) rfl) rfl) pa_nil)) rfl)
    (pss_cons (ps_fld (pv 0) (pe_make0 C_wat.M C_wat.I (hr.mono (by decide)) rfl C_wat.g C_wat.b .nil pass0) rfl)
    (pss_cons (ps_fld (pv 0) (pe_make0 C_fra.M C_fra.I (hr.mono (by decide)) rfl C_fra.g C_fra.b .nil pass0) rfl)
    (pss_cons (ps_fld (pv 0) (pe_make0 C_his.M C_his.I (hr.mono (by decide)) rfl C_his.g C_his.b .nil pass0) rfl)
    (pss_cons (ps_fld (pv 0) (pe_make0 C_cou.M C_cou.I (hr.mono (by decide)) rfl C_cou.g C_cou.b .nil pass0) rfl)
    (pss_cons (ps_fld (pv 0) (pe_make0 C_mis.M C_mis.I (hr.mono (by decide)) rfl C_mis.g C_mis.b .nil pass0) rfl)
    (pss_cons (ps_fld (pv 0) (pe_make0 C_sta.M C_sta.I (hr.mono (by decide)) rfl C_sta.g C_sta.b .nil pass0) rfl)
    (pss_cons (ps_fld (pv 0) pe_int rfl)
    (pss_one (ps_fld (pv 0) pe_non rfl))))))))))), ?_⟩
  obtain ⟨Hb0, eH, fb0⟩ : ∃ Hb0, H = upd Hb0 p (.ins CP dx []) ∧ Hb0 p = none := by
    refine ⟨fun b => if b = p then none else H b, ?_, if_pos rfl⟩
    funext b
    by_cases h : b = p
    · subst h
      rw [upd_same]
      exact hp
    · rw [upd_ne h]
      exact (if_neg h).symm
  subst eH
  refine ⟨_, rfl, _, rfl, ?_⟩
  intro b dxb nb ndx hdx
  have sq : Same (upd Hb0 p (.ins CP dx [])) (upd (upd (upd Hb0 p (.ins CP dx [])) dxb (.own b)) b (.ins CB dxb [])) := fun z o ez => by
    rw [upd_ne (ne_of_none ez nb), upd_ne (ne_of_none ez ndx)]
    exact ez
  refine ⟨upd Hb0 p (.ins CP dx []), b, dxb, im, ln, us, ns, ls, rfl, sq, nb, upd_same, sq _ _ him, hl, hw, sq _ _ hln, htu.mono (fun t xs e => sq _ _ e), hri, fun H1 T_ ma_ sa_ R => ⟨rfl, ?_⟩⟩
  obtain ⟨A, ts, lsv, B⟩ := R
  have ft := B.foot
  have B0 := B.weak
  obtain ⟨Hb1, rfl, sb1, fb1⟩ := pull B.sm fb0
  have off : ∀ q, FtB b A q → q ≠ p := fun q h => (fresh1 (ft q h)).1
  have ftn : ∀ q, FtB b A q → Hb0 q = none := fun q h => (fresh1 (ft q h)).2
  have hfb1 : ∀ q, FtB b A q → ∃ o, Hb1 q = some o := fun q h => by
    obtain ⟨o, e, _⟩ := B0.solid q h
    exact ⟨o, by rwa [upd_ne (off q h)] at e⟩
  have C1 : BdOn CB CM Hb1 b A ts lsv { newBd ns ls with tv := T_, ma := ma_, sa := sa_ } := B0.keep (fun q o h e => by rwa [upd_ne (off q h)] at e) tup_off
  clear B B0 sq
  refine ⟨_, rfl, p, CP, dx, _, rfl, upd_same, T.cP, T.nP_board, (by show 0 < 1000; decide), ?_⟩
  rw [upd_upd]
  obtain ⟨svb, tvb, dvb, hpb, hzb⟩ := C1.hp
  have nbp : b ≠ p := off b (.inl rfl)
  refine ⟨_, rfl, p, CP, dx, _, _, rfl, upd_same, T.cP, T.nP_board, (by kernel_rfl), b, CB, A.dx, _, _, rfl, (by rw [upd_ne nbp]; exact hpb), T.cB, T.n_memory, bF_mem, ?_⟩
  clear hpb hzb
  have hfb_1 := hfb1
  intro st dst n1 n2 n3
  refine ⟨st, dst, A.m, rfl, upd_same, fun H2 hd er kp nhd ner hhd her hst => ⟨rfl, ?_⟩⟩
  have s2 : Same (upd Hb1 p (.ins CP dx (putF "board" (.ref b) ([])))) H2 := made_same n1 n2 kp
  obtain ⟨pst, fst⟩ := fresh1 n1
  obtain ⟨vhd, phd, fhd⟩ := fresh3 nhd
  obtain ⟨ver, per, fer⟩ := fresh3 ner
  obtain ⟨Hb2, rfl, sb2, fb2⟩ := pull s2 fb1
  rw [upd_ne pst] at hst
  rw [upd_ne phd] at hhd
  rw [upd_ne per] at her
  have C1 := C1.keep (fun q o h e => sb2 q o e) (fun q xs e => sb2 q _ e)
  have hfb1 : ∀ q, FtB b A q → ∃ o, Hb2 q = some o := fun q h => by
    obtain ⟨o, e⟩ := hfb1 q h
    exact ⟨o, sb2 _ _ e⟩
  have ost : ¬ FtB b A st := fun h => by
    obtain ⟨o, e⟩ := hfb_1 _ h
    exact ne_of_none e fst rfl
  have ohd : ¬ FtB b A hd := fun h => by
    obtain ⟨o, e⟩ := hfb_1 _ h
    exact ne_of_none e fhd rfl
  have oer : ¬ FtB b A er := fun h => by
    obtain ⟨o, e⟩ := hfb_1 _ h
    exact ne_of_none e fer rfl
  have zst : Hb0 st = none := sb1.free fst
  have zhd : Hb0 hd = none := sb1.free fhd
  have zer : Hb0 er = none := sb1.free fer
  clear kp s2 n1 n2 n3
  refine ⟨_, rfl, p, CP, dx, _, rfl, upd_same, T.cP, T.nP_standing, (by show 1 < 1000; decide), ?_⟩
  rw [upd_upd]
  have hfb_2 := hfb1
  intro wa dwa n1 n2 n3
  refine ⟨wa, dwa, rfl, upd_same, fun H3 wr kp nwr hwr hwa => ⟨rfl, ?_⟩⟩
  have s3 : Same (upd Hb2 p (.ins CP dx (putF "standing" (.ref st) (putF "board" (.ref b) ([]))))) H3 := made_same n1 n2 kp
  obtain ⟨pwa, fwa⟩ := fresh1 n1
  obtain ⟨vwr, pwr, fwr⟩ := fresh3 nwr
  obtain ⟨Hb3, rfl, sb3, fb3⟩ := pull s3 fb2
  rw [upd_ne pwa] at hwa
  rw [upd_ne pwr] at hwr
  have C1 := C1.keep (fun q o h e => sb3 q o e) (fun q xs e => sb3 q _ e)
  have hst := sb3 _ _ hst
  have hhd := sb3 _ _ hhd
  have her := sb3 _ _ her
  have hfb1 : ∀ q, FtB b A q → ∃ o, Hb3 q = some o := fun q h => by
    obtain ⟨o, e⟩ := hfb1 q h
    exact ⟨o, sb3 _ _ e⟩
  have owa : ¬ FtB b A wa := fun h => by
    obtain ⟨o, e⟩ := hfb_2 _ h
    exact ne_of_none e fwa rfl
  have owr : ¬ FtB b A wr := fun h => by
    obtain ⟨o, e⟩ := hfb_2 _ h
    exact ne_of_none e fwr rfl
  have zwa : Hb0 wa = none := (sb1.trans sb2).free fwa
  have zwr : Hb0 wr = none := (sb1.trans sb2).free fwr
  clear kp s3 n1 n2 n3
  refine ⟨_, rfl, p, CP, dx, _, rfl, upd_same, T.cP, T.nP_watching, (by show 2 < 1000; decide), ?_⟩
  rw [upd_upd]
  have hfb_3 := hfb1
  intro fr dfr n1 n2 n3
  refine ⟨fr, dfr, rfl, upd_same, fun H4 fl kp nfl hfl hfr => ⟨rfl, ?_⟩⟩
  have s4 : Same (upd Hb3 p (.ins CP dx (putF "watching" (.ref wa) (putF "standing" (.ref st) (putF "board" (.ref b) ([])))))) H4 := made_same n1 n2 kp
  obtain ⟨pfr, ffr⟩ := fresh1 n1
  obtain ⟨vfl, pfl, ffl⟩ := fresh3 nfl
  have e_hd_fl : hd ≠ fl := ne_of_none hhd ffl
  have e_hd_fr : hd ≠ fr := ne_of_none hhd ffr
  have e_st_fl : st ≠ fl := ne_of_none hst ffl
  have e_st_fr : st ≠ fr := ne_of_none hst ffr
  have e_wa_fl : wa ≠ fl := ne_of_none hwa ffl
  have e_wa_fr : wa ≠ fr := ne_of_none hwa ffr
  have e_wr_fl : wr ≠ fl := ne_of_none hwr ffl
  have e_wr_fr : wr ≠ fr := ne_of_none hwr ffr
  obtain ⟨Hb4, rfl, sb4, fb4⟩ := pull s4 fb3
  rw [upd_ne pfr] at hfr
  rw [upd_ne pfl] at hfl
  have C1 := C1.keep (fun q o h e => sb4 q o e) (fun q xs e => sb4 q _ e)
  have hst := sb4 _ _ hst
  have hhd := sb4 _ _ hhd
  have her := sb4 _ _ her
  have hwa := sb4 _ _ hwa
  have hwr := sb4 _ _ hwr
  have hfb1 : ∀ q, FtB b A q → ∃ o, Hb4 q = some o := fun q h => by
    obtain ⟨o, e⟩ := hfb1 q h
    exact ⟨o, sb4 _ _ e⟩
  have ofr : ¬ FtB b A fr := fun h => by
    obtain ⟨o, e⟩ := hfb_3 _ h
    exact ne_of_none e ffr rfl
  have ofl : ¬ FtB b A fl := fun h => by
    obtain ⟨o, e⟩ := hfb_3 _ h
    exact ne_of_none e ffl rfl
  have zfr : Hb0 fr = none := ((sb1.trans sb2).trans sb3).free ffr
  have zfl : Hb0 fl = none := ((sb1.trans sb2).trans sb3).free ffl
  clear kp s4 n1 n2 n3
  refine ⟨_, rfl, p, CP, dx, _, rfl, upd_same, T.cP, T.nP_frames, (by show 3 < 1000; decide), ?_⟩
  rw [upd_upd]
  have hfb_4 := hfb1
  intro hi dhi n1 n2 n3
  refine ⟨hi, dhi, rfl, upd_same, fun H5 hl_ kp nhl_ hhl_ hhi => ⟨rfl, ?_⟩⟩
  have s5 : Same (upd Hb4 p (.ins CP dx (putF "frames" (.ref fr) (putF "watching" (.ref wa) (putF "standing" (.ref st) (putF "board" (.ref b) ([]))))))) H5 := made_same n1 n2 kp
  obtain ⟨phi, fhi⟩ := fresh1 n1
  obtain ⟨vhl_, phl_, fhl_⟩ := fresh3 nhl_
  have e_fl_hi : fl ≠ hi := ne_of_none hfl fhi
  have e_fl_hl_ : fl ≠ hl_ := ne_of_none hfl fhl_
  have e_fr_hi : fr ≠ hi := ne_of_none hfr fhi
  have e_fr_hl_ : fr ≠ hl_ := ne_of_none hfr fhl_
  have e_hd_hi : hd ≠ hi := ne_of_none hhd fhi
  have e_hd_hl_ : hd ≠ hl_ := ne_of_none hhd fhl_
  have e_st_hi : st ≠ hi := ne_of_none hst fhi
  have e_st_hl_ : st ≠ hl_ := ne_of_none hst fhl_
  have e_wa_hi : wa ≠ hi := ne_of_none hwa fhi
  have e_wa_hl_ : wa ≠ hl_ := ne_of_none hwa fhl_
  have e_wr_hi : wr ≠ hi := ne_of_none hwr fhi
  have e_wr_hl_ : wr ≠ hl_ := ne_of_none hwr fhl_
  obtain ⟨Hb5, rfl, sb5, fb5⟩ := pull s5 fb4
  rw [upd_ne phi] at hhi
  rw [upd_ne phl_] at hhl_
  have C1 := C1.keep (fun q o h e => sb5 q o e) (fun q xs e => sb5 q _ e)
  have hst := sb5 _ _ hst
  have hhd := sb5 _ _ hhd
  have her := sb5 _ _ her
  have hwa := sb5 _ _ hwa
  have hwr := sb5 _ _ hwr
  have hfr := sb5 _ _ hfr
  have hfl := sb5 _ _ hfl
  have hfb1 : ∀ q, FtB b A q → ∃ o, Hb5 q = some o := fun q h => by
    obtain ⟨o, e⟩ := hfb1 q h
    exact ⟨o, sb5 _ _ e⟩
  have ohi : ¬ FtB b A hi := fun h => by
    obtain ⟨o, e⟩ := hfb_4 _ h
    exact ne_of_none e fhi rfl
  have ohl_ : ¬ FtB b A hl_ := fun h => by
    obtain ⟨o, e⟩ := hfb_4 _ h
    exact ne_of_none e fhl_ rfl
  have zhi : Hb0 hi = none := (((sb1.trans sb2).trans sb3).trans sb4).free fhi
  have zhl_ : Hb0 hl_ = none := (((sb1.trans sb2).trans sb3).trans sb4).free fhl_
  clear kp s5 n1 n2 n3
  refine ⟨_, rfl, p, CP, dx, _, rfl, upd_same, T.cP, T.nP_history, (by show 4 < 1000; decide), ?_⟩
  rw [upd_upd]
  have hfb_5 := hfb1
  intro co dco n1 n2 n3
  refine ⟨co, dco, rfl, upd_same, fun H6 cd cf kp ncd ncf ncdf hcd hcf hco => ⟨rfl, ?_⟩⟩
  have s6 : Same (upd Hb5 p (.ins CP dx (putF "history" (.ref hi) (putF "frames" (.ref fr) (putF "watching" (.ref wa) (putF "standing" (.ref st) (putF "board" (.ref b) ([])))))))) H6 := made_same n1 n2 kp
  obtain ⟨pco, fco⟩ := fresh1 n1
  obtain ⟨vcd, pcd, fcd⟩ := fresh3 ncd
  obtain ⟨vcf, pcf, fcf⟩ := fresh3 ncf
  have e_fl_cd : fl ≠ cd := ne_of_none hfl fcd
  have e_fl_cf : fl ≠ cf := ne_of_none hfl fcf
  have e_fl_co : fl ≠ co := ne_of_none hfl fco
  have e_fr_cd : fr ≠ cd := ne_of_none hfr fcd
  have e_fr_cf : fr ≠ cf := ne_of_none hfr fcf
  have e_fr_co : fr ≠ co := ne_of_none hfr fco
  have e_hd_cd : hd ≠ cd := ne_of_none hhd fcd
  have e_hd_cf : hd ≠ cf := ne_of_none hhd fcf
  have e_hd_co : hd ≠ co := ne_of_none hhd fco
  have e_hi_cd : hi ≠ cd := ne_of_none hhi fcd
  have e_hi_cf : hi ≠ cf := ne_of_none hhi fcf
  have e_hi_co : hi ≠ co := ne_of_none hhi fco
  have e_hl__cd : hl_ ≠ cd := ne_of_none hhl_ fcd
  have e_hl__cf : hl_ ≠ cf := ne_of_none hhl_ fcf
  have e_hl__co : hl_ ≠ co := ne_of_none hhl_ fco
  have e_st_cd : st ≠ cd := ne_of_none hst fcd
  have e_st_cf : st ≠ cf := ne_of_none hst fcf
  have e_st_co : st ≠ co := ne_of_none hst fco
  have e_wa_cd : wa ≠ cd := ne_of_none hwa fcd
  have e_wa_cf : wa ≠ cf := ne_of_none hwa fcf
  have e_wa_co : wa ≠ co := ne_of_none hwa fco
  have e_wr_cd : wr ≠ cd := ne_of_none hwr fcd
  have e_wr_cf : wr ≠ cf := ne_of_none hwr fcf
  have e_wr_co : wr ≠ co := ne_of_none hwr fco
  obtain ⟨Hb6, rfl, sb6, fb6⟩ := pull s6 fb5
  rw [upd_ne pco] at hco
  rw [upd_ne pcd] at hcd
  rw [upd_ne pcf] at hcf
  have C1 := C1.keep (fun q o h e => sb6 q o e) (fun q xs e => sb6 q _ e)
  have hst := sb6 _ _ hst
  have hhd := sb6 _ _ hhd
  have her := sb6 _ _ her
  have hwa := sb6 _ _ hwa
  have hwr := sb6 _ _ hwr
  have hfr := sb6 _ _ hfr
  have hfl := sb6 _ _ hfl
  have hhi := sb6 _ _ hhi
  have hhl_ := sb6 _ _ hhl_
  have hfb1 : ∀ q, FtB b A q → ∃ o, Hb6 q = some o := fun q h => by
    obtain ⟨o, e⟩ := hfb1 q h
    exact ⟨o, sb6 _ _ e⟩
  have oco : ¬ FtB b A co := fun h => by
    obtain ⟨o, e⟩ := hfb_5 _ h
    exact ne_of_none e fco rfl
  have ocd : ¬ FtB b A cd := fun h => by
    obtain ⟨o, e⟩ := hfb_5 _ h
    exact ne_of_none e fcd rfl
  have ocf : ¬ FtB b A cf := fun h => by
    obtain ⟨o, e⟩ := hfb_5 _ h
    exact ne_of_none e fcf rfl
  have zco : Hb0 co = none := ((((sb1.trans sb2).trans sb3).trans sb4).trans sb5).free fco
  have zcd : Hb0 cd = none := ((((sb1.trans sb2).trans sb3).trans sb4).trans sb5).free fcd
  have zcf : Hb0 cf = none := ((((sb1.trans sb2).trans sb3).trans sb4).trans sb5).free fcf
  clear kp s6 n1 n2 n3
  refine ⟨_, rfl, p, CP, dx, _, rfl, upd_same, T.cP, T.nP_counts, (by show 5 < 1000; decide), ?_⟩
  rw [upd_upd]
  have hfb_6 := hfb1
  intro mi dmi n1 n2 n3
  refine ⟨mi, dmi, rfl, upd_same, fun H7 ml mr kp nml nmr hml hmr hmi => ⟨rfl, ?_⟩⟩
  have s7 : Same (upd Hb6 p (.ins CP dx (putF "counts" (.ref co) (putF "history" (.ref hi) (putF "frames" (.ref fr) (putF "watching" (.ref wa) (putF "standing" (.ref st) (putF "board" (.ref b) ([]))))))))) H7 := made_same n1 n2 kp
  obtain ⟨pmi, fmi⟩ := fresh1 n1
  obtain ⟨vml, pml, fml⟩ := fresh3 nml
  obtain ⟨vmr, pmr, fmr⟩ := fresh3 nmr
  have e_cd_mi : cd ≠ mi := ne_of_none hcd fmi
  have e_cd_ml : cd ≠ ml := ne_of_none hcd fml
  have e_cf_mi : cf ≠ mi := ne_of_none hcf fmi
  have e_cf_ml : cf ≠ ml := ne_of_none hcf fml
  have e_co_mi : co ≠ mi := ne_of_none hco fmi
  have e_co_ml : co ≠ ml := ne_of_none hco fml
  have e_fl_mi : fl ≠ mi := ne_of_none hfl fmi
  have e_fl_ml : fl ≠ ml := ne_of_none hfl fml
  have e_fr_mi : fr ≠ mi := ne_of_none hfr fmi
  have e_fr_ml : fr ≠ ml := ne_of_none hfr fml
  have e_hi_mi : hi ≠ mi := ne_of_none hhi fmi
  have e_hi_ml : hi ≠ ml := ne_of_none hhi fml
  have e_hl__mi : hl_ ≠ mi := ne_of_none hhl_ fmi
  have e_hl__ml : hl_ ≠ ml := ne_of_none hhl_ fml
  obtain ⟨Hb7, rfl, sb7, fb7⟩ := pull s7 fb6
  rw [upd_ne pmi] at hmi
  rw [upd_ne pml] at hml
  rw [upd_ne pmr] at hmr
  have C1 := C1.keep (fun q o h e => sb7 q o e) (fun q xs e => sb7 q _ e)
  have hst := sb7 _ _ hst
  have hhd := sb7 _ _ hhd
  have her := sb7 _ _ her
  have hwa := sb7 _ _ hwa
  have hwr := sb7 _ _ hwr
  have hfr := sb7 _ _ hfr
  have hfl := sb7 _ _ hfl
  have hhi := sb7 _ _ hhi
  have hhl_ := sb7 _ _ hhl_
  have hco := sb7 _ _ hco
  have hcd := sb7 _ _ hcd
  have hcf := sb7 _ _ hcf
  have hfb1 : ∀ q, FtB b A q → ∃ o, Hb7 q = some o := fun q h => by
    obtain ⟨o, e⟩ := hfb1 q h
    exact ⟨o, sb7 _ _ e⟩
  have omi : ¬ FtB b A mi := fun h => by
    obtain ⟨o, e⟩ := hfb_6 _ h
    exact ne_of_none e fmi rfl
  have oml : ¬ FtB b A ml := fun h => by
    obtain ⟨o, e⟩ := hfb_6 _ h
    exact ne_of_none e fml rfl
  have omr : ¬ FtB b A mr := fun h => by
    obtain ⟨o, e⟩ := hfb_6 _ h
    exact ne_of_none e fmr rfl
  have zmi : Hb0 mi = none := (((((sb1.trans sb2).trans sb3).trans sb4).trans sb5).trans sb6).free fmi
  have zml : Hb0 ml = none := (((((sb1.trans sb2).trans sb3).trans sb4).trans sb5).trans sb6).free fml
  have zmr : Hb0 mr = none := (((((sb1.trans sb2).trans sb3).trans sb4).trans sb5).trans sb6).free fmr
  clear kp s7 n1 n2 n3
  refine ⟨_, rfl, p, CP, dx, _, rfl, upd_same, T.cP, T.nP_mishaps, (by show 6 < 1000; decide), ?_⟩
  rw [upd_upd]
  have hfb_7 := hfb1
  intro sd dsd n1 n2 n3
  refine ⟨sd, dsd, rfl, upd_same, fun H8 kp => ⟨rfl, ?_⟩⟩
  have s8 : Same (upd Hb7 p (.ins CP dx (putF "mishaps" (.ref mi) (putF "counts" (.ref co) (putF "history" (.ref hi) (putF "frames" (.ref fr) (putF "watching" (.ref wa) (putF "standing" (.ref st) (putF "board" (.ref b) ([])))))))))) H8 := made_same n1 n2 kp
  obtain ⟨psd, fsd⟩ := fresh1 n1
  obtain ⟨Hb8, rfl, sb8, fb8⟩ := pull s8 fb7
  have C1 := C1.keep (fun q o h e => sb8 q o e) (fun q xs e => sb8 q _ e)
  have hst := sb8 _ _ hst
  have hhd := sb8 _ _ hhd
  have her := sb8 _ _ her
  have hwa := sb8 _ _ hwa
  have hwr := sb8 _ _ hwr
  have hfr := sb8 _ _ hfr
  have hfl := sb8 _ _ hfl
  have hhi := sb8 _ _ hhi
  have hhl_ := sb8 _ _ hhl_
  have hco := sb8 _ _ hco
  have hcd := sb8 _ _ hcd
  have hcf := sb8 _ _ hcf
  have hmi := sb8 _ _ hmi
  have hml := sb8 _ _ hml
  have hmr := sb8 _ _ hmr
  have hfb1 : ∀ q, FtB b A q → ∃ o, Hb8 q = some o := fun q h => by
    obtain ⟨o, e⟩ := hfb1 q h
    exact ⟨o, sb8 _ _ e⟩
  clear kp s8 n1 n2 n3
  refine ⟨_, rfl, p, CP, dx, _, rfl, upd_same, T.cP, T.nP_stands, (by show 7 < 1000; decide), ?_⟩
  rw [upd_upd]
  refine ⟨_, rfl, p, CP, dx, _, rfl, upd_same, T.cP, T.nP_turns_gone, (by show 8 < 1000; decide), ?_⟩
  rw [upd_upd]
  refine ⟨_, rfl, p, CP, dx, _, rfl, upd_same, T.cP, T.nP_course, (by show 9 < 1000; decide), ?_⟩
  rw [upd_upd]
  have ef : putF "course" V.non (putF "turns_gone" (.int 0) (putF "stands" (.ref sd) (putF "mishaps" (.ref mi) (putF "counts" (.ref co) (putF "history" (.ref hi) (putF "frames" (.ref fr) (putF "watching" (.ref wa) (putF "standing" (.ref st) (putF "board" (.ref b) ([])))))))))) = prF b st wa fr hi co mi sd 0 .non := by kernel_rfl
  rw [ef]
  have s08 : Same Hb0 Hb8 := ((((((sb1.trans sb2).trans sb3).trans sb4).trans sb5).trans sb6).trans sb7).trans sb8
  refine k _ (FtP p ⟨dx, b, A, ts, lsv, st, dst, hd, er, wa, dwa, wr, fr, dfr, fl, hi, dhi, hl_, co, dco, cd, cf, mi, dmi, ml, mr, sd, [], [], []⟩) [st, hd, wa, wr, mi, ml] (fun q o n e => ?_) (fun q h => ?_) (fun q h => ?_) (fun S sS dS eS => ?_)
  · rw [upd_ne n] at e ⊢
    exact s08 _ _ e
  · rcases h with h | h
    · exact .inr (by rw [upd_ne (off q h)]; exact ftn q h)
    · have h : q ∈ [p, fr, fl, hi, hl_, co, cd, cf] := h
      simp only [List.mem_cons, List.not_mem_nil, or_false] at h
      rcases h with h | h | h | h | h | h | h | h
      · exact .inl h
      · exact .inr (by rw [h, upd_ne pfr]; exact zfr)
      · exact .inr (by rw [h, upd_ne pfl]; exact zfl)
      · exact .inr (by rw [h, upd_ne phi]; exact zhi)
      · exact .inr (by rw [h, upd_ne phl_]; exact zhl_)
      · exact .inr (by rw [h, upd_ne pco]; exact zco)
      · exact .inr (by rw [h, upd_ne pcd]; exact zcd)
      · exact .inr (by rw [h, upd_ne pcf]; exact zcf)
  · simp only [List.mem_cons, List.not_mem_nil, or_false] at h
    rcases h with h | h | h | h | h | h
    · rw [h]
      refine ⟨by rw [upd_ne pst]; exact zst, fun z => ?_⟩
      rcases z with z | z
      · exact ost z
      · have z : st ∈ [p, fr, fl, hi, hl_, co, cd, cf] := z
        simp only [List.mem_cons, List.not_mem_nil, or_false] at z
        rcases z with z | z | z | z | z | z | z | z
        · exact pst z
        · exact e_st_fr z
        · exact e_st_fl z
        · exact e_st_hi z
        · exact e_st_hl_ z
        · exact e_st_co z
        · exact e_st_cd z
        · exact e_st_cf z
    · rw [h]
      refine ⟨by rw [upd_ne phd]; exact zhd, fun z => ?_⟩
      rcases z with z | z
      · exact ohd z
      · have z : hd ∈ [p, fr, fl, hi, hl_, co, cd, cf] := z
        simp only [List.mem_cons, List.not_mem_nil, or_false] at z
        rcases z with z | z | z | z | z | z | z | z
        · exact phd z
        · exact e_hd_fr z
        · exact e_hd_fl z
        · exact e_hd_hi z
        · exact e_hd_hl_ z
        · exact e_hd_co z
        · exact e_hd_cd z
        · exact e_hd_cf z
    · rw [h]
      refine ⟨by rw [upd_ne pwa]; exact zwa, fun z => ?_⟩
      rcases z with z | z
      · exact owa z
      · have z : wa ∈ [p, fr, fl, hi, hl_, co, cd, cf] := z
        simp only [List.mem_cons, List.not_mem_nil, or_false] at z
        rcases z with z | z | z | z | z | z | z | z
        · exact pwa z
        · exact e_wa_fr z
        · exact e_wa_fl z
        · exact e_wa_hi z
        · exact e_wa_hl_ z
        · exact e_wa_co z
        · exact e_wa_cd z
        · exact e_wa_cf z
    · rw [h]
      refine ⟨by rw [upd_ne pwr]; exact zwr, fun z => ?_⟩
      rcases z with z | z
      · exact owr z
      · have z : wr ∈ [p, fr, fl, hi, hl_, co, cd, cf] := z
        simp only [List.mem_cons, List.not_mem_nil, or_false] at z
        rcases z with z | z | z | z | z | z | z | z
        · exact pwr z
        · exact e_wr_fr z
        · exact e_wr_fl z
        · exact e_wr_hi z
        · exact e_wr_hl_ z
        · exact e_wr_co z
        · exact e_wr_cd z
        · exact e_wr_cf z
    · rw [h]
      refine ⟨by rw [upd_ne pmi]; exact zmi, fun z => ?_⟩
      rcases z with z | z
      · exact omi z
      · have z : mi ∈ [p, fr, fl, hi, hl_, co, cd, cf] := z
        simp only [List.mem_cons, List.not_mem_nil, or_false] at z
        rcases z with z | z | z | z | z | z | z | z
        · exact pmi z
        · exact e_fr_mi.symm z
        · exact e_fl_mi.symm z
        · exact e_hi_mi.symm z
        · exact e_hl__mi.symm z
        · exact e_co_mi.symm z
        · exact e_cd_mi.symm z
        · exact e_cf_mi.symm z
    · rw [h]
      refine ⟨by rw [upd_ne pml]; exact zml, fun z => ?_⟩
      rcases z with z | z
      · exact oml z
      · have z : ml ∈ [p, fr, fl, hi, hl_, co, cd, cf] := z
        simp only [List.mem_cons, List.not_mem_nil, or_false] at z
        rcases z with z | z | z | z | z | z | z | z
        · exact pml z
        · exact e_fr_ml.symm z
        · exact e_fl_ml.symm z
        · exact e_hi_ml.symm z
        · exact e_hl__ml.symm z
        · exact e_co_ml.symm z
        · exact e_cd_ml.symm z
        · exact e_cf_ml.symm z
  · have hm : ∀ {q : Addr} {o : HO}, q ≠ p → Hb8 q = some o → upd Hb8 p (.ins CP dx (prF b st wa fr hi co mi sd 0 .non)) q = some o := fun n e => by rw [upd_ne n]; exact e
    refine ⟨⟨⟨dx, b, A, ts, lsv, st, dst, hd, er, wa, dwa, wr, fr, dfr, fl, hi, dhi, hl_, co, dco, cd, cf, mi, dmi, ml, mr, sd, [], [], []⟩, T_, .non, ma_, sa_, rfl, {
      sm := sS
      fs := dS
      nd := List.nodup_cons.mpr ⟨by simp only [List.mem_cons, List.not_mem_nil, or_false, not_or]; exact ⟨pfr.symm, pfl.symm, phi.symm, phl_.symm, pco.symm, pcd.symm, pcf.symm⟩, List.nodup_cons.mpr ⟨by simp only [List.mem_cons, List.not_mem_nil, or_false, not_or]; exact ⟨vfl.symm, e_fr_hi, e_fr_hl_, e_fr_co, e_fr_cd, e_fr_cf⟩, List.nodup_cons.mpr ⟨by simp only [List.mem_cons, List.not_mem_nil, or_false, not_or]; exact ⟨e_fl_hi, e_fl_hl_, e_fl_co, e_fl_cd, e_fl_cf⟩, List.nodup_cons.mpr ⟨by simp only [List.mem_cons, List.not_mem_nil, or_false, not_or]; exact ⟨vhl_.symm, e_hi_co, e_hi_cd, e_hi_cf⟩, List.nodup_cons.mpr ⟨by simp only [List.mem_cons, List.not_mem_nil, or_false, not_or]; exact ⟨e_hl__co, e_hl__cd, e_hl__cf⟩, List.nodup_cons.mpr ⟨by simp only [List.mem_cons, List.not_mem_nil, or_false, not_or]; exact ⟨vcd.symm, vcf.symm⟩, List.nodup_cons.mpr ⟨by simp only [List.mem_cons, List.not_mem_nil, or_false, not_or]; exact ncdf, List.nodup_cons.mpr ⟨List.not_mem_nil, List.nodup_nil⟩⟩⟩⟩⟩⟩⟩⟩
      ob := fun q h z => by
        have h : q ∈ [p, fr, fl, hi, hl_, co, cd, cf] := h
        simp only [List.mem_cons, List.not_mem_nil, or_false] at h
        rcases h with h | h | h | h | h | h | h | h
        · exact off q z h
        · exact ofr (h ▸ z)
        · exact ofl (h ▸ z)
        · exact ohi (h ▸ z)
        · exact ohl_ (h ▸ z)
        · exact oco (h ▸ z)
        · exact ocd (h ▸ z)
        · exact ocf (h ▸ z)
      hp := upd_same
      B := C1.keep (fun q o h e => hm (off q h) e) (fun q xs e => hm (fun z => by rw [z, fb8] at e; cases e) e)
      hfr := hm pfr hfr
      hfl := hm pfl hfl
      rows := .nil
      hhi := hm phi hhi
      hhl := hm phl_ hhl_
      hist := .nil
      hco := hm pco hco
      hcd := hm pcd hcd
      deeds := .nil
      hcf := hm pcf hcf
      hst := by
        have e : A.m = ma_ := C1.am
        rw [eS st (by simp), hm pst hst, e]
        rfl
      hhd := by rw [eS hd (by simp)]; exact hm phd hhd
      hwa := by rw [eS wa (by simp)]; exact hm pwa hwa
      hwr := by rw [eS wr (by simp)]; exact hm pwr hwr
      hmi := by rw [eS mi (by simp)]; exact hm pmi hmi
      hml := by rw [eS ml (by simp)]; exact hm pml hml }⟩, newP_N hw hri⟩
end
end Bh

/-! A probe is asked. -/
namespace Bh
open PySem PySem.Spec PyProof.Rows L2
def rgN : List Str := ["a", "b", "pc", "sp"]
structure Tr (K : PySem.W.Frag) (mg : Str → Option Value) : Prop where
  g_REGISTERS : ∃ a, mg "REGISTERS" = some (.ref a) ∧ ∀ H, SqT K H a (rgN.map V.str)
  z_str : mg "str" = none
def regsL (x : Bd) : List (Str × V) := [("a", .int x.a), ("b", .int x.b), ("pc", .int x.pc), ("sp", .int x.sp), ("zero", .bl x.zero), ("lets", .bl x.lets), ("asleep", .bl x.asleep), ("beat", .int x.beat)]
theorem map_rdA (m : List Int) (hl : m.length = 774) : (List.range 774).map (fun k : Nat => rd m (0 + (k : Int))) = m := by
  apply List.ext_getElem
  · rw [List.length_map, List.length_range, hl]
  · intro i h1 h2
    rw [List.getElem_map, List.getElem_range]
    unfold rd
    have e : (0 + (i : Int)).toNat = i := by omega
    rw [e, List.getD_eq_getElem?_getD, List.getElem?_eq_getElem h2, Option.getD_some]
section
variable (CB CM CP CK CW CF CH CC CI : Addr)
def spLook : Sp := fun vs H Q _ => ∃ (S : Hp) (F : Addr → Prop) (p : Addr) (x : Pm), vs = [.ref p, .int 0, .int 774] ∧ PrA CB CM CP CK CW CF CH CC CI S H F p x ∧ ∀ H' l, Same H H' → H l = none → H' l = some (.lst (x.b.mem.map V.int)) → Q (.ref l) H'
def spLookG : Sp := fun vs H Q _ => ∃ (S : Hp) (F : Addr → Prop) (p : Addr) (x : Pm) (a0 n0 : Int), vs = [.ref p, .int a0, .int n0] ∧ PrA CB CM CP CK CW CF CH CC CI S H F p x ∧ 0 ≤ a0 ∧ a0 ≤ 773 ∧ 0 ≤ n0 ∧ n0 ≤ 774 - a0 ∧ ∀ H' l, Same H H' → H l = none → H' l = some (.lst (((List.range n0.toNat).map fun k : Nat => rd x.b.mem (a0 + (k : Int))).map V.int)) → Q (.ref l) H'
def spReg : Sp := fun vs H Q _ => ∃ (S : Hp) (F : Addr → Prop) (p : Addr) (x : Pm) (nm : Str) (v : V), vs = [.ref p, .str nm] ∧ PrA CB CM CP CK CW CF CH CC CI S H F p x ∧ (nm, v) ∈ regsL x.b ∧ Q v H
def spStp : Sp := fun vs H Q _ => ∃ (S : Hp) (F : Addr → Prop) (p : Addr) (x : Pm), vs = [.ref p] ∧ PrA CB CM CP CK CW CF CH CC CI S H F p x ∧ ∀ sv, StopAt H sv x.b.stop → Q sv H
def spOut : Sp := fun vs H Q _ => ∃ (S : Hp) (F : Addr → Prop) (p : Addr) (x : Pm), vs = [.ref p] ∧ PrA CB CM CP CK CW CF CH CC CI S H F p x ∧ ∀ H' l us, Same H H' → H l = none → H' l = some (.lst us) → TupsAt H' us x.b.sent → Q (.ref l) H'
def spTurns : Sp := fun vs H Q _ => ∃ (S : Hp) (F : Addr → Prop) (p : Addr) (x : Pm), vs = [.ref p] ∧ PrA CB CM CP CK CW CF CH CC CI S H F p x ∧ Q (.int x.gone) H
def spTrc : Sp := fun vs H Q _ => ∃ (S : Hp) (F : Addr → Prop) (p : Addr) (x : Pm), vs = [.ref p] ∧ PrA CB CM CP CK CW CF CH CC CI S H F p x ∧ ∀ H' l us, Same H H' → H l = none → H' l = some (.lst us) → HtAt H' us x.hist → Q (.ref l) H'
end
section
variable {P : Program} {w : World} {K : PySem.W.Frag} {mg : Str → Option Value} {base : Heap} {CB CM CP CK CW CF CH CC CI CS CO CQ : Addr}
abbrev sMstp : Stmt := inClass (topS 99) 4
def scMstpN : List Str := ["self"]
theorem scMstp : FnScope scMstpN ["self"] (defScope sMstp) := ⟨rfl, rfl, rfl, by decide +kernel, rfl, by decide +kernel, by decide +kernel⟩
theorem ok_Mstp {f : Addr} {fd : FuncData} (F : Fun K "stop_told" "Probe.stop_told" sMstp f fd) (T : Ty K mg CB CM CP CK CW CF CH CC CI CS) : FnOk P w K mg base CX0 1 f fd ["self"] (spStp CB CM CP CK CW CF CH CC CI) := by
  refine F.ok scMstp (fun vs H Q E h => by obtain ⟨_, _, _, _, rfl, _⟩ := h; rfl) (fun cdv A outer s H vs Q E hr h => ?_)
  have hu := hu_of hr
  obtain ⟨S, F_, p, x, rfl, Y, k⟩ := h
  obtain ⟨⟨a, T0, D0, ma_, sa_, rfl, C⟩, N⟩ := Y
  obtain ⟨sv, tv, dv, hpb, hz⟩ := C.B.hp
  refine ⟨_, (pss_one (ps_ret (pe_fld (pe_fld (pv 0) rfl) rfl))), ?_⟩
  exact ⟨_, rfl, p, CP, a.dx, _, _, rfl, C.hp, T.cP, T.nP_board, pF_board, a.bd, CB, a.A.dx, _, _, rfl, hpb, T.cB, T.n_stopped, bF_stop, k sv hz.1⟩
abbrev sMout : Stmt := inClass (topS 99) 5
def scMoutN : List Str := ["self"]
theorem scMout : FnScope scMoutN ["self"] (defScope sMout) := ⟨rfl, rfl, rfl, by decide +kernel, rfl, by decide +kernel, by decide +kernel⟩
theorem ok_Mout {f : Addr} {fd : FuncData} (F : Fun K "out" "Probe.out" sMout f fd) (T : Ty K mg CB CM CP CK CW CF CH CC CI CS) : FnOk P w K mg base CX0 1 f fd ["self"] (spOut CB CM CP CK CW CF CH CC CI) := by
  refine F.ok scMout (fun vs H Q E h => by obtain ⟨_, _, _, _, rfl, _⟩ := h; rfl) (fun cdv A outer s H vs Q E hr h => ?_)
  have hu := hu_of hr
  have z_list := T.z_list
  obtain ⟨S, F_, p, x, rfl, Y, k⟩ := h
  obtain ⟨⟨a, T0, D0, ma_, sa_, rfl, C⟩, N⟩ := Y
  obtain ⟨sv, tv, dv, hpb, hz⟩ := C.B.hp
  refine ⟨_, (pss_one (ps_ret (pe_callTy call_list_of (by rfl) z_list (by decide +kernel) (pa_cons (pe_fld (pe_fld (pv 0) rfl) rfl) pa_nil)))), ?_⟩
  exact ⟨_, rfl, p, CP, a.dx, _, _, rfl, C.hp, T.cP, T.nP_board, pF_board, a.bd, CB, a.A.dx, _, _, rfl, hpb, T.cB, T.n_sent, bF_sent, a.A.t, _, rfl, .inl (SqL.of C.B.ht), fun l nl => k _ l a.ts (same_upd' nl) nl upd_same (C.B.us.mono fun t xs e => same_upd' nl _ _ e)⟩
abbrev sMtns : Stmt := inClass (topS 99) 6
def scMtnsN : List Str := ["self"]
theorem scMtns : FnScope scMtnsN ["self"] (defScope sMtns) := ⟨rfl, rfl, rfl, by decide +kernel, rfl, by decide +kernel, by decide +kernel⟩
theorem ok_Mtns {f : Addr} {fd : FuncData} (F : Fun K "turns" "Probe.turns" sMtns f fd) (T : Ty K mg CB CM CP CK CW CF CH CC CI CS) : FnOk P w K mg base CX0 1 f fd ["self"] (spTurns CB CM CP CK CW CF CH CC CI) := by
  refine F.ok scMtns (fun vs H Q E h => by obtain ⟨_, _, _, _, rfl, _⟩ := h; rfl) (fun cdv A outer s H vs Q E hr h => ?_)
  have hu := hu_of hr
  obtain ⟨S, F_, p, x, rfl, Y, k⟩ := h
  obtain ⟨⟨a, T0, D0, ma_, sa_, rfl, C⟩, N⟩ := Y
  obtain ⟨sv, tv, dv, hpb, hz⟩ := C.B.hp
  refine ⟨_, (pss_one (ps_ret (pe_fld (pv 0) rfl))), ?_⟩
  exact ⟨_, rfl, p, CP, a.dx, _, _, rfl, C.hp, T.cP, T.nP_turns_gone, pF_turns_gone, k⟩
abbrev sMlook : Stmt := inClass (topS 99) 2
def scMlookN : List Str := ["self", "address", "many", "at"]
theorem scMlook : FnScope scMlookN ["self", "address", "many"] (defScope sMlook) := ⟨rfl, rfl, rfl, by decide +kernel, rfl, by decide +kernel, by decide +kernel⟩
theorem ok_Mlook {f : Addr} {fd : FuncData} {fF_betw : Addr} {dF_betw : FuncData} {fM_at : Addr} {dM_at : FuncData} (F : Fun K "look" "Probe.look" sMlook f fd) (T : Ty K mg CB CM CP CK CW CF CH CC CI CS)
    (F_betw : CalF P w K mg base 2 "is_between" ["thing", "least", "greatest"] (spBetw) fF_betw dF_betw)
    (M_at : CalM P w K mg base CM 1 "word_at" ["self", "address"] (spMAt CM) fM_at dM_at) : FnOk P w K mg base CX0 3 f fd ["self", "address", "many"] (spLook CB CM CP CK CW CF CH CC CI) := by
  refine F.ok scMlook (fun vs H Q E h => by obtain ⟨_, _, _, _, rfl, _⟩ := h; rfl) (fun cdv A outer s H vs Q E hr h => ?_)
  have hu := hu_of hr
  obtain ⟨t_PLACES_END, g_PLACES_END⟩ := T.g_PLACES_END
  have z_range := T.z_range
  obtain ⟨S, F_, p, x, rfl, Y, k⟩ := h
  obtain ⟨⟨a, T0, D0, ma_, sa_, rfl, C⟩, N⟩ := Y
  obtain ⟨sv, tv, dv, hpb, hz⟩ := C.B.hp
  refine ⟨_, (pss_cons (ps_if (PW.pt (pw_or (pt_not (pt_val (pe_call F_betw.G (hr.mono (by decide)) (by rfl) F_betw.g F_betw.kp F_betw.b .nil pass0 (pa_cons (pv 1) (pa_cons pe_int (pa_cons (pe_op op_sub (pgI g_PLACES_END) pe_int) pa_nil)))))) (pw_or1 (pt_not (pt_val (pe_call F_betw.G (hr.mono (by decide)) (by rfl) F_betw.g F_betw.kp F_betw.b .nil pass0 (pa_cons (pv 2) (pa_cons pe_int (pa_cons (pe_op op_sub (pgI g_PLACES_END) (pv 1)) pa_nil))))))))) (pss_one ps_never) pss_nil)
    (pss_one (ps_ret (pe_lc (own := [("at", 3)]) (g := gName 3) (tt := tYes) (by rfl) scMlook.nd (pi_range2 (by rfl) z_range (pa_cons (pv 1) (pa_cons (pe_op op_add (pv 1) (pv 2)) pa_nil))) (blkOk_by (own := [("at", 3)]) (N := scMlookN) (sc := defScope sMlook) (by decide +kernel)) (fun _ _ _ _ _ => (pg_name (i := 3) scMlook.nd rfl (.inl rfl))) (fun _ _ _ _ _ => pts_nil) (fun _ _ _ _ _ => (pe_meth (pe_fldK (K := K) (by rfl) (pe_fldK (K := K) (by rfl) (pv 0) (by rfl)) (by rfl)) M_at.c M_at.m M_at.G (hr.mono (by decide)) M_at.b .nil pass0 (pa_cons (pv 3) pa_nil))))))), ?_⟩
  refine ⟨_, rfl, _, _, rfl, rfl, _, _, _, rfl, ?_⟩
  refine ⟨_, rfl, ifN (fun h => absurd (of_decide_eq_false h) (fun z => z (by decide))) (fun _ => ?_)⟩
  refine ⟨_, rfl, _, rfl, _, _, rfl, rfl, _, _, _, rfl, ?_⟩
  refine ⟨_, rfl, ifN (fun h => absurd (of_decide_eq_false h) (fun z => z (by decide))) (fun _ => ?_)⟩
  refine ⟨_, rfl, _, rfl, _, rfl, _, _, rfl, rfl, 0, 774, rfl, ⟨by decide, by decide, by decide, by decide⟩, fun D nD => ?_⟩
  refine lc_range (lo := 0) (n := ((774 : Int) - 0).toNat) (fun i H' => Same H H' ∧ H' D = some (.lst (((List.range i).map fun k : Nat => rd x.b.mem (0 + (k : Int))).map V.int))) ⟨same_upd' nD, upd_same⟩ ?_ ?_
  · rintro i H' hi ⟨sm, hD⟩
    have hi : i < 774 := hi
    have C := C.same sm
    obtain ⟨sv, tv, dv, hpb, hz⟩ := C.B.hp
    refine ⟨rfl, ?_⟩
    refine ⟨_, rfl, p, CP, a.dx, _, _, rfl, C.hp, T.cP, T.nP_board, pF_board, a.bd, CB, a.A.dx, _, _, rfl, hpb, T.cB, T.n_memory, bF_mem, a.A.m, a.A.dm, _, rfl, C.B.hm, mN_at, _, rfl, a.A.m, a.A.dm, a.A.w, a.A.s, x.b.mem, 0 + (i : Int), rfl, C.B.mem, by omega, by omega, ?_⟩
    refine ⟨_, hD, ?_, same_of sm nD, ?_⟩
    · rw [List.length_map, List.length_map, List.length_range]
      exact small1000 (by omega)
    · rw [upd_same, List.range_succ, List.map_append, List.map_append]
      rfl
  rintro G1 ⟨s1, hD⟩
  have e1 : (List.range ((774 : Int) - 0).toNat).map (fun k : Nat => rd x.b.mem (0 + (k : Int))) = x.b.mem := map_rdA x.b.mem C.B.lm
  rw [e1] at hD
  exact k _ D s1 nD hD
abbrev sMlookg : Stmt := inClass (topS 99) 2
def scMlookgN : List Str := ["self", "address", "many", "at"]
theorem scMlookg : FnScope scMlookgN ["self", "address", "many"] (defScope sMlookg) := ⟨rfl, rfl, rfl, by decide +kernel, rfl, by decide +kernel, by decide +kernel⟩
theorem ok_Mlookg {f : Addr} {fd : FuncData} {fF_betw : Addr} {dF_betw : FuncData} {fM_at : Addr} {dM_at : FuncData} (F : Fun K "look" "Probe.look" sMlookg f fd) (T : Ty K mg CB CM CP CK CW CF CH CC CI CS)
    (F_betw : CalF P w K mg base 2 "is_between" ["thing", "least", "greatest"] (spBetw) fF_betw dF_betw)
    (M_at : CalM P w K mg base CM 1 "word_at" ["self", "address"] (spMAt CM) fM_at dM_at) : FnOk P w K mg base CX0 3 f fd ["self", "address", "many"] (spLookG CB CM CP CK CW CF CH CC CI) := by
  refine F.ok scMlookg (fun vs H Q E h => by obtain ⟨_, _, _, _, _, _, rfl, _⟩ := h; rfl) (fun cdv A outer s H vs Q E hr h => ?_)
  have hu := hu_of hr
  obtain ⟨t_PLACES_END, g_PLACES_END⟩ := T.g_PLACES_END
  have z_range := T.z_range
  obtain ⟨S, F_, p, x, a0, n0, rfl, Y, h0, h1, h2, h3, k⟩ := h
  obtain ⟨⟨a, T0, D0, ma_, sa_, rfl, C⟩, N⟩ := Y
  obtain ⟨sv, tv, dv, hpb, hz⟩ := C.B.hp
  refine ⟨_, (pss_cons (ps_if (PW.pt (pw_or (pt_not (pt_val (pe_call F_betw.G (hr.mono (by decide)) (by rfl) F_betw.g F_betw.kp F_betw.b .nil pass0 (pa_cons (pv 1) (pa_cons pe_int (pa_cons (pe_op op_sub (pgI g_PLACES_END) pe_int) pa_nil)))))) (pw_or1 (pt_not (pt_val (pe_call F_betw.G (hr.mono (by decide)) (by rfl) F_betw.g F_betw.kp F_betw.b .nil pass0 (pa_cons (pv 2) (pa_cons pe_int (pa_cons (pe_op op_sub (pgI g_PLACES_END) (pv 1)) pa_nil))))))))) (pss_one ps_never) pss_nil)
    (pss_one (ps_ret (pe_lc (own := [("at", 3)]) (g := gName 3) (tt := tYes) (by rfl) scMlookg.nd (pi_range2 (by rfl) z_range (pa_cons (pv 1) (pa_cons (pe_op op_add (pv 1) (pv 2)) pa_nil))) (blkOk_by (own := [("at", 3)]) (N := scMlookgN) (sc := defScope sMlookg) (by decide +kernel)) (fun _ _ _ _ _ => (pg_name (i := 3) scMlookg.nd rfl (.inl rfl))) (fun _ _ _ _ _ => pts_nil) (fun _ _ _ _ _ => (pe_meth (pe_fldK (K := K) (by rfl) (pe_fldK (K := K) (by rfl) (pv 0) (by rfl)) (by rfl)) M_at.c M_at.m M_at.G (hr.mono (by decide)) M_at.b .nil pass0 (pa_cons (pv 3) pa_nil))))))), ?_⟩
  refine ⟨_, rfl, _, _, rfl, rfl, _, _, _, rfl, ?_⟩
  refine ⟨_, rfl, ifN (fun h => absurd (of_decide_eq_false h) (fun z => z ⟨h0, h1⟩)) (fun _ => ?_)⟩
  refine ⟨_, rfl, _, rfl, _, _, rfl, rfl, _, _, _, rfl, ?_⟩
  refine ⟨_, rfl, ifN (fun h => absurd (of_decide_eq_false h) (fun z => z ⟨h2, h3⟩)) (fun _ => ?_)⟩
  refine ⟨_, rfl, _, rfl, _, rfl, _, _, rfl, rfl, a0, a0 + n0, rfl, ⟨by omega, by omega, by omega, by omega⟩, fun D nD => ?_⟩
  have en : (a0 + n0 - a0).toNat = n0.toNat := by rw [show a0 + n0 - a0 = n0 by omega]
  refine lc_range (lo := a0) (n := (a0 + n0 - a0).toNat) (fun i H' => Same H H' ∧ H' D = some (.lst (((List.range i).map fun k : Nat => rd x.b.mem (a0 + (k : Int))).map V.int))) ⟨same_upd' nD, upd_same⟩ ?_ ?_
  · rintro i H' hi ⟨sm, hD⟩
    rw [en] at hi
    have C := C.same sm
    obtain ⟨sv, tv, dv, hpb, hz⟩ := C.B.hp
    refine ⟨rfl, ?_⟩
    refine ⟨_, rfl, p, CP, a.dx, _, _, rfl, C.hp, T.cP, T.nP_board, pF_board, a.bd, CB, a.A.dx, _, _, rfl, hpb, T.cB, T.n_memory, bF_mem, a.A.m, a.A.dm, _, rfl, C.B.hm, mN_at, _, rfl, a.A.m, a.A.dm, a.A.w, a.A.s, x.b.mem, a0 + (i : Int), rfl, C.B.mem, by omega, by omega, ?_⟩
    refine ⟨_, hD, ?_, same_of sm nD, ?_⟩
    · rw [List.length_map, List.length_map, List.length_range]
      exact small1000 (by omega)
    · rw [upd_same, List.range_succ, List.map_append, List.map_append]
      rfl
  rintro G1 ⟨s1, hD⟩
  rw [en] at hD
  exact k _ D s1 nD hD
abbrev sMreg : Stmt := inClass (topS 99) 3
def scMregN : List Str := ["self", "name"]
theorem scMreg : FnScope scMregN ["self", "name"] (defScope sMreg) := ⟨rfl, rfl, rfl, by decide +kernel, rfl, by decide +kernel, by decide +kernel⟩
theorem ok_Mreg {f : Addr} {fd : FuncData} (F : Fun K "register_of" "Probe.register_of" sMreg f fd) (T : Ty K mg CB CM CP CK CW CF CH CC CI CS)
    (TR : Tr K mg) : FnOk P w K mg base CX0 1 f fd ["self", "name"] (spReg CB CM CP CK CW CF CH CC CI) := by
  refine F.ok scMreg (fun vs H Q E h => by obtain ⟨_, _, _, _, _, _, rfl, _⟩ := h; rfl) (fun cdv A outer s H vs Q E hr h => ?_)
  have hu := hu_of hr
  have z_isinstance := T.z_isinstance
  have z_str := TR.z_str
  obtain ⟨t_REGISTERS, g_REGISTERS, hK_REGISTERS⟩ := TR.g_REGISTERS
  obtain ⟨S, F_, p, x, nm, v, rfl, Y, hm, k⟩ := h
  obtain ⟨⟨a, T0, D0, ma_, sa_, rfl, C⟩, N⟩ := Y
  obtain ⟨sv, tv, dv, hpb, hz⟩ := C.B.hp
  refine ⟨_, (pss_cons (ps_if (pt_val (pe_callB call_isi (by rfl) z_isinstance (by decide +kernel) (pa_cons (pv 1) (pa_cons (pe_bltn (v := .ty "str") (u := .type "str") (by rfl) z_str (by decide +kernel) rfl) pa_nil)))) (pss_cons (ps_if (pt_cmpR op_in_seq (pv 1) (pgR g_REGISTERS) (by rfl)) (pss_one (ps_ret (pe_dget hu (pe_fld (pe_fld (pv 0) rfl) rfl) (pv 1) (fun _ _ => rfl)))) pss_nil)
    (pss_cons (ps_if (pt_cmpR op_eq (pv 1) pe_str (nomark _)) (pss_one (ps_ret (pe_fld (pe_fld (pv 0) rfl) rfl))) pss_nil)
    (pss_cons (ps_if (pt_cmpR op_eq (pv 1) pe_str (nomark _)) (pss_one (ps_ret (pe_fld (pe_fld (pv 0) rfl) rfl))) pss_nil)
    (pss_cons (ps_if (pt_cmpR op_eq (pv 1) pe_str (nomark _)) (pss_one (ps_ret (pe_fld (pe_fld (pv 0) rfl) rfl))) pss_nil)
    (pss_one (ps_if (pt_cmpR op_eq (pv 1) pe_str (nomark _)) (pss_one (ps_ret (pe_fld (pe_fld (pv 0) rfl) rfl))) pss_nil)))))) pss_nil)
    (pss_one ps_never)), ?_⟩
  simp only [regsL, List.mem_cons, List.not_mem_nil, or_false, Prod.mk.injEq] at hm
  rcases hm with ⟨rfl, rfl⟩ | ⟨rfl, rfl⟩ | ⟨rfl, rfl⟩ | ⟨rfl, rfl⟩ | ⟨rfl, rfl⟩ | ⟨rfl, rfl⟩ | ⟨rfl, rfl⟩ | ⟨rfl, rfl⟩
  · refine ⟨_, rfl, .str "a", .ty "str", _, _, true, rfl, .ty "str", .base (.str "a"), kit_ty (by decide +kernel), _, rfl, ifB (fun _ => ?_) (fun h => by cases h)⟩
    refine ⟨_, rfl, t_REGISTERS, _, rfl, .inr (hK_REGISTERS _), rfl, rfl, _, rfl, ?_⟩
    rw [show (if false = true then !inV (V.str "a") (rgN.map V.str) else inV (V.str "a") (rgN.map V.str)) = inV (V.str "a") (rgN.map V.str) from rfl, in_strs]
    refine ifB (fun _ => ?_) (fun h => absurd (of_decide_eq_false h) (fun z => z (by decide +kernel)))
    exact ⟨_, rfl, p, CP, a.dx, _, _, rfl, C.hp, T.cP, T.nP_board, pF_board, a.bd, CB, a.A.dx, _, _, rfl, hpb, T.cB, T.n_registers, bF_reg, _, rfl, a.A.r, _, rfl, dg (k := Sum.inr "a") C.B.hr rG_a, k⟩
  · refine ⟨_, rfl, .str "b", .ty "str", _, _, true, rfl, .ty "str", .base (.str "b"), kit_ty (by decide +kernel), _, rfl, ifB (fun _ => ?_) (fun h => by cases h)⟩
    refine ⟨_, rfl, t_REGISTERS, _, rfl, .inr (hK_REGISTERS _), rfl, rfl, _, rfl, ?_⟩
    rw [show (if false = true then !inV (V.str "b") (rgN.map V.str) else inV (V.str "b") (rgN.map V.str)) = inV (V.str "b") (rgN.map V.str) from rfl, in_strs]
    refine ifB (fun _ => ?_) (fun h => absurd (of_decide_eq_false h) (fun z => z (by decide +kernel)))
    exact ⟨_, rfl, p, CP, a.dx, _, _, rfl, C.hp, T.cP, T.nP_board, pF_board, a.bd, CB, a.A.dx, _, _, rfl, hpb, T.cB, T.n_registers, bF_reg, _, rfl, a.A.r, _, rfl, dg (k := Sum.inr "b") C.B.hr rG_b, k⟩
  · refine ⟨_, rfl, .str "pc", .ty "str", _, _, true, rfl, .ty "str", .base (.str "pc"), kit_ty (by decide +kernel), _, rfl, ifB (fun _ => ?_) (fun h => by cases h)⟩
    refine ⟨_, rfl, t_REGISTERS, _, rfl, .inr (hK_REGISTERS _), rfl, rfl, _, rfl, ?_⟩
    rw [show (if false = true then !inV (V.str "pc") (rgN.map V.str) else inV (V.str "pc") (rgN.map V.str)) = inV (V.str "pc") (rgN.map V.str) from rfl, in_strs]
    refine ifB (fun _ => ?_) (fun h => absurd (of_decide_eq_false h) (fun z => z (by decide +kernel)))
    exact ⟨_, rfl, p, CP, a.dx, _, _, rfl, C.hp, T.cP, T.nP_board, pF_board, a.bd, CB, a.A.dx, _, _, rfl, hpb, T.cB, T.n_registers, bF_reg, _, rfl, a.A.r, _, rfl, dg (k := Sum.inr "pc") C.B.hr rG_pc, k⟩
  · refine ⟨_, rfl, .str "sp", .ty "str", _, _, true, rfl, .ty "str", .base (.str "sp"), kit_ty (by decide +kernel), _, rfl, ifB (fun _ => ?_) (fun h => by cases h)⟩
    refine ⟨_, rfl, t_REGISTERS, _, rfl, .inr (hK_REGISTERS _), rfl, rfl, _, rfl, ?_⟩
    rw [show (if false = true then !inV (V.str "sp") (rgN.map V.str) else inV (V.str "sp") (rgN.map V.str)) = inV (V.str "sp") (rgN.map V.str) from rfl, in_strs]
    refine ifB (fun _ => ?_) (fun h => absurd (of_decide_eq_false h) (fun z => z (by decide +kernel)))
    exact ⟨_, rfl, p, CP, a.dx, _, _, rfl, C.hp, T.cP, T.nP_board, pF_board, a.bd, CB, a.A.dx, _, _, rfl, hpb, T.cB, T.n_registers, bF_reg, _, rfl, a.A.r, _, rfl, dg (k := Sum.inr "sp") C.B.hr rG_sp, k⟩
  · refine ⟨_, rfl, .str "zero", .ty "str", _, _, true, rfl, .ty "str", .base (.str "zero"), kit_ty (by decide +kernel), _, rfl, ifB (fun _ => ?_) (fun h => by cases h)⟩
    refine ⟨_, rfl, t_REGISTERS, _, rfl, .inr (hK_REGISTERS _), rfl, rfl, _, rfl, ?_⟩
    rw [show (if false = true then !inV (V.str "zero") (rgN.map V.str) else inV (V.str "zero") (rgN.map V.str)) = inV (V.str "zero") (rgN.map V.str) from rfl, in_strs]
    refine ifB (fun h => absurd (of_decide_eq_true h) (by decide +kernel)) (fun _ => ?_)
    refine ⟨_, rfl, rfl, _, rfl, ifB (fun _ => ?_) (fun h => absurd rfl (of_decide_eq_false h))⟩
    exact ⟨_, rfl, p, CP, a.dx, _, _, rfl, C.hp, T.cP, T.nP_board, pF_board, a.bd, CB, a.A.dx, _, _, rfl, hpb, T.cB, T.n_zero, bF_zero, k⟩
  · refine ⟨_, rfl, .str "lets", .ty "str", _, _, true, rfl, .ty "str", .base (.str "lets"), kit_ty (by decide +kernel), _, rfl, ifB (fun _ => ?_) (fun h => by cases h)⟩
    refine ⟨_, rfl, t_REGISTERS, _, rfl, .inr (hK_REGISTERS _), rfl, rfl, _, rfl, ?_⟩
    rw [show (if false = true then !inV (V.str "lets") (rgN.map V.str) else inV (V.str "lets") (rgN.map V.str)) = inV (V.str "lets") (rgN.map V.str) from rfl, in_strs]
    refine ifB (fun h => absurd (of_decide_eq_true h) (by decide +kernel)) (fun _ => ?_)
    refine ⟨_, rfl, rfl, _, rfl, ifB (fun h => absurd (V.str.inj (of_decide_eq_true h)) (by decide +kernel)) (fun _ => ?_)⟩
    refine ⟨_, rfl, rfl, _, rfl, ifB (fun _ => ?_) (fun h => absurd rfl (of_decide_eq_false h))⟩
    exact ⟨_, rfl, p, CP, a.dx, _, _, rfl, C.hp, T.cP, T.nP_board, pF_board, a.bd, CB, a.A.dx, _, _, rfl, hpb, T.cB, T.n_lets, bF_lets, k⟩
  · refine ⟨_, rfl, .str "asleep", .ty "str", _, _, true, rfl, .ty "str", .base (.str "asleep"), kit_ty (by decide +kernel), _, rfl, ifB (fun _ => ?_) (fun h => by cases h)⟩
    refine ⟨_, rfl, t_REGISTERS, _, rfl, .inr (hK_REGISTERS _), rfl, rfl, _, rfl, ?_⟩
    rw [show (if false = true then !inV (V.str "asleep") (rgN.map V.str) else inV (V.str "asleep") (rgN.map V.str)) = inV (V.str "asleep") (rgN.map V.str) from rfl, in_strs]
    refine ifB (fun h => absurd (of_decide_eq_true h) (by decide +kernel)) (fun _ => ?_)
    refine ⟨_, rfl, rfl, _, rfl, ifB (fun h => absurd (V.str.inj (of_decide_eq_true h)) (by decide +kernel)) (fun _ => ?_)⟩
    refine ⟨_, rfl, rfl, _, rfl, ifB (fun h => absurd (V.str.inj (of_decide_eq_true h)) (by decide +kernel)) (fun _ => ?_)⟩
    refine ⟨_, rfl, rfl, _, rfl, ifB (fun _ => ?_) (fun h => absurd rfl (of_decide_eq_false h))⟩
    exact ⟨_, rfl, p, CP, a.dx, _, _, rfl, C.hp, T.cP, T.nP_board, pF_board, a.bd, CB, a.A.dx, _, _, rfl, hpb, T.cB, T.n_asleep, bF_asleep, k⟩
  · refine ⟨_, rfl, .str "beat", .ty "str", _, _, true, rfl, .ty "str", .base (.str "beat"), kit_ty (by decide +kernel), _, rfl, ifB (fun _ => ?_) (fun h => by cases h)⟩
    refine ⟨_, rfl, t_REGISTERS, _, rfl, .inr (hK_REGISTERS _), rfl, rfl, _, rfl, ?_⟩
    rw [show (if false = true then !inV (V.str "beat") (rgN.map V.str) else inV (V.str "beat") (rgN.map V.str)) = inV (V.str "beat") (rgN.map V.str) from rfl, in_strs]
    refine ifB (fun h => absurd (of_decide_eq_true h) (by decide +kernel)) (fun _ => ?_)
    refine ⟨_, rfl, rfl, _, rfl, ifB (fun h => absurd (V.str.inj (of_decide_eq_true h)) (by decide +kernel)) (fun _ => ?_)⟩
    refine ⟨_, rfl, rfl, _, rfl, ifB (fun h => absurd (V.str.inj (of_decide_eq_true h)) (by decide +kernel)) (fun _ => ?_)⟩
    refine ⟨_, rfl, rfl, _, rfl, ifB (fun h => absurd (V.str.inj (of_decide_eq_true h)) (by decide +kernel)) (fun _ => ?_)⟩
    refine ⟨_, rfl, rfl, _, rfl, ifB (fun _ => ?_) (fun h => absurd rfl (of_decide_eq_false h))⟩
    exact ⟨_, rfl, p, CP, a.dx, _, _, rfl, C.hp, T.cP, T.nP_board, pF_board, a.bd, CB, a.A.dx, _, _, rfl, hpb, T.cB, T.n_beat, bF_beat, k⟩
end
end Bh

/-! The wells of the laws k41 to k54, k87, k90, and what they draw. -/
namespace Bh
open PySem PySem.Spec PyProof.Rows L2
theorem can_ints : ∀ ns : List Int, PyData.canLayAll0 (ns.map PyData.int) = true
  | [] => rfl
  | n :: r => by
    show (PyData.canLay0 (.int n) && PyData.canLayAll0 (r.map PyData.int)) = true
    rw [can_ints r]
    rfl
/-- a well from which no more than n were drawn -/
def WellAt (H : Hp) (l : Addr) (n : Nat) : Prop := ∃ u v t : Int, H l = some (.lst [.int u, .int v, .int t]) ∧ 0 ≤ t ∧ t ≤ n
theorem WellAt.mono {H : Hp} {l : Addr} {n m : Nat} (h : WellAt H l n) (le : n ≤ m) : WellAt H l m := by
  obtain ⟨u, v, t, e, h0, h1⟩ := h
  exact ⟨u, v, t, e, h0, by omega⟩
theorem WellAt.same {H H' : Hp} {l : Addr} {n : Nat} (h : WellAt H l n) (s : Same H H') : WellAt H' l n := by
  obtain ⟨u, v, t, e, h0, h1⟩ := h
  exact ⟨u, v, t, s _ _ e, h0, h1⟩
/-- all but one cell stands as it stood -/
def But (l : Addr) (H H' : Hp) : Prop := ∀ b o, b ≠ l → H b = some o → H' b = some o
theorem But.refl {l : Addr} {H : Hp} : But l H H := fun _ _ _ e => e
theorem But.trans {l : Addr} {H G J : Hp} (a : But l H G) (b : But l G J) : But l H J := fun c o n e => b c o n (a c o n e)
theorem But.of {l : Addr} {H G : Hp} (s : Same H G) : But l H G := fun c o _ e => s c o e
def spCellAt (K : PySem.W.Frag) : Sp := fun vs H Q _ => ∃ (a : Addr) (ns : List Int) (k : Nat), vs = [.ref a, .int (k : Int)] ∧ SqL K H a (ns.map V.int) ∧ ∀ z : Int, Q (.int z) H
def spWell : Sp := fun vs H Q _ => ∃ c : Int, vs = [.int c] ∧ ∀ H' l, Same H H' → H l = none → WellAt H' l 0 → Q (.ref l) H'
def spDraw : Sp := fun vs H Q _ => ∃ (l : Addr) (W : Int) (n : Nat), vs = [.ref l, .int W] ∧ WellAt H l n ∧ n < 1000000000 ∧ 0 < W ∧ W ≤ 70000 ∧ ∀ (H' : Hp) (d : Int), But l H H' → WellAt H' l (n + 1) → 0 ≤ d → d < W → Q (.int d) H'
def spOne : Sp := fun vs H Q _ => ∃ (l a : Addr) (xs : List V) (n : Nat), vs = [.ref l, .ref a] ∧ WellAt H l n ∧ n < 1000000000 ∧ a ≠ l ∧ H a = some (.lst xs) ∧ xs ≠ [] ∧ xs.length ≤ 1000 ∧ ∀ (H' : Hp) (x : V), But l H H' → WellAt H' l (n + 1) → x ∈ xs → Q x H'
section
variable {P : Program} {w : World} {K : PySem.W.Frag} {mg : Str → Option Value} {base : Heap} {CB CM CP CK CW CF CH CC CI CS CO CQ : Addr}
abbrev sLcell : Stmt := topS 101
def scLcellN : List Str := ["_law_script", "_law_k"]
theorem scLcell : FnScope scLcellN ["_law_script", "_law_k"] (defScope sLcell) := ⟨rfl, rfl, rfl, by decide +kernel, rfl, by decide +kernel, by decide +kernel⟩
theorem ok_Lcell {f : Addr} {fd : FuncData} (F : Fun K "_law_cell_at" "_law_cell_at" sLcell f fd) (T : Ty K mg CB CM CP CK CW CF CH CC CI CS) : FnOk P w K mg base CX0 1 f fd ["_law_script", "_law_k"] (spCellAt K) := by
  refine F.ok scLcell (fun vs H Q E h => by obtain ⟨_, _, _, rfl, _⟩ := h; rfl) (fun cdv A outer s H vs Q E hr h => ?_)
  have hu := hu_of hr
  have z_len := T.z_len
  obtain ⟨a, ns, k, rfl, hS, q⟩ := h
  refine ⟨_, (pss_cons (ps_if (pt_cmpR op_lt (pv 1) (pe_callB call_len_seq (by rfl) z_len PySem.boot_len (pa_cons (pv 0) pa_nil)) (nomark _)) (pss_one (ps_ret (pe_ix ix_list (pv 0) (pv 1) (fun _ _ => rfl)))) pss_nil)
    (pss_one (ps_ret (pe_op op_add (pv 1) pe_int)))), ?_⟩
  refine ⟨_, rfl, _, rfl, a, _, rfl, .inl hS, _, _, rfl, rfl, _, rfl, ifB (fun h => ?_) (fun _ => ⟨_, rfl, _, _, rfl, rfl, q _⟩)⟩
  have h := of_decide_eq_true h
  rw [List.length_map] at h
  exact ⟨_, rfl, _, rfl, a, _, _, _, rfl, rfl, hS, atI_rd (m := ns) (i := (k : Int)) (by omega) (by omega), q _⟩
abbrev sLwell : Stmt := topS 102
def scLwellN : List Str := ["_law_cell"]
theorem scLwell : FnScope scLwellN ["_law_cell"] (defScope sLwell) := ⟨rfl, rfl, rfl, by decide +kernel, rfl, by decide +kernel, by decide +kernel⟩
theorem ok_Lwell {f : Addr} {fd : FuncData} (F : Fun K "_law_well" "_law_well" sLwell f fd) (T : Ty K mg CB CM CP CK CW CF CH CC CI CS) : FnOk P w K mg base CX0 1 f fd ["_law_cell"] (spWell) := by
  refine F.ok scLwell (fun vs H Q E h => by obtain ⟨_, rfl, _⟩ := h; rfl) (fun cdv A outer s H vs Q E hr h => ?_)
  have hu := hu_of hr
  have z_int := T.z_int
  obtain ⟨c, rfl, q⟩ := h
  refine ⟨_, (pss_one (ps_ret (pe_lst (pa_cons (pe_op op_mul (pv 0) (pe_callTy call_int1 (by rfl) z_int (by decide +kernel) (pa_cons (pe_cmpR op_ge (pv 0) (pe_op op_pow pe_int pe_int) (nomark _)) pa_nil))) (pa_cons (pv 0) (pa_cons pe_int pa_nil)))))), ?_⟩
  refine ⟨_, rfl, _, rfl, _, _, rfl, rfl, ⟨by decide, by decide, by decide⟩, _, _, rfl, rfl, .inr ⟨_, rfl, ?_⟩⟩
  refine ⟨_, _, rfl, rfl, .inr ⟨by split <;> decide, by split <;> decide⟩, _, rfl, (by show 3 ≤ sizeLine; decide), fun l nl => ?_⟩
  exact q _ l (same_upd' nl) nl ⟨_, _, _, upd_same, Int.le_refl 0, Int.le_refl 0⟩
abbrev sLdraw : Stmt := topS 103
def scLdrawN : List Str := ["_law_well_here", "_law_many", "_law_found", "_law_base", "_law_number"]
theorem scLdraw : FnScope scLdrawN ["_law_well_here", "_law_many"] (defScope sLdraw) := ⟨rfl, rfl, rfl, by decide +kernel, rfl, by decide +kernel, by decide +kernel⟩
theorem ok_Ldraw {f : Addr} {fd : FuncData} (F : Fun K "_law_draw" "_law_draw" sLdraw f fd) (T : Ty K mg CB CM CP CK CW CF CH CC CI CS) : FnOk P w K mg base CX0 1 f fd ["_law_well_here", "_law_many"] (spDraw) := by
  refine F.ok scLdraw (fun vs H Q E h => by obtain ⟨_, _, _, rfl, _⟩ := h; rfl) (fun cdv A outer s H vs Q E hr h => ?_)
  have hu := hu_of hr
  obtain ⟨l, W, n, rfl, hw, hn, W0, W1, q⟩ := h
  refine ⟨_, (pss_cons (ps_if (pt_cmpR op_gt (pe_ix ix_list (pv 0) pe_int (fun _ _ => rfl)) pe_int (nomark _)) (pss_cons (ps_set (i := 2) scLdraw.nd rfl (.inl rfl) (pe_op op_mod (pe_ix ix_list (pv 0) pe_int (fun _ _ => rfl)) (pv 1)))
    (pss_cons (ps_asg (pe_op op_fdiv (pe_ix ix_list (pv 0) pe_int (fun _ _ => rfl)) (pv 1)) (pg_sub (pv 0) pe_int set_list))
    (pss_one (ps_ret (pv 2))))) pss_nil)
    (pss_cons (ps_asg (pe_op op_add (pe_ix ix_list (pv 0) pe_int (fun _ _ => rfl)) pe_int) (pg_sub (pv 0) pe_int set_list))
    (pss_cons (ps_set (i := 3) scLdraw.nd rfl (.inl rfl) (pe_op op_add (pe_op op_mod (pe_ix ix_list (pv 0) pe_int (fun _ _ => rfl)) pe_int) (pe_op op_mod (pe_op op_fdivW (pe_ix ix_list (pv 0) pe_int (fun _ _ => rfl)) pe_int) pe_int)))
    (pss_cons (ps_set (i := 4) scLdraw.nd rfl (.inl rfl) (pe_op op_mod (pe_op op_pow (pe_op op_add (pe_op op_add (pv 3) (pe_op op_mul pe_int (pe_ix ix_list (pv 0) pe_int (fun _ _ => rfl)))) pe_int) pe_int) pe_int))
    (pss_cons (ps_set (i := 4) scLdraw.nd rfl (.inl rfl) (pe_op op_mod (pe_op op_mul (pv 4) (pe_op op_add (pe_op op_add (pe_op op_fdiv (pv 4) pe_int) pe_int) (pe_ix ix_list (pv 0) pe_int (fun _ _ => rfl)))) pe_int))
    (pss_one (ps_ret (pe_op op_mod (pe_op op_mod (pe_op op_mul (pv 4) (pe_op op_add (pe_op op_fdiv (pv 4) pe_int) pe_int)) pe_int) (pv 1))))))))), ?_⟩
  obtain ⟨u, v, t, hl, t0, t1⟩ := hw
  refine ⟨_, rfl, l, _, 0, _, rfl, rfl, SqL.of hl, atI_nat (j := 0) rfl, _, _, rfl, rfl, _, rfl, ifB (fun _ => ?_) (fun _ => ?_)⟩
  · refine ⟨_, rfl, l, _, 0, _, rfl, rfl, SqL.of hl, atI_nat (j := 0) rfl, _, rfl, _, _, rfl, rfl, W0, ?_⟩
    refine ⟨_, rfl, l, _, 0, _, rfl, rfl, SqL.of hl, atI_nat (j := 0) rfl, _, rfl, _, _, rfl, rfl, ⟨W0, by omega⟩, _, rfl, l, _, _, _, rfl, rfl, hl, ixN_in (by decide) (by show (0 : Int) < 3; decide), ?_⟩
    exact ⟨_, rfl, q _ _ (fun b o n e => by rw [upd_ne n]; exact e) ⟨_, _, _, upd_same, t0, by omega⟩ (Int.emod_nonneg u (by omega)) (Int.emod_lt_of_pos u W0)⟩
  refine ⟨_, rfl, l, _, 2, _, rfl, rfl, SqL.of hl, atI_nat (j := 2) rfl, _, _, rfl, rfl, _, rfl, l, _, _, _, rfl, rfl, hl, ixN_in (by decide) (by show (2 : Int) < 3; decide), ?_⟩
  have hl2 : upd H l (.lst ([V.int u, V.int v, V.int t].set (2 : Int).toNat (V.int (t + 1)))) l = some (.lst [.int u, .int v, .int (t + 1)]) := upd_same
  have k2 : But l H (upd H l (.lst ([V.int u, V.int v, V.int t].set (2 : Int).toNat (V.int (t + 1))))) := fun b o n e => by rw [upd_ne n]; exact e
  generalize upd H l (.lst ([V.int u, V.int v, V.int t].set (2 : Int).toNat (V.int (t + 1)))) = G2 at *
  have v0 := Int.emod_nonneg v (show (2147483629 : Int) ≠ 0 by decide)
  have v1 := Int.emod_lt_of_pos v (show (0 : Int) < 2147483629 by decide)
  have v2 := Int.emod_nonneg (v / 2147483629) (show (65521 : Int) ≠ 0 by decide)
  have v3 := Int.emod_lt_of_pos (v / 2147483629) (show (0 : Int) < 65521 by decide)
  refine ⟨_, rfl, l, _, 1, _, rfl, rfl, SqL.of hl2, atI_nat (j := 1) rfl, _, _, rfl, rfl, (by show (0 : Int) < 2147483629; decide), _, rfl, l, _, 1, _, rfl, rfl, SqL.of hl2, atI_nat (j := 1) rfl, _, _, rfl, rfl, ⟨by decide, by decide⟩, _, _, rfl, rfl, (by show (0 : Int) < 65521; decide), _, _, rfl, rfl, ?_⟩
  have b0 : 0 ≤ v % 2147483629 + v / 2147483629 % 65521 := by omega
  have b1 : v % 2147483629 + v / 2147483629 % 65521 < 2147549150 := by omega
  generalize v % 2147483629 + v / 2147483629 % 65521 = bs at *
  clear v0 v1 v2 v3
  refine ⟨_, rfl, _, rfl, l, _, 2, _, rfl, rfl, SqL.of hl2, atI_nat (j := 2) rfl, _, _, rfl, rfl, .inl ⟨by decide, by decide⟩, _, _, rfl, rfl, _, _, rfl, rfl, _, _, rfl, rfl, ⟨by decide, by decide, by omega⟩, _, _, rfl, rfl, (by show (0 : Int) < 2147483647; decide), ?_⟩
  have c0 := Int.emod_nonneg ((bs + 7919 * (t + 1) + 1) ^ (5 : Int).toNat) (show (2147483647 : Int) ≠ 0 by decide)
  have c1 := Int.emod_lt_of_pos ((bs + 7919 * (t + 1) + 1) ^ (5 : Int).toNat) (show (0 : Int) < 2147483647 by decide)
  generalize (bs + 7919 * (t + 1) + 1) ^ (5 : Int).toNat % 2147483647 = z1 at *
  refine ⟨_, rfl, _, rfl, _, _, rfl, rfl, ⟨by decide, by decide⟩, _, _, rfl, rfl, _, rfl, l, _, 2, _, rfl, rfl, SqL.of hl2, atI_nat (j := 2) rfl, _, _, rfl, rfl, _, _, rfl, rfl, .inl ⟨by omega, by omega⟩, _, _, rfl, rfl, (by show (0 : Int) < 2147483629; decide), ?_⟩
  have d0 := Int.emod_nonneg (z1 * (z1 / 1009 + 69621 + (t + 1))) (show (2147483629 : Int) ≠ 0 by decide)
  have d1 := Int.emod_lt_of_pos (z1 * (z1 / 1009 + 69621 + (t + 1))) (show (0 : Int) < 2147483629 by decide)
  generalize z1 * (z1 / 1009 + 69621 + (t + 1)) % 2147483629 = z2 at *
  refine ⟨_, rfl, _, rfl, _, _, rfl, rfl, ⟨by decide, by decide⟩, _, _, rfl, rfl, _, _, rfl, rfl, .inl ⟨by omega, by omega⟩, _, _, rfl, rfl, (by show (0 : Int) < 2147483399; decide), _, rfl, _, _, rfl, rfl, W0, ?_⟩
  exact q _ _ k2 ⟨_, _, _, hl2, by omega, by omega⟩ (Int.emod_nonneg _ (by omega)) (Int.emod_lt_of_pos _ W0)
abbrev sLone : Stmt := topS 104
def scLoneN : List Str := ["_law_well_here", "_law_some"]
theorem scLone : FnScope scLoneN ["_law_well_here", "_law_some"] (defScope sLone) := ⟨rfl, rfl, rfl, by decide +kernel, rfl, by decide +kernel, by decide +kernel⟩
theorem ok_Lone {f : Addr} {fd : FuncData} {fL_draw : Addr} {dL_draw : FuncData} (F : Fun K "_law_one" "_law_one" sLone f fd) (T : Ty K mg CB CM CP CK CW CF CH CC CI CS)
    (L_draw : CalF P w K mg base 1 "_law_draw" ["_law_well_here", "_law_many"] (spDraw) fL_draw dL_draw) : FnOk P w K mg base CX0 2 f fd ["_law_well_here", "_law_some"] (spOne) := by
  refine F.ok scLone (fun vs H Q E h => by obtain ⟨_, _, _, _, rfl, _⟩ := h; rfl) (fun cdv A outer s H vs Q E hr h => ?_)
  have hu := hu_of hr
  have z_len := T.z_len
  obtain ⟨l, a, xs, n, rfl, hw, hn, na, ha, hx, hx2, q⟩ := h
  refine ⟨_, (pss_one (ps_ret (pe_ix ix_list (pv 1) (pe_call L_draw.G (hr.mono (by decide)) (by rfl) L_draw.g L_draw.kp L_draw.b .nil pass0 (pa_cons (pv 0) (pa_cons (pe_callB call_len_seq (by rfl) z_len PySem.boot_len (pa_cons (pv 1) pa_nil)) pa_nil))) (fun _ _ => rfl)))), ?_⟩
  refine ⟨_, rfl, _, rfl, _, rfl, a, _, rfl, .inl (SqL.of ha), l, _, n, rfl, hw, hn, ?_, ?_, fun H' d k hw' d0 d1 => ?_⟩
  · have : 0 < xs.length := List.length_pos_iff.mpr hx
    omega
  · omega
  have hd : d.toNat < xs.length := by omega
  have ea : atI xs d = some xs[d.toNat] := by
    have h := atI_nat (xs := xs) (List.getElem?_eq_getElem hd)
    rwa [show ((d.toNat : Nat) : Int) = d by omega] at h
  exact ⟨a, _, _, _, rfl, rfl, SqL.of (k _ _ na ha), ea, q _ _ k hw' (List.getElem_mem hd)⟩
end
end Bh

/-! The image and the line that these laws draw. -/
namespace Bh
open PySem PySem.Spec PyProof.Rows L2
theorem dep_ints : ∀ ns : List Int, PyData.depthAll (ns.map PyData.int) ≤ 1
  | [] => by decide
  | n :: r => by
    have ih := dep_ints r
    show max (PyData.depth (.int n)) (PyData.depthAll (r.map PyData.int)) ≤ 1
    exact Nat.max_le.mpr ⟨Nat.zero_le _, ih⟩
theorem dp_ints {K : PySem.W.Frag} {H : Hp} : ∀ ns : List Int, DpAll K H (ns.map V.int) (ns.map PyData.int)
  | [] => .nil
  | n :: r => .cons (.int n) (dp_ints r)
theorem shaped_ints (ns : List Int) : SeqAt.shaped (.list (ns.map PyData.int)) = true := by
  show (PyData.canLayAll0 (ns.map PyData.int) && decide (PyData.depthAll (ns.map PyData.int) + 1 ≤ 64)) = true
  rw [can_ints, decide_eq_true (by have := dep_ints ns; omega)]
  rfl
theorem cut_mem (ns : List Int) (lo hi : Option Int) : ∃ ms : List Int, cutV (ns.map V.int) lo hi = ms.map V.int ∧ ms.length ≤ ns.length ∧ ∀ z ∈ ms, z ∈ ns := by
  unfold cutV
  rw [← List.map_drop, ← List.map_take]
  refine ⟨_, rfl, ?_, fun z h => List.mem_of_mem_drop (List.mem_of_mem_take h)⟩
  rw [List.length_take, List.length_drop]
  omega
theorem joinZ {Goal : Prop} {I : Hp → Int → Prop} (R : Hp → Int → Prop) (body : (∀ G' z, I G' z → R G' z) → Goal) (key : ∀ G' z, I G' z → R G' z) : Goal := body key
theorem well_ne {H : Hp} {l a : Addr} {n : Nat} (h : WellAt H l n) (e : H a = none) : a ≠ l := by
  obtain ⟨u, v, t, q, _⟩ := h
  exact (ne_of_none q e).symm
theorem nil_eqv : PyData.eqv (.list (([] : List Int).map PyData.int)) (.list []) = true := SeqAt.eqv_refl (.list []) rfl
theorem wok_app {a b : List Int} (h1 : WordsOk a) (h2 : WordsOk b) : WordsOk (a ++ b) := fun z hz => by
  rcases List.mem_append.mp hz with h | h
  · exact h1 z h
  · exact h2 z h
theorem wok_one {z : Int} (h : 0 ≤ z ∧ z ≤ 65535) : WordsOk [z] := fun y hy => by
  rw [List.mem_singleton.mp hy]
  exact h
def lastF : Int → List (Int × Int) → Int
  | n, [] => n
  | _, u :: us => lastF u.1 us
theorem riseF : ∀ {ls : List (Int × Int)} {n a v : Int}, riseM n ls → lastF n ls < a → 0 ≤ v → v ≤ 3 → riseM n (ls ++ [(a, v)])
  | [], n, a, v, _, h1, h2, h3 => ⟨h1, h2, h3, trivial⟩
  | u :: us, n, a, v, ⟨x, y, z, d⟩, h1, h2, h3 => ⟨x, y, z, riseF (ls := us) d h1 h2 h3⟩
theorem lastF_snoc : ∀ (ls : List (Int × Int)) (n : Int) (r : Int × Int), lastF n (ls ++ [r]) = r.1
  | [], _, _ => rfl
  | u :: us, _, r => lastF_snoc us u.1 r
theorem well_tup {H : Hp} {l t : Addr} {n : Nat} {xs : List V} (h : WellAt H l n) (e : H t = some (.tup xs)) : t ≠ l := by
  obtain ⟨u, v, w, q, _⟩ := h
  exact ne_of e q (by intro z; cases z)
def spDeeds : Sp := fun vs H Q _ => ∃ (wl st : Addr) (ss : List Int) (k many : Int) (n : Nat), vs = [.ref wl, .ref st, .int k, .int many] ∧ WellAt H wl n ∧ n < 900000000 ∧ st ≠ wl ∧ H st = some (.lst (ss.map V.int)) ∧ (∀ z ∈ ss, 0 ≤ z ∧ z ≤ 1000) ∧ ss.length ≤ 100 ∧ -1 ≤ k ∧ k ≤ 100 ∧ 0 < many ∧ many ≤ 20 ∧
  ∀ (H' : Hp) (l : Addr) (ws : List Int), But wl H H' → WellAt H' wl (n + 200) → H l = none → H' l = some (.lst (ws.map V.int)) → (ws.length : Int) < many → WordsOk ws → Q (.ref l) H'
def spFil : Sp := fun vs H Q _ => ∃ (r : Addr) (m : Int) (ws : List Int), vs = [.ref r, .int m] ∧ H r = some (.lst (ws.map V.int)) ∧ (ws.length : Int) ≤ m ∧ m ≤ 600 ∧
  ∀ (H' : Hp) (l : Addr), Same H H' → H l = none → H' l = some (.lst ((ws ++ List.replicate (m - (ws.length : Int)).toNat 65535).map V.int)) → Q (.ref l) H'
def spImgF : Sp := fun vs H Q _ => ∃ (wl : Addr) (n : Nat), vs = [.ref wl] ∧ WellAt H wl n ∧ n < 800000000 ∧ ∀ (H' : Hp) (l : Addr) (ws : List Int), But wl H H' → WellAt H' wl (n + 10000) → H' l = some (.lst (ws.map V.int)) → 40 ≤ ws.length → ws.length ≤ 512 → WordsOk ws → Q (.ref l) H'
def spLinF : Sp := fun vs H Q _ => ∃ (wl : Addr) (n : Nat), vs = [.ref wl] ∧ WellAt H wl n ∧ n < 800000000 ∧ ∀ (H' : Hp) (l : Addr) (us : List V) (ls : List (Int × Int)), But wl H H' → WellAt H' wl (n + 100) → H l = none → H' l = some (.lst us) → TupsAt H' us ls → riseM 0 ls → ls.length ≤ 10 → Q (.ref l) H'
section
variable {P : Program} {w : World} {K : PySem.W.Frag} {mg : Str → Option Value} {base : Heap} {CB CM CP CK CW CF CH CC CI CS CO CQ : Addr}
abbrev sLdeeds : Stmt := topS 117
def scLdeedsN : List Str := ["_law_well_here", "_law_starts", "_law_k", "_law_many", "_law_found", "_law_j", "_law_way", "_law_spot", "_law_word"]
theorem scLdeeds : FnScope scLdeedsN ["_law_well_here", "_law_starts", "_law_k", "_law_many"] (defScope sLdeeds) := ⟨rfl, rfl, rfl, by decide +kernel, rfl, by decide +kernel, by decide +kernel⟩
theorem ok_Ldeeds {f : Addr} {fd : FuncData} {fL_draw : Addr} {dL_draw : FuncData} {fL_one : Addr} {dL_one : FuncData} (F : Fun K "_law_deeds" "_law_deeds" sLdeeds f fd) (T : Ty K mg CB CM CP CK CW CF CH CC CI CS)
    (L_draw : CalF P w K mg base 1 "_law_draw" ["_law_well_here", "_law_many"] (spDraw) fL_draw dL_draw)
    (L_one : CalF P w K mg base 2 "_law_one" ["_law_well_here", "_law_some"] (spOne) fL_one dL_one) : FnOk P w K mg base CX0 3 f fd ["_law_well_here", "_law_starts", "_law_k", "_law_many"] (spDeeds) := by
  refine F.ok scLdeeds (fun vs H Q E h => by obtain ⟨_, _, _, _, _, _, rfl, _⟩ := h; rfl) (fun cdv A outer s H vs Q E hr h => ?_)
  have hu := hu_of hr
  have z_range := T.z_range
  obtain ⟨wl, st, ss, k, many, n, rfl, hw, hn, nst, hst, hss, hsl, k0, k1_, m0, m1, q⟩ := h
  have hu64 := hr.units
  refine ⟨_, (pss_cons (ps_set (i := 4) scLdeeds.nd rfl (.inl rfl) (pe_lst pa_nil))
    (pss_cons (ps_for PassesOwn.never rfl (pi_range1 (by rfl) z_range (pa_cons (pe_call L_draw.G (hr.mono (by decide)) (by rfl) L_draw.g L_draw.kp L_draw.b .nil pass0 (pa_cons (pv 0) (pa_cons (pv 3) pa_nil))) pa_nil)) (pg_name (i := 5) scLdeeds.nd rfl (.inl rfl))
      (pss_cons (ps_set (i := 6) scLdeeds.nd rfl (.inl rfl) (pe_call L_draw.G (hr.mono (by decide)) (by rfl) L_draw.g L_draw.kp L_draw.b .nil pass0 (pa_cons (pv 0) (pa_cons pe_int pa_nil))))
    (pss_cons (ps_set (i := 7) scLdeeds.nd rfl (.inl rfl) (pe_op op_add pe_int (pe_call L_draw.G (hr.mono (by decide)) (by rfl) L_draw.g L_draw.kp L_draw.b .nil pass0 (pa_cons (pv 0) (pa_cons pe_int pa_nil)))))
    (pss_cons (ps_set (i := 8) scLdeeds.nd rfl (.inl rfl) (pe_call L_one.G (hr.mono (by decide)) (by rfl) L_one.g L_one.kp L_one.b .nil pass0 (pa_cons (pv 0) (pa_cons (pe_lst (pa_cons (pe_op op_add pe_int (pe_call L_draw.G (hr.mono (by decide)) (by rfl) L_draw.g L_draw.kp L_draw.b .nil pass0 (pa_cons (pv 0) (pa_cons pe_int pa_nil)))) (pa_cons (pe_op op_mul pe_int pe_int) (pa_cons (pe_op op_mul pe_int pe_int) (pa_cons (pe_op op_mul pe_int pe_int) (pa_cons (pe_op op_add pe_int (pv 7)) (pa_cons (pe_op op_add pe_int (pv 7)) pa_nil))))))) pa_nil))))
    (pss_cons (ps_if (PW.pt (pw_and (pt_cmpR op_lt (pv 6) pe_int (nomark _)) (pw_and1 (pt_cmpR (op_neD hu64) (pe_slice sl_list (pv 1) (po_some (pe_op op_add (pv 2) pe_int)) po_none) (pe_lst pa_nil) (nomark _))))) (pss_one (ps_set (i := 8) scLdeeds.nd rfl (.inl rfl) (pe_op op_add (pe_op op_mul pe_int pe_int) (pe_call L_one.G (hr.mono (by decide)) (by rfl) L_one.g L_one.kp L_one.b .nil pass0 (pa_cons (pv 0) (pa_cons (pe_slice sl_list (pv 1) (po_some (pe_op op_add (pv 2) pe_int)) po_none) pa_nil)))))) pss_nil)
    (pss_cons (ps_if (PW.pt (pw_and (pt_cmpR op_eq (pv 6) pe_int (nomark _)) (pw_and1 (pt_cmpR (op_neD hu64) (pv 1) (pe_lst pa_nil) (nomark _))))) (pss_one (ps_set (i := 8) scLdeeds.nd rfl (.inl rfl) (pe_op op_add (pe_op op_mul pe_int pe_int) (pe_call L_one.G (hr.mono (by decide)) (by rfl) L_one.g L_one.kp L_one.b .nil pass0 (pa_cons (pv 0) (pa_cons (pv 1) pa_nil)))))) pss_nil)
    (pss_cons (ps_if (PW.pt (pw_and (pt_cmpR op_gt (pv 6) pe_int (nomark _)) (pw_and1 (pt_cmpR op_lt (pv 6) pe_int (nomark _))))) (pss_one (ps_set (i := 8) scLdeeds.nd rfl (.inl rfl) (pe_op op_mul pe_int (pe_ix ix_list (pe_lst (pa_cons (pe_op op_add pe_int (pe_op op_mul pe_int (pe_call L_draw.G (hr.mono (by decide)) (by rfl) L_draw.g L_draw.kp L_draw.b .nil pass0 (pa_cons (pv 0) (pa_cons pe_int pa_nil))))) (pa_cons pe_int (pa_cons pe_int (pa_cons pe_int pa_nil))))) (pe_op op_sub (pv 6) pe_int) (fun _ _ => rfl))))) pss_nil)
    (pss_one (ps_expr (pe_bm PySem.F.plainAttrs_list PySem.F.slot_list_append PySem.F.type_list_append mt_append (pv 4) (pa_cons (pv 8) pa_nil)))))))))))
    (pss_one (ps_ret (pv 4))))), ?_⟩
  have hsk : ∀ {G : Hp}, But wl H G → G st = some (.lst (ss.map V.int)) := fun h => h _ _ nst hst
  refine ⟨Nat.zero_le _, fun fl nfl => ?_⟩
  have lf : fl ≠ wl := well_ne hw nfl
  have r0 := same_upd' (o := .lst []) nfl
  have hf : upd H fl (.lst []) fl = some (.lst (([] : List Int).map V.int)) := upd_same
  have hw := hw.same r0
  have hb : But wl H (upd H fl (.lst [])) := But.of r0
  generalize upd H fl (.lst []) = G0 at *
  refine ⟨_, rfl, _, rfl, wl, many, n, rfl, hw, by omega, m0, by omega, fun G1 d1 k1 hw d10 d11 => ?_⟩
  have hb := hb.trans k1
  have hf := k1 _ _ lf hf
  refine ⟨d1, rfl, by omega, by omega, ?_⟩
  refine for_range (lo := 0) (n := d1.toNat) (fun i σ H' => ∃ (y5 y6 y7 y8 : Option V) (ws : List Int), σ = [some (.ref wl), some (.ref st), some (.int k), some (.int many), some (.ref fl), y5, y6, y7, y8] ∧ But wl H H' ∧ WellAt H' wl (n + 1 + 7 * i) ∧ H' fl = some (.lst (ws.map V.int)) ∧ ws.length = i ∧ WordsOk ws) ⟨none, none, none, none, [], rfl, hb, hw, hf, rfl, fun z h => by cases h⟩ ?_ ?_
  · rintro i σ H1 hi ⟨y5, y6, y7, y8, ws, rfl, hb, hw, hf, hlen, hok⟩
    have hi : (i : Int) < d1 := by omega
    refine ⟨_, rfl, wl, 16, n + 1 + 7 * i + 0, rfl, hw, by omega, by decide, by decide, fun G2 d2 k2 hw d20 d21 => ?_⟩
    have hb := hb.trans k2
    have hf := k2 _ _ lf hf
    refine ⟨_, rfl, wl, 5, n + 1 + 7 * i + 1, rfl, hw, by omega, by decide, by decide, fun G3 d3 k3 hw d30 d31 => ?_⟩
    have hb := hb.trans k3
    have hf := k3 _ _ lf hf
    refine ⟨_, _, rfl, rfl, ?_⟩
    obtain ⟨sp_, esp⟩ : ∃ sp_ : Int, 600 + d3 = sp_ := ⟨_, rfl⟩
    show gName 7 (V.int (600 + d3)) _ _ _
    rw [esp]
    refine ⟨_, rfl, ?_⟩
    refine ⟨_, rfl, wl, 9, n + 1 + 7 * i + 2, rfl, hw, by omega, by decide, by decide, fun G4 d4 k4 hw d40 d41 => ?_⟩
    have hb := hb.trans k4
    have hf := k4 _ _ lf hf
    refine ⟨_, _, rfl, rfl, _, _, rfl, rfl, .inl ⟨by decide, by decide⟩, _, _, rfl, rfl, .inl ⟨by decide, by decide⟩, _, _, rfl, rfl, .inl ⟨by decide, by decide⟩, _, rfl, _, _, rfl, rfl, _, rfl, _, _, rfl, rfl, (by show 6 ≤ sizeLine; decide), fun a5 n5 => ?_⟩
    have z5 : a5 ≠ wl := well_ne hw n5
    have r5 := same_upd' (o := .lst [V.int (1024 + d4), V.int (1024 * 10), V.int (1024 * 11), V.int (1024 * 22), V.int (3072 + sp_), V.int (2048 + sp_)]) n5
    have h5 : upd G4 a5 (.lst [V.int (1024 + d4), V.int (1024 * 10), V.int (1024 * 11), V.int (1024 * 22), V.int (3072 + sp_), V.int (2048 + sp_)]) a5 = some (.lst [V.int (1024 + d4), V.int (1024 * 10), V.int (1024 * 11), V.int (1024 * 22), V.int (3072 + sp_), V.int (2048 + sp_)]) := upd_same
    have hw := hw.same r5
    have hb := hb.trans (But.of r5)
    have hf := r5 _ _ hf
    generalize upd G4 a5 (.lst [V.int (1024 + d4), V.int (1024 * 10), V.int (1024 * 11), V.int (1024 * 22), V.int (3072 + sp_), V.int (2048 + sp_)]) = G5 at *
    refine ⟨wl, a5, _, n + 1 + 7 * i + 3, rfl, hw, by omega, z5, h5, List.cons_ne_nil _ _, (show 6 ≤ 1000 by decide), fun G6 v6 k6 hw m6 => ?_⟩
    have hb := hb.trans k6
    have hf := k6 _ _ lf hf
    obtain ⟨x1, rfl, x10, x11⟩ : ∃ x1 : Int, v6 = .int x1 ∧ 0 ≤ x1 ∧ x1 ≤ 65535 := by
      simp only [List.mem_cons, List.not_mem_nil, or_false] at m6
      rcases m6 with rfl | rfl | rfl | rfl | rfl | rfl
      · exact ⟨_, rfl, by omega, by omega⟩
      · exact ⟨_, rfl, by omega, by omega⟩
      · exact ⟨_, rfl, by omega, by omega⟩
      · exact ⟨_, rfl, by omega, by omega⟩
      · exact ⟨_, rfl, by omega, by omega⟩
      · exact ⟨_, rfl, by omega, by omega⟩
    clear h5 m6
    apply joinZ (I := fun G z => But wl H G ∧ WellAt G wl (n + 1 + 7 * i + 5) ∧ G fl = some (.lst (ws.map V.int)) ∧ 0 ≤ z ∧ z ≤ 65535)
    case body =>
      intro kk
      refine ⟨_, rfl, _, _, rfl, rfl, _, rfl, ifB (fun _ => ?_) (fun _ => ?_)⟩
      · obtain ⟨ms, ems, lms, hms⟩ := cut_mem ss (some (k + 1)) none
        refine ⟨_, rfl, _, rfl, _, _, rfl, rfl, _, rfl, st, _, rfl, SqL.of (hsk hb), fun a7 n7 => ?_⟩
        rw [ems]
        have z7 : a7 ≠ wl := well_ne hw n7
        have r7 := same_upd' (o := .lst (ms.map V.int)) n7
        have h7 : upd G6 a7 (.lst (ms.map V.int)) a7 = some (.lst (ms.map V.int)) := upd_same
        have hw := hw.same r7
        have hb := hb.trans (But.of r7)
        have hf := r7 _ _ hf
        generalize upd G6 a7 (.lst (ms.map V.int)) = G7 at *
        refine ⟨Nat.zero_le _, fun a8 n8 => ?_⟩
        have z8 : a8 ≠ wl := well_ne hw n8
        have r8 := same_upd' (o := .lst []) n8
        have h8 : upd G7 a8 (.lst []) a8 = some (.lst []) := upd_same
        have hw := hw.same r8
        have hb := hb.trans (But.of r8)
        have hf := r8 _ _ hf
        refine ⟨_, _, .lst (SqL.of (r8 _ _ h7)) (dp_ints ms), .lst (SqL.of h8) .nil, shaped_ints ms, shaped_ints [], _, rfl, ?_⟩
        clear h8
        generalize upd G7 a8 (.lst []) = G8 at *
        refine ifN (fun hq => ?_) (fun _ => ?_)
        · have hne : ms ≠ [] := fun z => by rw [z, nil_eqv] at hq; cases hq
          refine ⟨_, _, rfl, rfl, .inl ⟨by decide, by decide⟩, ?_⟩
          refine ⟨_, rfl, _, rfl, _, rfl, _, _, rfl, rfl, _, rfl, st, _, rfl, SqL.of (hsk hb), fun a9 n9 => ?_⟩
          rw [ems]
          have z9 : a9 ≠ wl := well_ne hw n9
          have r9 := same_upd' (o := .lst (ms.map V.int)) n9
          have h9 : upd G8 a9 (.lst (ms.map V.int)) a9 = some (.lst (ms.map V.int)) := upd_same
          have hw := hw.same r9
          have hb := hb.trans (But.of r9)
          have hf := r9 _ _ hf
          generalize upd G8 a9 (.lst (ms.map V.int)) = G9 at *
          refine ⟨wl, a9, _, n + 1 + 7 * i + 4, rfl, hw, by omega, z9, h9, (fun z => hne (List.map_eq_nil_iff.mp z)), (by rw [List.length_map]; omega), fun G10 v10 k10 hw m10 => ?_⟩
          have hb := hb.trans k10
          have hf := k10 _ _ lf hf
          obtain ⟨y, hy, rfl⟩ := List.mem_map.mp m10
          have hy := hss y (hms y hy)
          refine ⟨_, _, rfl, rfl, ?_⟩
          obtain ⟨x2, ex2⟩ : ∃ x2 : Int, 1024 * 15 + y = x2 := ⟨_, rfl⟩
          show gName 8 (V.int (1024 * 15 + y)) _ _ _
          rw [ex2]
          exact kk G10 x2 ⟨hb, hw.mono (by omega), hf, by omega, by omega⟩
        · exact kk G8 x1 ⟨hb, hw.mono (by omega), hf, x10, x11⟩
      · refine ifB (fun h => by cases h) (fun _ => ?_)
        exact kk G6 x1 ⟨hb, hw.mono (by omega), hf, x10, x11⟩
    rintro G11 x2 ⟨hb, hw, hf, x20, x21⟩
    apply joinZ (I := fun G z => But wl H G ∧ WellAt G wl (n + 1 + 7 * i + 6) ∧ G fl = some (.lst (ws.map V.int)) ∧ 0 ≤ z ∧ z ≤ 65535)
    case body =>
      intro kk
      refine ⟨_, rfl, rfl, _, rfl, ifB (fun _ => ?_) (fun _ => ?_)⟩
      · refine ⟨_, rfl, Nat.zero_le _, fun a8 n8 => ?_⟩
        have z8 : a8 ≠ wl := well_ne hw n8
        have r8 := same_upd' (o := .lst []) n8
        have h8 : upd G11 a8 (.lst []) a8 = some (.lst []) := upd_same
        have hw := hw.same r8
        have hb := hb.trans (But.of r8)
        have hf := r8 _ _ hf
        refine ⟨_, _, .lst (SqL.of (hsk hb)) (dp_ints ss), .lst (SqL.of h8) .nil, shaped_ints ss, shaped_ints [], _, rfl, ?_⟩
        clear h8
        generalize upd G11 a8 (.lst []) = G12 at *
        refine ifN (fun hq => ?_) (fun _ => ?_)
        · have hne : ss ≠ [] := fun z => by rw [z, nil_eqv] at hq; cases hq
          refine ⟨_, _, rfl, rfl, .inl ⟨by decide, by decide⟩, ?_⟩
          refine ⟨_, rfl, _, rfl, wl, st, _, n + 1 + 7 * i + 5, rfl, hw, by omega, nst, hsk hb, (fun z => hne (List.map_eq_nil_iff.mp z)), (by rw [List.length_map]; omega), fun G13 v13 k13 hw m13 => ?_⟩
          have hb := hb.trans k13
          have hf := k13 _ _ lf hf
          obtain ⟨y, hy, rfl⟩ := List.mem_map.mp m13
          have hy := hss y hy
          refine ⟨_, _, rfl, rfl, ?_⟩
          obtain ⟨x3, ex3⟩ : ∃ x3 : Int, 1024 * 15 + y = x3 := ⟨_, rfl⟩
          show gName 8 (V.int (1024 * 15 + y)) _ _ _
          rw [ex3]
          exact kk G13 x3 ⟨hb, hw, hf, by omega, by omega⟩
        · exact kk G12 x2 ⟨hb, hw.mono (by omega), hf, x20, x21⟩
      · refine ifB (fun h => by cases h) (fun _ => ?_)
        exact kk G11 x2 ⟨hb, hw.mono (by omega), hf, x20, x21⟩
    rintro G14 x3 ⟨hb, hw, hf, x30, x31⟩
    apply joinZ (I := fun G z => But wl H G ∧ WellAt G wl (n + 1 + 7 * i + 7) ∧ G fl = some (.lst (ws.map V.int)) ∧ 0 ≤ z ∧ z ≤ 65535)
    case body =>
      intro kk
      refine ⟨_, rfl, _, _, rfl, rfl, _, rfl, ifB (fun hq1 => ?_) (fun _ => ?_)⟩
      · refine ⟨_, rfl, _, _, rfl, rfl, _, rfl, ifB (fun hq2 => ?_) (fun _ => ?_)⟩
        · have hq1 := of_decide_eq_true hq1
          have hq2 := of_decide_eq_true hq2
          refine ⟨_, rfl, wl, 2, n + 1 + 7 * i + 6, rfl, hw, by omega, by decide, by decide, fun G15 d15 k15 hw d150 d151 => ?_⟩
          have hb := hb.trans k15
          have hf := k15 _ _ lf hf
          refine ⟨_, _, rfl, rfl, .inl ⟨by decide, by decide⟩, _, _, rfl, rfl, (by show 4 ≤ sizeLine; decide), fun a16 n16 => ?_⟩
          have z16 : a16 ≠ wl := well_ne hw n16
          have r16 := same_upd' (o := .lst [V.int (16 + 5 * d15), V.int 19, V.int 17, V.int 18]) n16
          have h16 : upd G15 a16 (.lst [V.int (16 + 5 * d15), V.int 19, V.int 17, V.int 18]) a16 = some (.lst [V.int (16 + 5 * d15), V.int 19, V.int 17, V.int 18]) := upd_same
          have hw := hw.same r16
          have hb := hb.trans (But.of r16)
          have hf := r16 _ _ hf
          generalize upd G15 a16 (.lst [V.int (16 + 5 * d15), V.int 19, V.int 17, V.int 18]) = G16 at *
          obtain ⟨y, hy, hy0, hy1⟩ : ∃ y : Int, atI [V.int (16 + 5 * d15), V.int 19, V.int 17, V.int 18] (d2 - 7) = some (.int y) ∧ 0 ≤ y ∧ y ≤ 25 := by
            have h4 : d2 = 7 ∨ d2 = 8 ∨ d2 = 9 ∨ d2 = 10 := by omega
            rcases h4 with e | e | e | e <;> rw [e]
            · exact ⟨_, rfl, by omega, by omega⟩
            · exact ⟨_, rfl, by decide, by decide⟩
            · exact ⟨_, rfl, by decide, by decide⟩
            · exact ⟨_, rfl, by decide, by decide⟩
          refine ⟨_, rfl, _, _, rfl, rfl, a16, _, _, _, rfl, rfl, SqL.of h16, hy, _, _, rfl, rfl, .inl ⟨by decide, by decide⟩, ?_⟩
          obtain ⟨x4, ex4⟩ : ∃ x4 : Int, 1024 * y = x4 := ⟨_, rfl⟩
          show gName 8 (V.int (1024 * y)) _ _ _
          rw [ex4]
          exact kk G16 x4 ⟨hb, hw, hf, by omega, by omega⟩
        · exact kk G14 x3 ⟨hb, hw.mono (by omega), hf, x30, x31⟩
      · refine ifB (fun h => by cases h) (fun _ => ?_)
        exact kk G14 x3 ⟨hb, hw.mono (by omega), hf, x30, x31⟩
    rintro G17 x4 ⟨hb, hw, hf, x40, x41⟩
    refine ⟨_, rfl, .inl ⟨rfl, _, SqL.of hf⟩, _, rfl, fl, _, _, rfl, rfl, hf, Nat.lt_of_le_of_lt (show (ws.map V.int).length ≤ 100 by rw [List.length_map]; omega) (by decide), ?_⟩
    refine ⟨_, _, _, _, ws ++ [x4], rfl, fun c o nc e => ?_, ?_, ?_, ?_, wok_app hok (wok_one ⟨x40, x41⟩)⟩
    · have e1 := hb c o nc e
      rw [upd_ne (ne_of_none e nfl)]
      exact e1
    · obtain ⟨u, v, t, e, t0, t1⟩ := hw
      exact ⟨u, v, t, by rw [upd_ne lf.symm]; exact e, t0, by omega⟩
    · rw [upd_same, List.map_append]
      rfl
    · rw [List.length_append, hlen]
      rfl
  rintro σ H1 ⟨y5, y6, y7, y8, ws, rfl, hb, hw, hf, hlen, hok⟩
  exact ⟨_, rfl, q H1 fl ws hb (hw.mono (by omega)) nfl hf (by omega) hok⟩
abbrev sLfil : Stmt := topS 118
def scLfilN : List Str := ["_law_row", "_law_many"]
theorem scLfil : FnScope scLfilN ["_law_row", "_law_many"] (defScope sLfil) := ⟨rfl, rfl, rfl, by decide +kernel, rfl, by decide +kernel, by decide +kernel⟩
theorem ok_Lfil {f : Addr} {fd : FuncData} (F : Fun K "_law_filled" "_law_filled" sLfil f fd) (T : Ty K mg CB CM CP CK CW CF CH CC CI CS) : FnOk P w K mg base CX0 1 f fd ["_law_row", "_law_many"] (spFil) := by
  refine F.ok scLfil (fun vs H Q E h => by obtain ⟨_, _, _, rfl, _⟩ := h; rfl) (fun cdv A outer s H vs Q E hr h => ?_)
  have hu := hu_of hr
  have z_len := T.z_len
  obtain ⟨r, m, ws, rfl, hrw, wm, m6, q⟩ := h
  refine ⟨_, (pss_one (ps_ret (pe_op op_cat (pv 0) (pe_op op_rep (pe_lst (pa_cons pe_int pa_nil)) (pe_op op_sub (pv 1) (pe_callB call_len_seq (by rfl) z_len PySem.boot_len (pa_cons (pv 0) pa_nil))))))), ?_⟩
  refine ⟨_, rfl, (by show 1 ≤ sizeLine; decide), fun a1 n1 => ?_⟩
  have r1 := same_upd' (o := .lst [V.int 65535]) n1
  have h1 : upd H a1 (.lst [V.int 65535]) a1 = some (.lst [V.int 65535]) := upd_same
  have hr1 := r1 _ _ hrw
  generalize upd H a1 (.lst [V.int 65535]) = G1 at *
  refine ⟨_, rfl, _, rfl, r, _, rfl, .inl (SqL.of hr1), _, _, rfl, rfl, ?_⟩
  rw [List.length_map]
  refine ⟨a1, _, _, rfl, rfl, h1, by omega, by omega, (by rw [List.length_singleton]; exact Nat.le_trans (show 1 * (m - (ws.length : Int)).toNat ≤ 600 by omega) (by decide)), fun a2 n2 => ?_⟩
  have er : (List.replicate (m - (ws.length : Int)).toNat [V.int 65535]).flatten = (List.replicate (m - (ws.length : Int)).toNat (65535 : Int)).map V.int := by
    rw [List.map_replicate]
    generalize (m - (ws.length : Int)).toNat = c
    induction c with
    | zero => rfl
    | succ c ih => rw [List.replicate_succ, List.flatten_cons, ih, List.replicate_succ]; rfl
  rw [er]
  have r2 := same_upd' (o := .lst ((List.replicate (m - (ws.length : Int)).toNat (65535 : Int)).map V.int)) n2
  have h2 : upd G1 a2 (.lst ((List.replicate (m - (ws.length : Int)).toNat (65535 : Int)).map V.int)) a2 = some (.lst ((List.replicate (m - (ws.length : Int)).toNat (65535 : Int)).map V.int)) := upd_same
  have hr2 := r2 _ _ hr1
  generalize upd G1 a2 (.lst ((List.replicate (m - (ws.length : Int)).toNat (65535 : Int)).map V.int)) = G2 at *
  refine ⟨r, a2, _, _, rfl, rfl, hr2, h2, (by rw [List.length_map, List.length_map, List.length_replicate]; exact Nat.le_trans (show ws.length + (m - (ws.length : Int)).toNat ≤ 600 by omega) (by decide)), fun a3 n3 => ?_⟩
  exact q _ a3 ((r1.trans r2).trans (same_upd' n3)) ((r1.trans r2).free n3) (by rw [upd_same, List.map_append])
abbrev sLlin : Stmt := topS 120
def scLlinN : List Str := ["_law_well_here", "_law_found", "_law_beat", "_law_k"]
theorem scLlin : FnScope scLlinN ["_law_well_here"] (defScope sLlin) := ⟨rfl, rfl, rfl, by decide +kernel, rfl, by decide +kernel, by decide +kernel⟩
theorem ok_Llin {f : Addr} {fd : FuncData} {fL_draw : Addr} {dL_draw : FuncData} (F : Fun K "_law_line" "_law_line" sLlin f fd) (T : Ty K mg CB CM CP CK CW CF CH CC CI CS)
    (L_draw : CalF P w K mg base 1 "_law_draw" ["_law_well_here", "_law_many"] (spDraw) fL_draw dL_draw) : FnOk P w K mg base CX0 2 f fd ["_law_well_here"] (spLinF) := by
  refine F.ok scLlin (fun vs H Q E h => by obtain ⟨_, _, rfl, _⟩ := h; rfl) (fun cdv A outer s H vs Q E hr h => ?_)
  have hu := hu_of hr
  have z_range := T.z_range
  obtain ⟨wl, n, rfl, hw, hn, q⟩ := h
  refine ⟨_, (pss_cons (ps_set (i := 1) scLlin.nd rfl (.inl rfl) (pe_lst pa_nil))
    (pss_cons (ps_set (i := 2) scLlin.nd rfl (.inl rfl) pe_int)
    (pss_cons (ps_for PassesOwn.never rfl (pi_range1 (by rfl) z_range (pa_cons (pe_call L_draw.G (hr.mono (by decide)) (by rfl) L_draw.g L_draw.kp L_draw.b .nil pass0 (pa_cons (pv 0) (pa_cons pe_int pa_nil))) pa_nil)) (pg_name (i := 3) scLlin.nd rfl (.inl rfl))
      (pss_cons (ps_set (i := 2) scLlin.nd rfl (.inl rfl) (pe_op op_add (pe_op op_add (pv 2) pe_int) (pe_call L_draw.G (hr.mono (by decide)) (by rfl) L_draw.g L_draw.kp L_draw.b .nil pass0 (pa_cons (pv 0) (pa_cons pe_int pa_nil)))))
    (pss_one (ps_expr (pe_bm PySem.F.plainAttrs_list PySem.F.slot_list_append PySem.F.type_list_append mt_append (pv 1) (pa_cons (pe_tup (pa_cons (pv 2) (pa_cons (pe_call L_draw.G (hr.mono (by decide)) (by rfl) L_draw.g L_draw.kp L_draw.b .nil pass0 (pa_cons (pv 0) (pa_cons pe_int pa_nil))) pa_nil))) pa_nil))))))
    (pss_one (ps_ret (pv 1)))))), ?_⟩
  refine ⟨Nat.zero_le _, fun fl nfl => ?_⟩
  have lf : fl ≠ wl := well_ne hw nfl
  have r0 := same_upd' (o := .lst []) nfl
  have hf : upd H fl (.lst []) fl = some (.lst []) := upd_same
  have hw := hw.same r0
  have hb : But wl H (upd H fl (.lst [])) := But.of r0
  generalize upd H fl (.lst []) = G0 at *
  refine ⟨_, rfl, wl, 7, n, rfl, hw, by omega, by decide, by decide, fun G1 d1 k1 hw d10 d11 => ?_⟩
  have hb := hb.trans k1
  have hf := k1 _ _ lf hf
  refine ⟨d1, rfl, by omega, by omega, ?_⟩
  refine for_range (lo := 0) (n := d1.toNat) (fun i σ H' => ∃ (bt : Int) (y3 : Option V) (us : List V) (ls : List (Int × Int)), σ = [some (.ref wl), some (.ref fl), some (.int bt), y3] ∧ But wl H H' ∧ WellAt H' wl (n + 1 + 2 * i) ∧ H' fl = some (.lst us) ∧ TupsAt H' us ls ∧ riseM 0 ls ∧ ls.length = i ∧ lastF 0 ls = bt) ⟨0, none, [], [], rfl, hb, hw, hf, .nil, trivial, rfl, rfl⟩ ?_ ?_
  · rintro i σ H1 hi ⟨bt, y3, us, ls, rfl, hb, hw, hf, ht, hr, hln, hbt⟩
    have hi : (i : Int) < d1 := by omega
    have hul := ht.len
    refine ⟨_, rfl, _, _, rfl, rfl, ?_⟩
    refine ⟨_, rfl, wl, 12, n + 1 + 2 * i, rfl, hw, by omega, by decide, by decide, fun G2 d2 k2 hw2 d20 d21 => ⟨_, _, rfl, rfl, ?_⟩⟩
    have hb := hb.trans k2
    have hf := k2 _ _ lf hf
    have ht := ht.mono fun t xs e => k2 t _ (well_tup hw e) e
    refine ⟨_, rfl, .inl ⟨rfl, _, SqL.of hf⟩, _, rfl, _, rfl, wl, 4, n + 1 + 2 * i + 1, rfl, hw2, by omega, by decide, by decide, fun G3 d3 k3 hw3 d30 d31 => ⟨(by show 2 ≤ sizeLine; decide), fun t nt => ?_⟩⟩
    have hb := hb.trans k3
    have hf := k3 _ _ lf hf
    have ht := ht.mono fun t xs e => k3 t _ (well_tup hw2 e) e
    have s4 := same_upd' (o := .tup [V.int (bt + 1 + d2), V.int d3]) nt
    have lt := (ne_of_none hf nt)
    refine ⟨fl, us, _, rfl, rfl, s4 _ _ hf, Nat.lt_of_le_of_lt (show us.length ≤ 7 by omega) (by decide), ?_⟩
    refine ⟨bt + 1 + d2, _, us ++ [.ref t], ls ++ [(bt + 1 + d2, d3)], rfl, fun c o nc e => ?_, ?_, upd_same, ?_, riseF (hr) (by rw [hbt]; omega) d30 (by omega), by rw [List.length_append, hln]; rfl, by rw [lastF_snoc]⟩
    · rw [upd_ne (ne_of_none e nfl)]
      exact s4 _ _ (hb c o nc e)
    · obtain ⟨u, v, t_, e, t0, t1⟩ := hw3
      exact ⟨u, v, t_, by rw [upd_ne lf.symm]; exact s4 _ _ e, t0, by omega⟩
    · refine TupsAt.snoc (t := t) (u := (bt + 1 + d2, d3)) (by rw [upd_ne lt.symm]; exact upd_same) (ht.mono fun t' xs e => ?_)
      rw [upd_ne (ne_of e hf (by intro z; cases z))]
      exact s4 _ _ e
  rintro σ H1 ⟨bt, y3, us, ls, rfl, hb, hw, hf, ht, hr, hln, hbt⟩
  exact ⟨_, rfl, q H1 fl us ls hb (hw.mono (by omega)) nfl hf ht hr (by omega)⟩
end
end Bh

/-! The image. -/
namespace Bh
open PySem PySem.Spec PyProof.Rows L2
theorem wok_fill {ws : List Int} {c : Nat} (h : WordsOk ws) : WordsOk (ws ++ List.replicate c 65535) := wok_app h (fun z hz => by
  rw [(List.mem_replicate.mp hz).2]
  decide)
theorem fill_len {ws : List Int} {m : Int} (h : (ws.length : Int) ≤ m) : ((ws ++ List.replicate (m - (ws.length : Int)).toNat (65535 : Int)).length : Int) = m := by
  rw [List.length_append, List.length_replicate]
  omega
theorem wok3 {a b c : Int} (h1 : 0 ≤ a ∧ a ≤ 65535) (h2 : 0 ≤ b ∧ b ≤ 65535) (h3 : 0 ≤ c ∧ c ≤ 65535) : WordsOk [a, b, c] := fun z hz => by
  simp only [List.mem_cons, List.not_mem_nil, or_false] at hz
  rcases hz with rfl | rfl | rfl
  · exact h1
  · exact h2
  · exact h3
theorem wok4 {a b c d : Int} (h1 : 0 ≤ a ∧ a ≤ 65535) (h2 : 0 ≤ b ∧ b ≤ 65535) (h3 : 0 ≤ c ∧ c ≤ 65535) (h4 : 0 ≤ d ∧ d ≤ 65535) : WordsOk [a, b, c, d] := fun z hz => by
  simp only [List.mem_cons, List.not_mem_nil, or_false] at hz
  rcases hz with rfl | rfl | rfl | rfl
  · exact h1
  · exact h2
  · exact h3
  · exact h4
section
variable {P : Program} {w : World} {K : PySem.W.Frag} {mg : Str → Option Value} {base : Heap} {CB CM CP CK CW CF CH CC CI CS CO CQ : Addr}
abbrev sLimg : Stmt := topS 119
def scLimgN : List Str := ["_law_well_here", "_law_starts", "_law_image_here", "_law_row", "_law_bit", "_law_k"]
theorem scLimg : FnScope scLimgN ["_law_well_here"] (defScope sLimg) := ⟨rfl, rfl, rfl, by decide +kernel, rfl, by decide +kernel, by decide +kernel⟩
theorem ok_Limg {f : Addr} {fd : FuncData} {fL_deeds : Addr} {dL_deeds : FuncData} {fL_draw : Addr} {dL_draw : FuncData} {fL_fil : Addr} {dL_fil : FuncData} (F : Fun K "_law_image" "_law_image" sLimg f fd) (T : Ty K mg CB CM CP CK CW CF CH CC CI CS)
    (L_deeds : CalF P w K mg base 3 "_law_deeds" ["_law_well_here", "_law_starts", "_law_k", "_law_many"] (spDeeds) fL_deeds dL_deeds)
    (L_draw : CalF P w K mg base 1 "_law_draw" ["_law_well_here", "_law_many"] (spDraw) fL_draw dL_draw)
    (L_fil : CalF P w K mg base 1 "_law_filled" ["_law_row", "_law_many"] (spFil) fL_fil dL_fil) : FnOk P w K mg base CX0 4 f fd ["_law_well_here"] (spImgF) := by
  refine F.ok scLimg (fun vs H Q E h => by obtain ⟨_, _, rfl, _⟩ := h; rfl) (fun cdv A outer s H vs Q E hr h => ?_)
  have hu := hu_of hr
  have z_len := T.z_len
  have z_range := T.z_range
  obtain ⟨wl, n, rfl, hw, hn, q⟩ := h
  refine ⟨_, (pss_cons (ps_setLc (i := 1) (own := [("_law_k", 5)]) (g := gName 5) (tt := tYes) (by rfl) scLimg.nd rfl rfl rfl (pi_range1 (by rfl) z_range (pa_cons (pe_call L_draw.G (hr.mono (by decide)) (by rfl) L_draw.g L_draw.kp L_draw.b .nil pass0 (pa_cons (pv 0) (pa_cons pe_int pa_nil))) pa_nil)) (blkOk_by (own := [("_law_k", 5)]) (N := scLimgN) (sc := defScope sLimg) (by decide +kernel)) (fun _ _ _ _ _ => (pg_name (i := 5) scLimg.nd rfl (.inl rfl))) (fun _ _ _ _ _ => pts_nil) (fun _ _ _ _ _ => (pe_op op_add pe_int (pe_op op_mul pe_int (pv 5)))))
    (pss_cons (ps_set (i := 2) scLimg.nd rfl (.inl rfl) (pe_call L_fil.G (hr.mono (by decide)) (by rfl) L_fil.g L_fil.kp L_fil.b .nil pass0 (pa_cons (pe_lst (pa_cons (pe_op op_add (pe_op op_mul pe_int pe_int) pe_int) (pa_cons (pe_op op_add (pe_op op_mul pe_int pe_int) pe_int) (pa_cons (pe_op op_add (pe_op op_mul pe_int pe_int) pe_int) pa_nil)))) (pa_cons pe_int pa_nil))))
    (pss_cons (ps_set (i := 3) scLimg.nd rfl (.inl rfl) (pe_lst (pa_cons (pe_op op_add (pe_op op_add pe_int pe_int) (pe_call L_draw.G (hr.mono (by decide)) (by rfl) L_draw.g L_draw.kp L_draw.b .nil pass0 (pa_cons (pv 0) (pa_cons pe_int pa_nil)))) (pa_cons (pe_op op_add pe_int pe_int) (pa_cons (pe_op op_add pe_int (pe_call L_draw.G (hr.mono (by decide)) (by rfl) L_draw.g L_draw.kp L_draw.b .nil pass0 (pa_cons (pv 0) (pa_cons pe_int pa_nil)))) (pa_cons (pe_op op_add pe_int pe_int) pa_nil))))))
    (pss_cons (ps_set (i := 3) scLimg.nd rfl (.inl rfl) (pe_op op_cat (pe_op op_cat (pv 3) (pe_lst (pa_cons (pe_op op_add (pe_op op_mul pe_int pe_int) (pe_call L_draw.G (hr.mono (by decide)) (by rfl) L_draw.g L_draw.kp L_draw.b .nil pass0 (pa_cons (pv 0) (pa_cons pe_int pa_nil)))) pa_nil))) (pe_call L_deeds.G (hr.mono (by decide)) (by rfl) L_deeds.g L_deeds.kp L_deeds.b .nil pass0 (pa_cons (pv 0) (pa_cons (pv 1) (pa_cons (pe_un un_neg pe_int) (pa_cons pe_int pa_nil)))))))
    (pss_cons (ps_set (i := 2) scLimg.nd rfl (.inl rfl) (pe_op op_cat (pv 2) (pe_call L_fil.G (hr.mono (by decide)) (by rfl) L_fil.g L_fil.kp L_fil.b .nil pass0 (pa_cons (pe_op op_cat (pv 3) (pe_lst (pa_cons (pe_op op_add (pe_op op_mul pe_int pe_int) pe_int) pa_nil))) (pa_cons pe_int pa_nil)))))
    (pss_cons (ps_for PassesOwn.never rfl (pi_tup (pe_tup (pa_cons pe_int (pa_cons pe_int pa_nil)))) (pg_name (i := 4) scLimg.nd rfl (.inl rfl))
      (pss_cons (ps_set (i := 3) scLimg.nd rfl (.inl rfl) (pe_op op_cat (pe_call L_deeds.G (hr.mono (by decide)) (by rfl) L_deeds.g L_deeds.kp L_deeds.b .nil pass0 (pa_cons (pv 0) (pa_cons (pv 1) (pa_cons (pe_un un_neg pe_int) (pa_cons pe_int pa_nil))))) (pe_lst (pa_cons (pe_op op_add pe_int (pv 4)) (pa_cons (pe_op op_add pe_int pe_int) (pa_cons (pe_op op_mul pe_int pe_int) pa_nil))))))
    (pss_one (ps_set (i := 2) scLimg.nd rfl (.inl rfl) (pe_op op_cat (pv 2) (pe_call L_fil.G (hr.mono (by decide)) (by rfl) L_fil.g L_fil.kp L_fil.b .nil pass0 (pa_cons (pv 3) (pa_cons pe_int pa_nil))))))))
    (pss_cons (ps_for PassesOwn.never rfl (pi_range1 (by rfl) z_range (pa_cons (pe_callB call_len_seq (by rfl) z_len PySem.boot_len (pa_cons (pv 1) pa_nil)) pa_nil)) (pg_name (i := 5) scLimg.nd rfl (.inl rfl))
      (pss_one (ps_set (i := 2) scLimg.nd rfl (.inl rfl) (pe_op op_cat (pv 2) (pe_call L_fil.G (hr.mono (by decide)) (by rfl) L_fil.g L_fil.kp L_fil.b .nil pass0 (pa_cons (pe_op op_cat (pe_call L_deeds.G (hr.mono (by decide)) (by rfl) L_deeds.g L_deeds.kp L_deeds.b .nil pass0 (pa_cons (pv 0) (pa_cons (pv 1) (pa_cons (pv 5) (pa_cons pe_int pa_nil))))) (pe_lst (pa_cons (pe_op op_mul pe_int pe_int) pa_nil))) (pa_cons pe_int pa_nil)))))))
    (pss_one (ps_ret (pv 2)))))))))), ?_⟩
  have hb : But wl H H := But.refl
  refine ⟨_, rfl, wl, 5, n, rfl, hw, by omega, by decide, by decide, fun G1 d1 k1 hw d10 d11 => ⟨d1, rfl, by omega, by omega, fun st nst => ?_⟩⟩
  have hb := hb.trans k1
  have zst : st ≠ wl := well_ne hw nst
  refine lc_range (lo := 0) (n := d1.toNat) (fun i H' => Same G1 H' ∧ H' st = some (.lst (((List.range i).map fun k : Nat => 40 + 12 * (0 + (k : Int))).map V.int))) ⟨same_upd' nst, upd_same⟩ ?_ ?_
  · rintro i H' hi ⟨sm, hD⟩
    refine ⟨rfl, _, rfl, _, _, rfl, rfl, .inl ⟨by decide, by decide⟩, _, _, rfl, rfl, ?_⟩
    refine ⟨_, hD, ?_, same_of sm nst, ?_⟩
    · rw [List.length_map, List.length_map, List.length_range]
      exact small1000 (by omega)
    · rw [upd_same, List.range_succ, List.map_append, List.map_append]
      rfl
  rintro G2 ⟨s2, hst⟩
  have hw := hw.same s2
  have hb := hb.trans (But.of s2)
  have hst : G2 st = some (.lst (((List.range d1.toNat).map fun k : Nat => 40 + 12 * (0 + (k : Int))).map V.int)) := hst
  obtain ⟨ss, ess⟩ : ∃ ss : List Int, (List.range d1.toNat).map (fun k : Nat => 40 + 12 * (0 + (k : Int))) = ss := ⟨_, rfl⟩
  rw [ess] at hst
  have lss : ss.length ≤ 4 := by
    rw [← ess, List.length_map, List.length_range]
    omega
  have hss : ∀ z ∈ ss, 0 ≤ z ∧ z ≤ 1000 := fun z hz => by
    rw [← ess] at hz
    obtain ⟨c, hc, rfl⟩ := List.mem_map.mp hz
    have := List.mem_range.mp hc
    omega
  clear ess s2 k1
  refine ⟨_, _, rfl, rfl, .inl ⟨by decide, by decide⟩, _, _, rfl, rfl, _, _, rfl, rfl, .inl ⟨by decide, by decide⟩, _, _, rfl, rfl, _, _, rfl, rfl, .inl ⟨by decide, by decide⟩, _, _, rfl, rfl, (by show 3 ≤ sizeLine; decide), fun a3 n3 => ?_⟩
  have eq3 : upd G2 a3 (.lst [V.int (1024 * 12 + 8), V.int (1024 * 12 + 24), V.int (1024 * 12 + 32)]) = upd G2 a3 (.lst (([1024 * 12 + 8, 1024 * 12 + 24, 1024 * 12 + 32] : List Int).map V.int)) := rfl
  rw [eq3]
  have z3 : a3 ≠ wl := well_ne hw n3
  have r3 := same_upd' (o := .lst (([1024 * 12 + 8, 1024 * 12 + 24, 1024 * 12 + 32] : List Int).map V.int)) n3
  have h3 : upd G2 a3 (.lst (([1024 * 12 + 8, 1024 * 12 + 24, 1024 * 12 + 32] : List Int).map V.int)) a3 = some (.lst (([1024 * 12 + 8, 1024 * 12 + 24, 1024 * 12 + 32] : List Int).map V.int)) := upd_same
  have hw := hw.same r3
  have hb := hb.trans (But.of r3)
  have hst := r3 _ _ hst
  generalize upd G2 a3 (.lst (([1024 * 12 + 8, 1024 * 12 + 24, 1024 * 12 + 32] : List Int).map V.int)) = G3 at *
  refine ⟨a3, 8, _, rfl, h3, by decide, by decide, fun G4 im s4 nim him => ?_⟩
  have zim : im ≠ wl := well_ne hw nim
  have hw := hw.same s4
  have hb := hb.trans (But.of s4)
  have hst := s4 _ _ hst
  obtain ⟨img, eimg⟩ : ∃ img : List Int, [1024 * 12 + 8, 1024 * 12 + 24, 1024 * 12 + 32] ++ List.replicate ((8 : Int) - (([1024 * 12 + 8, 1024 * 12 + 24, 1024 * 12 + 32] : List Int).length : Int)).toNat 65535 = img := ⟨_, rfl⟩
  rw [eimg] at him
  have limg : img.length = 8 := by rw [← eimg]; rfl
  have oimg : WordsOk img := by rw [← eimg]; exact wok_fill (wok3 (by decide) (by decide) (by decide))
  clear eimg h3 nim s4
  refine ⟨_, _, rfl, rfl, _, rfl, wl, 30, n + 1, rfl, hw, by omega, by decide, by decide, fun G5 d5 k5 hw d50 d51 => ⟨_, _, rfl, rfl, _, _, rfl, rfl, ?_⟩⟩
  have hb := hb.trans k5
  have hst := k5 _ _ zst hst
  have him := k5 _ _ zim him
  refine ⟨_, rfl, wl, 4, n + 2, rfl, hw, by omega, by decide, by decide, fun G6 d6 k6 hw d60 d61 => ⟨_, _, rfl, rfl, _, _, rfl, rfl, (by show 4 ≤ sizeLine; decide), fun a7 n7 => ?_⟩⟩
  have hb := hb.trans k6
  have hst := k6 _ _ zst hst
  have him := k6 _ _ zim him
  have eq7 : upd G6 a7 (.lst [V.int (1024 + 1 + d5), V.int (3072 + 769), V.int (1024 + d6), V.int (3072 + 771)]) = upd G6 a7 (.lst (([1024 + 1 + d5, 3072 + 769, 1024 + d6, 3072 + 771] : List Int).map V.int)) := rfl
  rw [eq7]
  have z7 : a7 ≠ wl := well_ne hw n7
  have r7 := same_upd' (o := .lst (([1024 + 1 + d5, 3072 + 769, 1024 + d6, 3072 + 771] : List Int).map V.int)) n7
  have h7 : upd G6 a7 (.lst (([1024 + 1 + d5, 3072 + 769, 1024 + d6, 3072 + 771] : List Int).map V.int)) a7 = some (.lst (([1024 + 1 + d5, 3072 + 769, 1024 + d6, 3072 + 771] : List Int).map V.int)) := upd_same
  have hw := hw.same r7
  have hb := hb.trans (But.of r7)
  have hst := r7 _ _ hst
  have him := r7 _ _ him
  generalize upd G6 a7 (.lst (([1024 + 1 + d5, 3072 + 769, 1024 + d6, 3072 + 771] : List Int).map V.int)) = G7 at *
  refine ⟨_, rfl, _, _, rfl, rfl, .inl ⟨by decide, by decide⟩, _, rfl, wl, 2, n + 3, rfl, hw, by omega, by decide, by decide, fun G8 d8 k8 hw d80 d81 => ⟨_, _, rfl, rfl, (by show 1 ≤ sizeLine; decide), fun a9 n9 => ?_⟩⟩
  have hb := hb.trans k8
  have hst := k8 _ _ zst hst
  have him := k8 _ _ zim him
  have h7 := k8 _ _ z7 h7
  have eq9 : upd G8 a9 (.lst [V.int (1024 * 20 + d8)]) = upd G8 a9 (.lst (([1024 * 20 + d8] : List Int).map V.int)) := rfl
  rw [eq9]
  have z9 : a9 ≠ wl := well_ne hw n9
  have r9 := same_upd' (o := .lst (([1024 * 20 + d8] : List Int).map V.int)) n9
  have h9 : upd G8 a9 (.lst (([1024 * 20 + d8] : List Int).map V.int)) a9 = some (.lst (([1024 * 20 + d8] : List Int).map V.int)) := upd_same
  have hw := hw.same r9
  have hb := hb.trans (But.of r9)
  have hst := r9 _ _ hst
  have him := r9 _ _ him
  have h7 := r9 _ _ h7
  generalize upd G8 a9 (.lst (([1024 * 20 + d8] : List Int).map V.int)) = G9 at *
  refine ⟨a7, a9, _, _, rfl, rfl, h7, h9, (by show 4 + 1 ≤ sizeLine; decide), fun a10 n10 => ?_⟩
  rw [← List.map_append]
  have z10 : a10 ≠ wl := well_ne hw n10
  have r10 := same_upd' (o := .lst (([1024 + 1 + d5, 3072 + 769, 1024 + d6, 3072 + 771] ++ [1024 * 20 + d8] : List Int).map V.int)) n10
  have h10 : upd G9 a10 (.lst (([1024 + 1 + d5, 3072 + 769, 1024 + d6, 3072 + 771] ++ [1024 * 20 + d8] : List Int).map V.int)) a10 = some (.lst (([1024 + 1 + d5, 3072 + 769, 1024 + d6, 3072 + 771] ++ [1024 * 20 + d8] : List Int).map V.int)) := upd_same
  have hw := hw.same r10
  have hb := hb.trans (But.of r10)
  have hst := r10 _ _ hst
  have him := r10 _ _ him
  generalize upd G9 a10 (.lst (([1024 + 1 + d5, 3072 + 769, 1024 + d6, 3072 + 771] ++ [1024 * 20 + d8] : List Int).map V.int)) = G10 at *
  refine ⟨_, rfl, _, rfl, _, rfl, wl, st, ss, -1, 9, n + 4, rfl, hw, by omega, zst, hst, hss, by omega, by omega, by omega, by omega, by omega, fun G11 a11 ws11 k11 hw n11 h11 l11 o11 => ?_⟩
  have hb := hb.trans k11
  have hst := k11 _ _ zst hst
  have him := k11 _ _ zim him
  have h10 := k11 _ _ z10 h10
  refine ⟨a10, a11, _, _, rfl, rfl, h10, h11, (by rw [List.length_map, List.length_map]; exact Nat.le_trans (show 5 + ws11.length ≤ 600 by omega) (by decide)), fun a12 n12 => ?_⟩
  rw [← List.map_append]
  have z12 : a12 ≠ wl := well_ne hw n12
  have r12 := same_upd' (o := .lst ((([1024 + 1 + d5, 3072 + 769, 1024 + d6, 3072 + 771] ++ [1024 * 20 + d8]) ++ ws11 : List Int).map V.int)) n12
  have h12 : upd G11 a12 (.lst ((([1024 + 1 + d5, 3072 + 769, 1024 + d6, 3072 + 771] ++ [1024 * 20 + d8]) ++ ws11 : List Int).map V.int)) a12 = some (.lst ((([1024 + 1 + d5, 3072 + 769, 1024 + d6, 3072 + 771] ++ [1024 * 20 + d8]) ++ ws11 : List Int).map V.int)) := upd_same
  have hw := hw.same r12
  have hb := hb.trans (But.of r12)
  have hst := r12 _ _ hst
  have him := r12 _ _ him
  generalize upd G11 a12 (.lst ((([1024 + 1 + d5, 3072 + 769, 1024 + d6, 3072 + 771] ++ [1024 * 20 + d8]) ++ ws11 : List Int).map V.int)) = G12 at *
  have o12 : WordsOk (([1024 + 1 + d5, 3072 + 769, 1024 + d6, 3072 + 771] ++ [1024 * 20 + d8]) ++ ws11) := wok_app (wok_app (wok4 ⟨by omega, by omega⟩ (by decide) ⟨by omega, by omega⟩ (by decide)) (wok_one ⟨by omega, by omega⟩)) o11
  have l12 : (([1024 + 1 + d5, 3072 + 769, 1024 + d6, 3072 + 771] ++ [1024 * 20 + d8]) ++ ws11).length ≤ 14 := by
    rw [List.length_append]
    show 5 + ws11.length ≤ 14
    omega
  generalize ([1024 + 1 + d5, 3072 + 769, 1024 + d6, 3072 + 771] ++ [1024 * 20 + d8]) ++ ws11 = ws12 at *
  clear h11 h10
  refine ⟨_, rfl, _, rfl, _, _, rfl, rfl, .inl ⟨by decide, by decide⟩, _, _, rfl, rfl, (by show 1 ≤ sizeLine; decide), fun a13 n13 => ?_⟩
  have eq13 : upd G12 a13 (.lst [V.int (1024 * 12 + 13)]) = upd G12 a13 (.lst (([1024 * 12 + 13] : List Int).map V.int)) := rfl
  rw [eq13]
  have z13 : a13 ≠ wl := well_ne hw n13
  have r13 := same_upd' (o := .lst (([1024 * 12 + 13] : List Int).map V.int)) n13
  have h13 : upd G12 a13 (.lst (([1024 * 12 + 13] : List Int).map V.int)) a13 = some (.lst (([1024 * 12 + 13] : List Int).map V.int)) := upd_same
  have hw := hw.same r13
  have hb := hb.trans (But.of r13)
  have hst := r13 _ _ hst
  have him := r13 _ _ him
  have h12 := r13 _ _ h12
  generalize upd G12 a13 (.lst (([1024 * 12 + 13] : List Int).map V.int)) = G13 at *
  refine ⟨a12, a13, _, _, rfl, rfl, h12, h13, (by rw [List.length_map, List.length_map]; exact Nat.le_trans (show ws12.length + 1 ≤ 600 by omega) (by decide)), fun a14 n14 => ?_⟩
  rw [← List.map_append]
  have z14 : a14 ≠ wl := well_ne hw n14
  have r14 := same_upd' (o := .lst ((ws12 ++ [1024 * 12 + 13] : List Int).map V.int)) n14
  have h14 : upd G13 a14 (.lst ((ws12 ++ [1024 * 12 + 13] : List Int).map V.int)) a14 = some (.lst ((ws12 ++ [1024 * 12 + 13] : List Int).map V.int)) := upd_same
  have hw := hw.same r14
  have hb := hb.trans (But.of r14)
  have hst := r14 _ _ hst
  have him := r14 _ _ him
  generalize upd G13 a14 (.lst ((ws12 ++ [1024 * 12 + 13] : List Int).map V.int)) = G14 at *
  have l14 : ((ws12 ++ [1024 * 12 + 13]).length : Int) ≤ 16 := by
    rw [List.length_append, List.length_singleton]
    omega
  refine ⟨a14, 16, _, rfl, h14, l14, by decide, fun G15 a15 s15 n15 h15 => ?_⟩
  have hw := hw.same s15
  have hb := hb.trans (But.of s15)
  have hst := s15 _ _ hst
  have him := s15 _ _ him
  have l15 := fill_len l14
  have o15 : WordsOk ((ws12 ++ [1024 * 12 + 13]) ++ List.replicate ((16 : Int) - ((ws12 ++ [1024 * 12 + 13]).length : Int)).toNat 65535) := wok_fill (wok_app o12 (wok_one (by decide)))
  generalize (ws12 ++ [1024 * 12 + 13]) ++ List.replicate ((16 : Int) - ((ws12 ++ [1024 * 12 + 13]).length : Int)).toNat 65535 = ws15 at *
  refine ⟨im, a15, _, _, rfl, rfl, him, h15, (by rw [List.length_map, List.length_map]; exact Nat.le_trans (show img.length + ws15.length ≤ 600 by omega) (by decide)), fun a16 n16 => ?_⟩
  rw [← List.map_append]
  have z16 : a16 ≠ wl := well_ne hw n16
  have r16 := same_upd' (o := .lst ((img ++ ws15 : List Int).map V.int)) n16
  have h16 : upd G15 a16 (.lst ((img ++ ws15 : List Int).map V.int)) a16 = some (.lst ((img ++ ws15 : List Int).map V.int)) := upd_same
  have hw := hw.same r16
  have hb := hb.trans (But.of r16)
  have hst := r16 _ _ hst
  generalize upd G15 a16 (.lst ((img ++ ws15 : List Int).map V.int)) = G16 at *
  have l16 : (img ++ ws15).length = 24 := by rw [List.length_append]; omega
  have o16 := wok_app oimg o15
  generalize img ++ ws15 = im16 at *
  clear him h15 h12 h13 h14 o12 o15 oimg o11
  refine ⟨(by show 2 ≤ sizeLine; decide), fun tp ntp => ?_⟩
  have rt := same_upd' (o := .tup [V.int 1, V.int 2]) ntp
  have htp : upd G16 tp (.tup [V.int 1, V.int 2]) tp = some (.tup [V.int 1, V.int 2]) := upd_same
  have hw := hw.same rt
  have hb := hb.trans (But.of rt)
  have hst := rt _ _ hst
  have h16 := rt _ _ h16
  generalize upd G16 tp (.tup [V.int 1, V.int 2]) = G17 at *
  refine ⟨tp, rfl, ⟨_, SqT.of htp⟩, ?_⟩
  refine for_tup (K := K) (a := tp) (xs := [V.int 1, V.int 2]) (fun i σ H' => ∃ (y3 y4 y5 : Option V) (im : Addr) (img : List Int), σ = [some (.ref wl), some (.ref st), some (.ref im), y3, y4, y5] ∧ But wl H H' ∧ WellAt H' wl (n + 300 + 300 * i) ∧ H' st = some (.lst (ss.map V.int)) ∧ H' tp = some (.tup [V.int 1, V.int 2]) ∧ H' im = some (.lst (img.map V.int)) ∧ img.length = 24 + 8 * i ∧ WordsOk img) ⟨_, _, _, a16, im16, rfl, hb, hw.mono (by omega), hst, htp, h16, l16, o16⟩ (fun i σ H' _ h => by obtain ⟨_, _, _, _, _, _, _, _, _, h, _⟩ := h; exact SqT.of h) ?_ ?_
  · rintro i v σ H1 hv ⟨y3, y4, y5, im, img, rfl, hb, hw, hst, htp, him, limg, oimg⟩
    have hi : i < 2 := (List.getElem?_eq_some_iff.mp hv).1
    obtain ⟨bt, rfl, b0, b1⟩ : ∃ bt : Int, v = .int bt ∧ 1 ≤ bt ∧ bt ≤ 2 := by
      have := List.mem_of_getElem? hv
      simp only [List.mem_cons, List.not_mem_nil, or_false] at this
      rcases this with rfl | rfl
      · exact ⟨1, rfl, by decide, by decide⟩
      · exact ⟨2, rfl, by decide, by decide⟩
    refine ⟨_, rfl, _, rfl, _, rfl, wl, st, ss, -1, 4, n + 300 + 300 * i, rfl, hw, by omega, zst, hst, hss, by omega, by omega, by omega, by omega, by omega, fun G20 a20 ws20 k20 hw n20 h20 l20 o20 => ?_⟩
    have tne := well_tup (H := H1) (t := tp) ‹WellAt H1 wl _› htp
    have htp := k20 _ _ tne htp
    have zim : im ≠ wl := fun z => by
      obtain ⟨u, v, t, e, _⟩ := ‹WellAt H1 wl _›
      rw [z] at him
      rw [him] at e
      have h := congrArg List.length (HO.lst.inj (Option.some.inj e))
      rw [List.length_map, limg] at h
      simp at h
      omega
    have hb := hb.trans k20
    have hst := k20 _ _ zst hst
    have him := k20 _ _ zim him
    refine ⟨_, rfl, _, _, rfl, rfl, _, _, rfl, rfl, _, _, rfl, rfl, .inl ⟨by decide, by decide⟩, (by show 3 ≤ sizeLine; decide), fun a21 n21 => ?_⟩
    have eq21 : upd G20 a21 (.lst [V.int (1024 + bt), V.int (3072 + 770), V.int (1024 * 21)]) = upd G20 a21 (.lst (([1024 + bt, 3072 + 770, 1024 * 21] : List Int).map V.int)) := rfl
    rw [eq21]
    have z21 : a21 ≠ wl := well_ne hw n21
    have r21 := same_upd' (o := .lst (([1024 + bt, 3072 + 770, 1024 * 21] : List Int).map V.int)) n21
    have h21 : upd G20 a21 (.lst (([1024 + bt, 3072 + 770, 1024 * 21] : List Int).map V.int)) a21 = some (.lst (([1024 + bt, 3072 + 770, 1024 * 21] : List Int).map V.int)) := upd_same
    have hw := hw.same r21
    have hb := hb.trans (But.of r21)
    have hst := r21 _ _ hst
    have him := r21 _ _ him
    have htp := r21 _ _ htp
    have h20 := r21 _ _ h20
    generalize upd G20 a21 (.lst (([1024 + bt, 3072 + 770, 1024 * 21] : List Int).map V.int)) = G21 at *
    refine ⟨a20, a21, _, _, rfl, rfl, h20, h21, (by rw [List.length_map, List.length_map]; exact Nat.le_trans (show ws20.length + 3 ≤ 600 by omega) (by decide)), fun a22 n22 => ?_⟩
    rw [← List.map_append]
    have z22 : a22 ≠ wl := well_ne hw n22
    have r22 := same_upd' (o := .lst ((ws20 ++ [1024 + bt, 3072 + 770, 1024 * 21] : List Int).map V.int)) n22
    have h22 : upd G21 a22 (.lst ((ws20 ++ [1024 + bt, 3072 + 770, 1024 * 21] : List Int).map V.int)) a22 = some (.lst ((ws20 ++ [1024 + bt, 3072 + 770, 1024 * 21] : List Int).map V.int)) := upd_same
    have hw := hw.same r22
    have hb := hb.trans (But.of r22)
    have hst := r22 _ _ hst
    have him := r22 _ _ him
    have htp := r22 _ _ htp
    generalize upd G21 a22 (.lst ((ws20 ++ [1024 + bt, 3072 + 770, 1024 * 21] : List Int).map V.int)) = G22 at *
    have l22 : ((ws20 ++ [1024 + bt, 3072 + 770, 1024 * 21]).length : Int) ≤ 8 := by
      rw [List.length_append]
      show ((ws20.length + 3 : Nat) : Int) ≤ 8
      omega
    refine ⟨_, rfl, _, rfl, a22, 8, _, rfl, h22, l22, by decide, fun G23 a23 s23 n23 h23 => ?_⟩
    have hw := hw.same s23
    have hb := hb.trans (But.of s23)
    have hst := s23 _ _ hst
    have htp := s23 _ _ htp
    have him := s23 _ _ him
    have l23 := fill_len l22
    have o23 : WordsOk ((ws20 ++ [1024 + bt, 3072 + 770, 1024 * 21]) ++ List.replicate ((8 : Int) - ((ws20 ++ [1024 + bt, 3072 + 770, 1024 * 21]).length : Int)).toNat 65535) := wok_fill (wok_app o20 (wok3 ⟨by omega, by omega⟩ (by decide) (by decide)))
    generalize (ws20 ++ [1024 + bt, 3072 + 770, 1024 * 21]) ++ List.replicate ((8 : Int) - ((ws20 ++ [1024 + bt, 3072 + 770, 1024 * 21]).length : Int)).toNat 65535 = ws23 at *
    refine ⟨im, a23, _, _, rfl, rfl, him, h23, (by rw [List.length_map, List.length_map]; exact Nat.le_trans (show img.length + ws23.length ≤ 600 by omega) (by decide)), fun a24 n24 => ?_⟩
    rw [← List.map_append]
    have z24 : a24 ≠ wl := well_ne hw n24
    have r24 := same_upd' (o := .lst ((img ++ ws23 : List Int).map V.int)) n24
    have h24 : upd G23 a24 (.lst ((img ++ ws23 : List Int).map V.int)) a24 = some (.lst ((img ++ ws23 : List Int).map V.int)) := upd_same
    have hw := hw.same r24
    have hb := hb.trans (But.of r24)
    have hst := r24 _ _ hst
    have htp := r24 _ _ htp
    generalize upd G23 a24 (.lst ((img ++ ws23 : List Int).map V.int)) = G24 at *
    exact ⟨_, _, _, a24, img ++ ws23, rfl, hb, hw.mono (by omega), hst, htp, h24, by rw [List.length_append]; omega, wok_app oimg o23⟩
  rintro σ H1 ⟨y3, y4, y5, im, img, rfl, hb, hw, hst, htp, him, limg, oimg⟩
  have limg : img.length = 40 := limg
  refine ⟨_, rfl, st, _, rfl, .inl (SqL.of hst), ?_⟩
  rw [List.length_map]
  refine ⟨(ss.length : Int), rfl, by omega, by omega, ?_⟩
  refine for_range (lo := 0) (n := ((ss.length : Int)).toNat) (fun i σ H' => ∃ (y3 y4 y5 : Option V) (im : Addr) (img : List Int), σ = [some (.ref wl), some (.ref st), some (.ref im), y3, y4, y5] ∧ But wl H H' ∧ WellAt H' wl (n + 1000 + 300 * i) ∧ H' st = some (.lst (ss.map V.int)) ∧ H' im = some (.lst (img.map V.int)) ∧ img.length = 40 + 12 * i ∧ WordsOk img) ⟨_, _, _, im, img, rfl, hb, hw.mono (by show n + 300 + 300 * 2 ≤ _; omega), hst, him, limg, oimg⟩ ?_ ?_
  · rintro i σ H2 hi ⟨y3, y4, y5, im, img, rfl, hb, hw, hst, him, limg, oimg⟩
    have hi : i < 4 := by omega
    have zim : im ≠ wl := fun z => by
      obtain ⟨u, v, t, e, _⟩ := hw
      rw [z] at him
      rw [him] at e
      have h := congrArg List.length (HO.lst.inj (Option.some.inj e))
      rw [List.length_map, limg] at h
      simp at h
      omega
    refine ⟨_, rfl, _, rfl, _, rfl, _, rfl, wl, st, ss, 0 + (i : Int), 10, n + 1000 + 300 * i, rfl, hw, by omega, zst, hst, hss, by omega, by omega, by omega, by omega, by omega, fun G30 a30 ws30 k30 hw n30 h30 l30 o30 => ?_⟩
    have hb := hb.trans k30
    have hst := k30 _ _ zst hst
    have him := k30 _ _ zim him
    refine ⟨_, _, rfl, rfl, .inl ⟨by decide, by decide⟩, (by show 1 ≤ sizeLine; decide), fun a31 n31 => ?_⟩
    have eq31 : upd G30 a31 (.lst [V.int (1024 * 16)]) = upd G30 a31 (.lst (([1024 * 16] : List Int).map V.int)) := rfl
    rw [eq31]
    have z31 : a31 ≠ wl := well_ne hw n31
    have r31 := same_upd' (o := .lst (([1024 * 16] : List Int).map V.int)) n31
    have h31 : upd G30 a31 (.lst (([1024 * 16] : List Int).map V.int)) a31 = some (.lst (([1024 * 16] : List Int).map V.int)) := upd_same
    have hw := hw.same r31
    have hb := hb.trans (But.of r31)
    have hst := r31 _ _ hst
    have him := r31 _ _ him
    have h30 := r31 _ _ h30
    generalize upd G30 a31 (.lst (([1024 * 16] : List Int).map V.int)) = G31 at *
    refine ⟨a30, a31, _, _, rfl, rfl, h30, h31, (by rw [List.length_map, List.length_map]; exact Nat.le_trans (show ws30.length + 1 ≤ 600 by omega) (by decide)), fun a32 n32 => ?_⟩
    rw [← List.map_append]
    have z32 : a32 ≠ wl := well_ne hw n32
    have r32 := same_upd' (o := .lst ((ws30 ++ [1024 * 16] : List Int).map V.int)) n32
    have h32 : upd G31 a32 (.lst ((ws30 ++ [1024 * 16] : List Int).map V.int)) a32 = some (.lst ((ws30 ++ [1024 * 16] : List Int).map V.int)) := upd_same
    have hw := hw.same r32
    have hb := hb.trans (But.of r32)
    have hst := r32 _ _ hst
    have him := r32 _ _ him
    generalize upd G31 a32 (.lst ((ws30 ++ [1024 * 16] : List Int).map V.int)) = G32 at *
    have l32 : ((ws30 ++ [1024 * 16]).length : Int) ≤ 12 := by
      rw [List.length_append, List.length_singleton]
      omega
    refine ⟨a32, 12, _, rfl, h32, l32, by decide, fun G33 a33 s33 n33 h33 => ?_⟩
    have hw := hw.same s33
    have hb := hb.trans (But.of s33)
    have hst := s33 _ _ hst
    have him := s33 _ _ him
    have l33 := fill_len l32
    have o33 : WordsOk ((ws30 ++ [1024 * 16]) ++ List.replicate ((12 : Int) - ((ws30 ++ [1024 * 16]).length : Int)).toNat 65535) := wok_fill (wok_app o30 (wok_one (by decide)))
    generalize (ws30 ++ [1024 * 16]) ++ List.replicate ((12 : Int) - ((ws30 ++ [1024 * 16]).length : Int)).toNat 65535 = ws33 at *
    refine ⟨im, a33, _, _, rfl, rfl, him, h33, (by rw [List.length_map, List.length_map]; exact Nat.le_trans (show img.length + ws33.length ≤ 600 by omega) (by decide)), fun a34 n34 => ?_⟩
    rw [← List.map_append]
    have z34 : a34 ≠ wl := well_ne hw n34
    have r34 := same_upd' (o := .lst ((img ++ ws33 : List Int).map V.int)) n34
    have h34 : upd G33 a34 (.lst ((img ++ ws33 : List Int).map V.int)) a34 = some (.lst ((img ++ ws33 : List Int).map V.int)) := upd_same
    have hw := hw.same r34
    have hb := hb.trans (But.of r34)
    have hst := r34 _ _ hst
    generalize upd G33 a34 (.lst ((img ++ ws33 : List Int).map V.int)) = G34 at *
    exact ⟨_, _, _, a34, img ++ ws33, rfl, hb, hw.mono (by omega), hst, h34, by rw [List.length_append]; omega, wok_app oimg o33⟩
  rintro σ H2 ⟨y3, y4, y5, im, img, rfl, hb, hw, hst, him, limg, oimg⟩
  exact ⟨_, rfl, q H2 im img hb (hw.mono (by omega)) him (by omega) (by omega) oimg⟩
end
end Bh

/-! What is told, as data. -/
namespace Bh
open PySem PySem.Spec PyProof.Rows L2
theorem tup_up {K : PySem.W.Frag} {H H' : Hp} {a : Addr} {xs : List V} (e : Same H H') (h : SqT K H a xs) : SqT K H' a xs := by
  rcases h with (h | ⟨o, h⟩) | h
  · exact .inl (.inl (e _ _ h))
  · exact .inl (.inr ⟨o, e _ _ h⟩)
  · exact .inr h
mutual
theorem dp_up {K : PySem.W.Frag} {H H' : Hp} (s : Same H H') : ∀ (d : PyData) (v : V), Dp K H v d → Dp K H' v d
  | .none, _, h => by cases h; exact .non
  | .bool b, _, h => by cases h; exact .bl b
  | .int i, _, h => by cases h; exact .int i
  | .str x, _, h => by cases h; exact .str x
  | .list ds, _, h => by
    cases h with
    | lst hs ha => exact .lst (s.seq hs) (dp_upAll s ds _ ha)
  | .tuple ds, _, h => by
    cases h with
    | tup hs ha => exact .tup (tup_up s hs) (dp_upAll s ds _ ha)
  | .dict _, _, h => by cases h
theorem dp_upAll {K : PySem.W.Frag} {H H' : Hp} (s : Same H H') : ∀ (ds : List PyData) (vs : List V), DpAll K H vs ds → DpAll K H' vs ds
  | [], _, h => by cases h; exact .nil
  | d :: ds, _, h => by
    cases h with
    | cons h1 h2 => exact .cons (dp_up s d _ h1) (dp_upAll s ds _ h2)
end
def t2D (u : Int × Int) : PyData := .tuple [.int u.1, .int u.2]
def t3D (u : Int × Int × Str) : PyData := .tuple [.int u.1, .int u.2.1, .str u.2.2]
def hsD (u : Int × Str × Int) : PyData := .tuple [.int u.1, .str u.2.1, .int u.2.2]
def stopD : Option (Str × List Int) → PyData
  | none => .none
  | some r => .tuple (.str r.1 :: r.2.map PyData.int)
def regsV (x : Bd) : List V := [.int x.a, .int x.b, .int x.pc, .int x.sp, .bl x.zero, .bl x.lets, .bl x.asleep, .int x.beat]
def regsD (x : Bd) : List PyData := [.int x.a, .int x.b, .int x.pc, .int x.sp, .bool x.zero, .bool x.lets, .bool x.asleep, .int x.beat]
theorem dp_snoc {K : PySem.W.Frag} {H : Hp} {v : V} {d : PyData} (hd : Dp K H v d) : ∀ {vs : List V} {ds : List PyData}, DpAll K H vs ds → DpAll K H (vs ++ [v]) (ds ++ [d])
  | _, [], h => by cases h; exact .cons hd .nil
  | _, _ :: _, h => by
    cases h with
    | cons h1 h2 => exact .cons h1 (dp_snoc hd h2)
theorem dp_regs {K : PySem.W.Frag} {H : Hp} (x : Bd) : DpAll K H (regsV x) (regsD x) := .cons (.int _) (.cons (.int _) (.cons (.int _) (.cons (.int _) (.cons (.bl _) (.cons (.bl _) (.cons (.bl _) (.cons (.int _) .nil)))))))
theorem dp_t2 {K : PySem.W.Frag} {H : Hp} : ∀ {us : List V} {ls : List (Int × Int)}, TupsAt H us ls → DpAll K H us (ls.map t2D)
  | _, _, .nil => .nil
  | _, _, .cons h r => by
    obtain ⟨t, rfl, e⟩ := h
    exact .cons (.tup (SqT.of e) (.cons (.int _) (.cons (.int _) .nil))) (dp_t2 r)
theorem dp_t3 {K : PySem.W.Frag} {H : Hp} : ∀ {us : List V} {ls : List (Int × Int × Str)}, T3At H us ls → DpAll K H us (ls.map t3D)
  | _, _, .nil => .nil
  | _, _, .cons h r => by
    obtain ⟨t, rfl, e⟩ := h
    exact .cons (.tup (SqT.of e) (.cons (.int _) (.cons (.int _) (.cons (.str _) .nil)))) (dp_t3 r)
theorem dp_hs {K : PySem.W.Frag} {H : Hp} : ∀ {us : List V} {ls : List (Int × Str × Int)}, HtAt H us ls → DpAll K H us (ls.map hsD)
  | _, _, .nil => .nil
  | _, _, .cons h r => by
    obtain ⟨t, rfl, e⟩ := h
    exact .cons (.tup (SqT.of e) (.cons (.int _) (.cons (.str _) (.cons (.int _) .nil)))) (dp_hs r)
theorem dp_stop {K : PySem.W.Frag} {H : Hp} {v : V} : ∀ {s : Option (Str × List Int)}, StopAt H v s → Dp K H v (stopD s)
  | none, h => by
    obtain rfl : v = .non := h
    exact .non
  | some r, h => by
    obtain ⟨q, rfl, e⟩ := h
    exact .tup (SqT.of e) (.cons (.str _) (dp_ints r.2))
theorem pl_ints : ∀ ns : List Int, PyData.plainAll (ns.map PyData.int) = true
  | [] => rfl
  | n :: r => by
    show (PyData.plain (.int n) && PyData.plainAll (r.map PyData.int)) = true
    rw [pl_ints r]
    rfl
theorem pl_t2 : ∀ l : List (Int × Int), PyData.plainAll (l.map t2D) = true
  | [] => rfl
  | u :: r => by
    show (PyData.plain (t2D u) && PyData.plainAll (r.map t2D)) = true
    rw [pl_t2 r]
    rfl
theorem pl_t3 : ∀ l : List (Int × Int × Str), PyData.plainAll (l.map t3D) = true
  | [] => rfl
  | u :: r => by
    show (PyData.plain (t3D u) && PyData.plainAll (r.map t3D)) = true
    rw [pl_t3 r]
    rfl
theorem pl_hs : ∀ l : List (Int × Str × Int), PyData.plainAll (l.map hsD) = true
  | [] => rfl
  | u :: r => by
    show (PyData.plain (hsD u) && PyData.plainAll (r.map hsD)) = true
    rw [pl_hs r]
    rfl
theorem pl_L {l : List PyData} (h : PyData.plainAll l = true) : PyData.plain (.list l) = true := h
theorem pl_cons {d : PyData} {l : List PyData} (h1 : PyData.plain d = true) (h2 : PyData.plainAll l = true) : PyData.plainAll (d :: l) = true := by
  show (PyData.plain d && PyData.plainAll l) = true
  rw [h1, h2]
  rfl
theorem dep_L {l : List PyData} (h : PyData.depthAll l ≤ 4) : PyData.depth (.list l) ≤ 5 := by
  show PyData.depthAll l + 1 ≤ 5
  omega
theorem dep_cons {d : PyData} {l : List PyData} (h1 : PyData.depth d ≤ 5) (h2 : PyData.depthAll l ≤ 5) : PyData.depthAll (d :: l) ≤ 5 := Nat.max_le.mpr ⟨h1, h2⟩
theorem dep_ints5 (ns : List Int) : PyData.depthAll (ns.map PyData.int) ≤ 4 := by
  have := dep_ints ns
  omega
/-- x != y, data with any texts -/
def rNeP (K : PySem.W.Frag) : R2 := fun x y H Q => ∃ d e, Dp K H x d ∧ Dp K H y e ∧ d.plain = true ∧ e.plain = true ∧ d.depth ≤ 60 ∧ Q (.bl (!PyData.eqv d e)) H
theorem op_neP {X : Cx} (hu : X.A.units + 64 < cLine) : OpR X (compareOp .NotEq) (rNeP X.K) := by
  intro pins s σ H x y v u Q I rx ry h
  obtain ⟨d, e, hd, he, pd, pe, dd, q⟩ := h
  obtain ⟨as, r1⟩ := Dp.reads I d x v hd rx
  obtain ⟨bs, r2⟩ := Dp.reads I e y u he ry
  refine PySem.SeqAt.ne_plain r1 r2 pd pe ?_ ⟨.bl _, H, I, rfl, q⟩
  omega
/-- x == y, data with any texts -/
def rEqP (K : PySem.W.Frag) : R2 := fun x y H Q => ∃ d e, Dp K H x d ∧ Dp K H y e ∧ d.plain = true ∧ e.plain = true ∧ d.depth ≤ 60 ∧ Q (.bl (PyData.eqv d e)) H
theorem op_eqP {X : Cx} (hu : X.A.units + 64 < cLine) : OpR X (compareOp .Eq) (rEqP X.K) := by
  intro pins s σ H x y v u Q I rx ry h
  obtain ⟨d, e, hd, he, pd, pe, dd, q⟩ := h
  obtain ⟨as, r1⟩ := Dp.reads I d x v hd rx
  obtain ⟨bs, r2⟩ := Dp.reads I e y u he ry
  refine PySem.SeqAt.eq_plain r1 r2 pd pe ?_ ⟨.bl _, H, I, rfl, q⟩
  omega
theorem dep_t2 : ∀ l : List (Int × Int), PyData.depthAll (l.map t2D) ≤ 4
  | [] => by decide
  | u :: r => by
    have ih := dep_t2 r
    show max (PyData.depth (t2D u)) (PyData.depthAll (r.map t2D)) ≤ 4
    exact Nat.max_le.mpr ⟨by show PyData.depthAll ([u.1, u.2].map PyData.int) + 1 ≤ 4; have := dep_ints [u.1, u.2]; omega, ih⟩
theorem dep_t3 : ∀ l : List (Int × Int × Str), PyData.depthAll (l.map t3D) ≤ 4
  | [] => by decide
  | u :: r => by
    have ih := dep_t3 r
    show max (PyData.depth (t3D u)) (PyData.depthAll (r.map t3D)) ≤ 4
    refine Nat.max_le.mpr ⟨?_, ih⟩
    show 0 + 1 ≤ 4
    decide
theorem dep_hs : ∀ l : List (Int × Str × Int), PyData.depthAll (l.map hsD) ≤ 4
  | [] => by decide
  | u :: r => by
    have ih := dep_hs r
    show max (PyData.depth (hsD u)) (PyData.depthAll (r.map hsD)) ≤ 4
    refine Nat.max_le.mpr ⟨?_, ih⟩
    show 0 + 1 ≤ 4
    decide
theorem pl_stop (s : Option (Str × List Int)) : PyData.plain (stopD s) = true := by
  cases s with
  | none => rfl
  | some r =>
    show (PyData.plain (.str r.1) && PyData.plainAll (r.2.map PyData.int)) = true
    rw [pl_ints]
    rfl
theorem dep_stop (s : Option (Str × List Int)) : PyData.depth (stopD s) ≤ 5 := by
  cases s with
  | none => exact Nat.zero_le _
  | some r =>
    have := dep_ints r.2
    show max (PyData.depth (.str r.1)) (PyData.depthAll (r.2.map PyData.int)) + 1 ≤ 5
    have : max (PyData.depth (.str r.1)) (PyData.depthAll (r.2.map PyData.int)) ≤ 1 := Nat.max_le.mpr ⟨Nat.zero_le _, this⟩
    omega
theorem PrA.ins {CB CM CP CK CW CF CH CC CI : Addr} {S H : Hp} {F : Addr → Prop} {p : Addr} {x : Pm} (A : PrA CB CM CP CK CW CF CH CC CI S H F p x) : ∃ dx bd st wa fr hi co mi sd g, H p = some (.ins CP dx (prF bd st wa fr hi co mi sd g .non)) := by
  obtain ⟨⟨a, T, D, m, s, rfl, C⟩, _⟩ := A
  exact ⟨_, _, _, _, _, _, _, _, _, _, C.hp⟩
theorem tk_snoc {α : Type} {l : List α} {v : α} {j : Nat} (h : l[j]? = some v) : l.take j ++ [v] = l.take (j + 1) := by
  rw [List.take_succ, h]
  rfl
def czD : Cz → PyData
  | .none => .tuple [.str "turns"]
  | .stop s => stopD (some s)
  | .done => .tuple [.str "done"]
theorem dp_rz {K : PySem.W.Frag} {H : Hp} {v : V} : ∀ {c : Cz}, RzAt H v c → Dp K H v (czD c)
  | .none, ⟨t, e, h⟩ => by rw [e]; exact .tup (SqT.of h) (.cons (.str _) .nil)
  | .done, ⟨t, e, h⟩ => by rw [e]; exact .tup (SqT.of h) (.cons (.str _) .nil)
  | .stop s, h => dp_stop (s := some s) h
theorem pl_cz (c : Cz) : PyData.plain (czD c) = true := by
  cases c with
  | none => rfl
  | done => rfl
  | stop s => exact pl_stop (some s)
theorem dep_cz (c : Cz) : PyData.depth (czD c) ≤ 5 := by
  cases c with
  | none => show 0 + 1 ≤ 5; decide
  | done => show 0 + 1 ≤ 5; decide
  | stop s => exact dep_stop (some s)
def goD (c : Cz) : PyData := .tuple [czD c, .list []]
theorem pl_go (c : Cz) : PyData.plain (goD c) = true := by
  show (PyData.plain (czD c) && (PyData.plain (.list []) && true)) = true
  rw [pl_cz]
  rfl
theorem dep_go (c : Cz) : PyData.depth (goD c) ≤ 60 := by
  have := dep_cz c
  show max (PyData.depth (czD c)) (max (PyData.depth (.list [])) 0) + 1 ≤ 60
  have h : max (PyData.depth (czD c)) (max (PyData.depth (.list [])) 0) ≤ 6 := Nat.max_le.mpr ⟨by omega, Nat.max_le.mpr ⟨by show 0 + 1 ≤ 6; decide, by decide⟩⟩
  omega
theorem But.fr {wl : Addr} {H H' : Hp} (b : But wl H H') : Fr (fun q => q = wl) H (fun q => q = wl) H' := ⟨fun c o n e => b c o n e, fun _ z => .inl z⟩
theorem rows_eqv (l : List (Int × Int × Str)) : PyData.eqv (.list (l.map t3D)) (.list []) = l.isEmpty := by
  cases l <;> rfl
theorem T3At.get {H : Hp} : ∀ {us : List V} {ls : List (Int × Int × Str)} {i : Nat} {v : V}, T3At H us ls → us[i]? = some v → ∃ q t, v = .ref q ∧ ls[i]? = some t ∧ H q = some (.tup [.int t.1, .int t.2.1, .str t.2.2])
  | _, _, 0, _, .cons h _, e => by
    obtain ⟨t, rfl, q⟩ := h
    obtain rfl := Option.some.inj e
    exact ⟨t, _, rfl, rfl, q⟩
  | _, _, i + 1, _, .cons _ r, e => T3At.get (i := i) r e
theorem cut_last (us : List V) (v : V) : cutV (us ++ [v]) none (some (-1)) = us := by
  have h1 : (us ++ [v]).length = us.length + 1 := by rw [List.length_append]; rfl
  have h2 : HT.sIx (us ++ [v]).length (us ++ [v]).length (some (-1)) = us.length := by
    rw [h1]
    unfold HT.sIx
    simp
    omega
  have h3 : HT.sIx (us ++ [v]).length 0 none = 0 := rfl
  unfold cutV
  rw [h2, h3, List.drop_zero, Nat.sub_zero]
  exact List.take_left' rfl
end Bh

/-! Steps into, one behind another, are a step over or out. -/
namespace Bh
open PySem PySem.Spec PyProof.Rows L2
theorem turn_stopped {x : Bd} (h : (turnM x).1 = "stopped") : ∃ s, (turnM x).2.stop = some s := by
  unfold turnM at h ⊢
  split
  · rename_i c
    cases e : x.stop with
    | none => exact absurd e c
    | some s => exact ⟨s, rfl⟩
  · rename_i c
    rw [if_neg c] at h
    split
    · rename_i c2
      rw [if_pos c2] at h
      exact absurd (show ("asleep" : Str) = "stopped" from h) (by decide +kernel)
    · rename_i c2
      rw [if_neg c2] at h
      split
      · rename_i c3
        rw [if_pos c3] at h
        unfold intM at h ⊢
        split
        · exact ⟨_, rfl⟩
        · rename_i c4
          rw [c4] at h
          exact absurd (show ("interrupt" : Str) = "stopped" from h) (by decide +kernel)
      · rename_i c3
        rw [if_neg c3] at h
        unfold deedM at h ⊢
        split
        · exact ⟨_, rfl⟩
        · rename_i c4
          rw [if_neg c4] at h
          split
          · exact ⟨_, rfl⟩
          · rename_i c5
            rw [if_neg c5] at h
            split
            · exact ⟨_, rfl⟩
            · rename_i c6
              rw [if_neg c6] at h
              split
              · exact ⟨_, rfl⟩
              · rename_i c7
                rw [c7] at h
                exact absurd (show ("deed" : Str) = "stopped" from h) (by decide +kernel)
theorem note_b (x : Pm) : (noteTM x).2.b = (turnM x.b).2 := by
  unfold noteTM
  show (if (turnM x.b).1 = "stopped" then { x with b := (turnM x.b).2, n := x.n + 1 } else passedM x).b = _
  split <;> rfl
theorem note_on {x : Pm} (h : (noteTM x).2.b.stop = none) : (noteTM x).2 = passedM x := by
  have hn : ¬ (turnM x.b).1 = "stopped" := fun z => by
    obtain ⟨s, e⟩ := turn_stopped z
    rw [note_b, e] at h
    cases h
  unfold noteTM
  exact if_neg hn
theorem hist_last (bt : Int) (so : Str) (pc : Int) (h : List (Int × Str × Int)) (f : Int) : ∃ l, (noteHR bt so pc h f).1 = l ++ [(bt, so, pc)] := by
  unfold noteHR
  split
  · cases h with
    | nil => rename_i c; exact absurd c (by decide)
    | cons a r => exact ⟨r, rfl⟩
  · exact ⟨h, rfl⟩
theorem HtAt.last {H : Hp} : ∀ {us : List V} {ls : List (Int × Str × Int)} {u : Int × Str × Int}, HtAt H us (ls ++ [u]) → ∃ us' t, us = us' ++ [.ref t] ∧ HtAt H us' ls ∧ H t = some (.tup [.int u.1, .str u.2.1, .int u.2.2])
  | _, [], _, .cons h .nil => by
    obtain ⟨t, rfl, q⟩ := h
    exact ⟨[], t, rfl, .nil, q⟩
  | _, _ :: _, _, .cons h r => by
    obtain ⟨us', t, rfl, a, b⟩ := HtAt.last r
    exact ⟨_ :: us', t, rfl, .cons h a, b⟩
def goN (n : Nat) (e : En) (z : Pm) : Cz × En × Pm := match z.b.stop with
  | some s => (.stop s, e, z)
  | none => runP n e z
theorem goN_of (n : Nat) (h : 0 < n) (e : En) (x : Pm) : goP (n : Int) e x = goN n e x := by
  unfold goP goN
  cases x.b.stop with
  | some s =>
    dsimp only
    rw [if_pos (by omega)]
  | none =>
    dsimp only
    rw [Int.toNat_natCast]
theorem goN_stop {n : Nat} {e : En} {z : Pm} {s : Str × List Int} (h : z.b.stop = some s) : goN n e z = (.stop s, e, z) := by
  unfold goN
  rw [h]
theorem goN_end {e : En} {z : Pm} (h : z.b.stop = none) : goN 0 e z = (.none, e, z) := by
  unfold goN
  rw [h]
  rfl
theorem goN_turn_stop {n : Nat} {e : En} {z : Pm} {s : Str × List Int} (h : z.b.stop = none) (h2 : (noteTM z).2.b.stop = some s) : goN (n + 1) e z = (.stop s, e, (noteTM z).2) := by
  unfold goN runP passT
  rw [h, h2]
theorem goN_turn {n : Nat} {e : En} {z : Pm} (h : z.b.stop = none) (h2 : (noteTM z).2.b.stop = none) : goN (n + 1) e z = if e.comes (noteTM z).1 z.rows.length (noteTM z).2.rows.length = true then (.done, e.step (noteTM z).1 z.rows.length, (noteTM z).2) else goN n (e.step (noteTM z).1 z.rows.length) (noteTM z).2 := by
  have e0 : goN n (e.step (noteTM z).1 z.rows.length) (noteTM z).2 = runP n (e.step (noteTM z).1 z.rows.length) (noteTM z).2 := by
    unfold goN
    rw [h2]
  rw [e0]
  unfold goN
  rw [h]
  show runP (n + 1) e z = _
  unfold runP passT
  rw [h2]
  dsimp only
  by_cases c : e.comes (noteTM z).1 z.rows.length (noteTM z).2.rows.length = true
  · rw [if_pos c, if_pos c]
  · rw [if_neg c, if_neg c]
    cases n <;> rfl
/-- the end as the asker reads it -/
def enO (o : Bool) (d : Int) (b : Bool) : En := if o = true then .out 0 0 d else .over 0 0 d b
theorem enO_step (o : Bool) (d : Int) (b : Bool) (so : Str) (ah : Int) : (enO o d b).step so ah = enO o d (overB b so ah d) := by
  cases o <;> rfl
theorem comesO (o : Bool) (d : Int) (b : Bool) (so : Str) (ah now : Int) : (enO o d b).comes so ah now = if o = true then decide (now < d) else (overB b so ah d && decide (now ≤ d)) := by
  cases o <;> rfl
theorem stepIn_stop {z : Pm} {s : Str × List Int} (h : z.b.stop = some s) : (goP 1 .no z).2.2 = z := by
  unfold goP
  rw [h]
  rfl
theorem stepIn_on {z : Pm} (h : z.b.stop = none) : (goP 1 .no z).2.2 = (noteTM z).2 := by
  unfold goP
  rw [h]
  show (runP 1 .no z).2.2 = _
  unfold runP passT
  cases (noteTM z).2.b.stop with
  | some s => rfl
  | none => rfl
end Bh

/-! The law's own board, in plain words: it goes as the program's does. -/
namespace Bh
open PySem PySem.Spec PyProof.Rows L2
/-! ### bits -/
theorem and_nat (x y : Nat) : Builtin.bitAnd (x : Int) (y : Int) = ((x &&& y : Nat) : Int) := by
  unfold Builtin.bitAnd
  rw [decide_eq_true (Int.natCast_nonneg x), decide_eq_true (Int.natCast_nonneg y)]
  rfl
theorem or_nat (x y : Nat) : Builtin.bitOr (x : Int) (y : Int) = ((x ||| y : Nat) : Int) := by
  unfold Builtin.bitOr Builtin.bitAnd Builtin.bitNot
  have h1 : ¬ (0 : Int) ≤ -(x : Int) - 1 := by omega
  have h2 : ¬ (0 : Int) ≤ -(y : Int) - 1 := by omega
  rw [decide_eq_false h1, decide_eq_false h2]
  have e1 : (-(-(x : Int) - 1) - 1).toNat = x := by omega
  have e2 : (-(-(y : Int) - 1) - 1).toNat = y := by omega
  simp only [e1, e2]
  omega
def W16 (v : Int) : Prop := 0 ≤ v ∧ v ≤ 65535
theorem w16_nat {v : Int} (h : W16 v) : ∃ n : Nat, v = n ∧ n < 2 ^ 16 := ⟨v.toNat, by have := h.1; omega, by have := h.1; have := h.2; show v.toNat < 65536; omega⟩
theorem and16 {x y : Int} (hx : W16 x) (hy : W16 y) : W16 (Builtin.bitAnd x y) := by
  obtain ⟨a, rfl, ha⟩ := w16_nat hx
  obtain ⟨b, rfl, hb⟩ := w16_nat hy
  rw [and_nat]
  have := Nat.and_lt_two_pow a hb
  have e : (2 : Nat) ^ 16 = 65536 := rfl
  exact ⟨by omega, by omega⟩
theorem or16 {x y : Int} (hx : W16 x) (hy : W16 y) : W16 (Builtin.bitOr x y) := by
  obtain ⟨a, rfl, ha⟩ := w16_nat hx
  obtain ⟨b, rfl, hb⟩ := w16_nat hy
  rw [or_nat]
  have := Nat.or_lt_two_pow ha hb
  have e : (2 : Nat) ^ 16 = 65536 := rfl
  exact ⟨by omega, by omega⟩
theorem and_sub_le (a b : Nat) : a &&& b ≤ a := Nat.and_le_left
theorem and_or_sum (a b : Nat) : (a &&& b) + (a ||| b) = a + b := by
  induction a using Nat.strongRecOn generalizing b with
  | ind a ih =>
    by_cases h : a = 0
    · subst h
      simp
    · have i := ih (a / 2) (by omega) (b / 2)
      have e1 := Nat.div_add_mod (a &&& b) 2
      have e2 := Nat.div_add_mod (a ||| b) 2
      have e3 := Nat.div_add_mod a 2
      have e4 := Nat.div_add_mod b 2
      rw [Nat.and_div_two] at e1
      rw [Nat.or_div_two] at e2
      have f1 : (a &&& b) % 2 = (a % 2) &&& (b % 2) := by
        have := Nat.and_mod_two_pow (a := a) (b := b) (n := 1)
        simpa using this
      have f2 : (a ||| b) % 2 = (a % 2) ||| (b % 2) := by
        have := Nat.or_mod_two_pow (a := a) (b := b) (n := 1)
        simpa using this
      rw [f1] at e1
      rw [f2] at e2
      rcases Nat.mod_two_eq_zero_or_one a with c1 | c1 <;> rcases Nat.mod_two_eq_zero_or_one b with c2 | c2 <;> rw [c1, c2] at e1 e2 <;> simp at e1 e2 <;> omega
theorem xor_nat (x y : Nat) : W16 (x : Int) → W16 (y : Int) → W16 (Builtin.bitXor (x : Int) (y : Int)) := fun hx hy => by
  unfold Builtin.bitXor
  have h1 := or16 hx hy
  rw [or_nat] at h1 ⊢
  rw [and_nat]
  have h2 : x &&& y ≤ x ||| y := Nat.le_trans Nat.and_le_left Nat.left_le_or
  exact ⟨by omega, by have := h1.2; omega⟩
theorem xor16 {x y : Int} (hx : W16 x) (hy : W16 y) : W16 (Builtin.bitXor x y) := by
  obtain ⟨a, rfl, ha⟩ := w16_nat hx
  obtain ⟨b, rfl, hb⟩ := w16_nat hy
  exact xor_nat a b hx hy
theorem clear16 {x y : Int} (hx : W16 x) (hy : W16 y) : Builtin.bitAnd x (65535 - y) = x - Builtin.bitAnd x y := by
  obtain ⟨a, rfl, ha⟩ := w16_nat hx
  obtain ⟨b, rfl, hb⟩ := w16_nat hy
  have e : (65535 : Int) - (b : Int) = ((2 ^ 16 - (b + 1) : Nat) : Int) := by
    have e : (2 : Nat) ^ 16 = 65536 := rfl
    omega
  rw [e, and_nat, and_nat]
  have h1 : a &&& (2 ^ 16 - (b + 1)) = a - (a &&& b) := by
    have hs := and_or_sum (a &&& (2 ^ 16 - (b + 1))) (a &&& b)
    have z1 : (a &&& (2 ^ 16 - (b + 1))) &&& (a &&& b) = 0 := by
      apply Nat.eq_of_testBit_eq
      intro i
      rw [Nat.testBit_and, Nat.testBit_and, Nat.testBit_and, Nat.testBit_two_pow_sub_succ hb, Nat.zero_testBit]
      cases a.testBit i <;> cases b.testBit i <;> simp
    have z2 : (a &&& (2 ^ 16 - (b + 1))) ||| (a &&& b) = a := by
      apply Nat.eq_of_testBit_eq
      intro i
      rw [Nat.testBit_or, Nat.testBit_and, Nat.testBit_and, Nat.testBit_two_pow_sub_succ hb]
      by_cases hi : i < 16
      · rw [decide_eq_true hi]
        cases a.testBit i <;> cases b.testBit i <;> simp
      · have : a.testBit i = false := Nat.testBit_lt_two_pow (Nat.lt_of_lt_of_le ha (Nat.pow_le_pow_right (by decide) (by omega)))
        rw [this]
        simp
    rw [z1, z2] at hs
    omega
  rw [h1]
  have := @Nat.and_le_left a b
  omega
theorem and1_mod {x : Int} (hx : W16 x) : Builtin.bitAnd x 1 = x % 2 := by
  obtain ⟨a, rfl, ha⟩ := w16_nat hx
  have := and_nat a 1
  rw [show ((1 : Nat) : Int) = 1 from rfl] at this
  rw [this, Nat.and_one_is_mod]
  omega
/-! ### words -/
def MemOk (m : List Int) : Prop := ∀ v ∈ m, W16 v
theorem MemOk.rd {m : List Int} (h : MemOk m) (i : Int) : W16 (rd m i) := by
  unfold Bh.rd
  rw [List.getD_eq_getElem?_getD]
  cases e : m[i.toNat]? with
  | none => exact ⟨by decide, by decide⟩
  | some v => exact h v (List.mem_of_getElem? e)
theorem MemOk.st {m : List Int} (h : MemOk m) {i v : Int} (hv : W16 v) : MemOk (stM m i v) := fun w hw => by
  rcases List.mem_or_eq_of_mem_set hw with q | q
  · exact h w q
  · rw [q]
    exact hv
theorem st_self {m : List Int} {i : Int} (h0 : 0 ≤ i) (h1 : i < m.length) : stM m i (rd m i) = m := by
  unfold stM rd
  have h2 : i.toNat < m.length := by omega
  apply List.ext_getElem?
  intro j
  rw [List.getElem?_set]
  split
  · rename_i e
    subst e
    rw [List.getD_eq_getElem?_getD, List.getElem?_eq_getElem h2]
    rfl
  · rfl
theorem st_st {m : List Int} {i v w : Int} : stM (stM m i v) i w = stM m i w := by
  unfold stM
  rw [List.set_set]
theorem st_comm {m : List Int} {i j v w : Int} (hi : 0 ≤ i) (hj : 0 ≤ j) (h : i ≠ j) : stM (stM m i v) j w = stM (stM m j w) i v := by
  unfold stM
  exact List.set_comm _ _ (by omega)
/-! ### the line -/
structure LnOk (ls : List (Int × Int)) (la : Nat) (bt : Int) : Prop where
  le : la ≤ ls.length
  lo : ∀ (i : Nat) (r : Int × Int), i < la → ls[i]? = some r → r.1 ≤ bt
  hi : ∀ (i : Nat) (r : Int × Int), la ≤ i → ls[i]? = some r → bt < r.1
  mo : ∀ (i j : Nat) (r s : Int × Int), i < j → ls[i]? = some r → ls[j]? = some s → r.1 < s.1
  v : ∀ (i : Nat) (r : Int × Int), ls[i]? = some r → 0 ≤ r.2 ∧ r.2 ≤ 3
theorem rise_mem : ∀ {ls : List (Int × Int)} {n : Int}, riseM n ls → ∀ (i : Nat) (r : Int × Int), ls[i]? = some r → n < r.1 ∧ 0 ≤ r.2 ∧ r.2 ≤ 3
  | [], _, _, i, r, h => by cases h
  | l :: ls, n, h, 0, r, e => by
    cases e
    exact ⟨h.1, h.2.1, h.2.2.1⟩
  | l :: ls, n, h, i + 1, r, e => by
    have h2 := rise_mem h.2.2.2 i r e
    exact ⟨Int.lt_trans h.1 h2.1, h2.2⟩
theorem rise_mono : ∀ {ls : List (Int × Int)} {n : Int}, riseM n ls → ∀ (i j : Nat) (r s : Int × Int), i < j → ls[i]? = some r → ls[j]? = some s → r.1 < s.1
  | [], _, _, i, j, r, s, _, h, _ => by cases h
  | l :: ls, n, h, 0, j + 1, r, s, _, e, e2 => by
    cases e
    exact (rise_mem h.2.2.2 j s e2).1
  | l :: ls, n, h, i + 1, j + 1, r, s, hij, e, e2 => rise_mono h.2.2.2 i j r s (by omega) e e2
theorem ln_new {ls : List (Int × Int)} (h : riseM 0 ls) : LnOk ls 0 0 where
  le := Nat.zero_le _
  lo := fun i r h => by cases h
  hi := fun i r _ e => (rise_mem h i r e).1
  mo := rise_mono h
  v := fun i r e => (rise_mem h i r e).2
def lnD (ls : List (Int × Int)) : List (Key × V) := ls.map fun r => (Sum.inl r.1, V.int r.2)
theorem ln_at {ls : List (Int × Int)} {la : Nat} {bt : Int} (h : LnOk ls la bt) {i : Nat} {r : Int × Int} (e : ls[i]? = some r) (hr : r.1 = bt + 1) : i = la := by
  have h1 : ¬ i < la := fun z => by
    have := h.lo i r z e
    omega
  have h2 : ¬ la < i := fun z => by
    have hl : la < ls.length := Nat.lt_trans z (List.getElem?_eq_some_iff.mp e).1
    have e2 := List.getElem?_eq_getElem hl
    have a1 := h.hi la _ (Nat.le_refl _) e2
    have a2 := h.mo la i _ _ z e2 e
    omega
  omega
theorem ln_get {ls : List (Int × Int)} {la : Nat} {bt : Int} (h : LnOk ls la bt) : valV (lnD ls) (Sum.inl (bt + 1)) = if la < ls.length ∧ (ls.getD la (0, 0)).1 = bt + 1 then some (.int (ls.getD la (0, 0)).2) else none := by
  unfold valV lnD
  rw [List.find?_map, Option.map_map]
  cases e : ls.find? ((fun kv : Key × V => decide (kv.1 = Sum.inl (bt + 1))) ∘ fun r : Int × Int => (Sum.inl r.1, V.int r.2)) with
  | none =>
    rw [if_neg]
    · rfl
    · rintro ⟨h1, h2⟩
      have e2 := List.getElem?_eq_getElem h1
      rw [List.getD_eq_getElem?_getD, e2] at h2
      have := List.find?_eq_none.mp e ls[la] (List.getElem_mem h1)
      apply this
      show decide ((Sum.inl ls[la].1 : Key) = Sum.inl (bt + 1)) = true
      exact decide_eq_true (congrArg Sum.inl h2)
  | some r =>
    have hp := List.find?_some e
    have hr : r.1 = bt + 1 := Sum.inl.inj (of_decide_eq_true (show decide ((Sum.inl r.1 : Key) = Sum.inl (bt + 1)) = true from hp))
    obtain ⟨i, hi⟩ := List.getElem?_of_mem (List.mem_of_find?_eq_some e)
    have := ln_at h hi hr
    subst this
    have e3 : ls.getD i (0, 0) = r := by rw [List.getD_eq_getElem?_getD, hi]; rfl
    rw [e3, if_pos ⟨(List.getElem?_eq_some_iff.mp hi).1, hr⟩]
    rfl
theorem ln_step {ls : List (Int × Int)} {la : Nat} {bt : Int} (h : LnOk ls la bt) : LnOk ls (if la < ls.length ∧ (ls.getD la (0, 0)).1 = bt + 1 then la + 1 else la) (bt + 1) := by
  by_cases c : la < ls.length ∧ (ls.getD la (0, 0)).1 = bt + 1
  · rw [if_pos c]
    have e2 := List.getElem?_eq_getElem c.1
    have e3 : ls.getD la (0, 0) = ls[la] := by rw [List.getD_eq_getElem?_getD, e2]; rfl
    have c2 := c.2
    rw [e3] at c2
    exact {
      le := c.1
      lo := fun i r hi e => by
        by_cases z : i = la
        · subst z
          rw [e2] at e
          cases e
          omega
        · have := h.lo i r (by omega) e
          omega
      hi := fun i r hi e => by
        have := h.mo la i _ _ (by omega) e2 e
        omega
      mo := h.mo
      v := h.v }
  · rw [if_neg c]
    exact {
      le := h.le
      lo := fun i r hi e => by
        have := h.lo i r hi e
        omega
      hi := fun i r hi e => by
        have h1 := h.hi i r hi e
        by_cases z : r.1 = bt + 1
        · have := ln_at h e z
          subst this
          refine absurd ⟨(List.getElem?_eq_some_iff.mp e).1, ?_⟩ c
          rw [List.getD_eq_getElem?_getD, e]
          exact z
        · omega
      mo := h.mo
      v := h.v }
/-! ### a board as it must be -/
structure Ok (x : Bd) : Prop where
  lm : x.mem.length = 774
  w : MemOk x.mem
  a : W16 x.a
  b : W16 x.b
  pc : W16 x.pc
  ln : LnOk x.line x.la x.beat
/-- line in becomes a value: the law's way -/
def lawLine (lv : Int) (m : List Int) : List Int := stM (if lv % 2 = 1 ∧ rd m 772 % 2 = 0 then stM m 770 (Builtin.bitOr (rd m 770) 2) else m) 772 lv
def lawTim (m : List Int) : List Int :=
  if 0 < rd m 769 then
    if rd (stM m 768 (rd m 768 + 1)) 769 ≤ rd (stM m 768 (rd m 768 + 1)) 768 then stM (stM (stM m 768 (rd m 768 + 1)) 768 0) 770 (Builtin.bitOr (rd (stM (stM m 768 (rd m 768 + 1)) 768 0) 770) 1)
    else stM m 768 (rd m 768 + 1)
  else m
theorem lawLine_eq {lv : Int} {m : List Int} (h0 : 0 ≤ lv) (hm : MemOk m) : lawLine lv m = takeLineM lv m := by
  unfold lawLine takeLineM
  have h1 := (hm.rd 772).1
  by_cases c : rd m 772 % 2 < lv % 2
  · rw [if_pos c, if_pos ⟨by omega, by omega⟩, rd_stM_ne (by decide) (by decide) (by decide)]
    exact st_comm (by decide) (by decide) (by decide)
  · rw [if_neg c, if_neg (fun z => c (by omega))]
theorem lawLine_none {m : List Int} (hl : m.length = 774) : lawLine (rd m 772) m = m := by
  unfold lawLine
  rw [if_neg (fun z => by omega)]
  exact st_self (by decide) (by rw [hl]; decide)
theorem lawTim_eq {m : List Int} (hl : m.length = 774) (hm : MemOk m) : lawTim m = goTimerM m := by
  unfold lawTim goTimerM
  have h1 := (hm.rd 769).1
  by_cases c : rd m 769 = 0
  · rw [if_pos c, if_neg (by omega)]
  · rw [if_neg c, if_pos (by omega), rd_stM_ne (by decide) (by decide) (by decide), rd_stM_same (by decide) (by rw [hl]; decide)]
    by_cases c2 : rd m 769 ≤ rd m 768 + 1
    · rw [if_pos c2, if_pos c2, st_st, rd_stM_ne (by decide) (by decide) (by decide)]
      exact st_comm (by decide) (by decide) (by decide)
    · rw [if_neg c2, if_neg c2]
theorem take_ok {lv : Int} {m : List Int} (h : W16 lv) (hm : MemOk m) : MemOk (takeLineM lv m) := by
  unfold takeLineM
  split
  · refine (hm.st h).st (or16 ((hm.st h).rd _) ⟨by decide, by decide⟩)
  · exact hm.st h
theorem tim_ok {m : List Int} (hm : MemOk m) : MemOk (goTimerM m) := by
  unfold goTimerM
  have h1 := hm.rd 769
  have h2 := hm.rd 768
  split
  · exact hm
  · split
    · exact (hm.st (or16 (hm.rd _) ⟨by decide, by decide⟩)).st ⟨by decide, by decide⟩
    · rename_i c
      exact hm.st ⟨by have := h2.1; omega, by have := h1.2; omega⟩
/-- what line in becomes at the next beat -/
def lvM (x : Bd) : Int := if x.la < x.line.length ∧ (x.line.getD x.la (0, 0)).1 = x.beat + 1 then (x.line.getD x.la (0, 0)).2 else rd x.mem 772
theorem come_eq {x : Bd} (h : Ok x) : comeM { x with beat := x.beat + 1 } = { x with beat := x.beat + 1, mem := lawLine (lvM x) x.mem, la := if x.la < x.line.length ∧ (x.line.getD x.la (0, 0)).1 = x.beat + 1 then x.la + 1 else x.la } := by
  unfold comeM lvM
  by_cases c : x.la < x.line.length ∧ (x.line.getD x.la (0, 0)).1 = x.beat + 1
  · rw [if_pos c, if_pos c, if_pos c]
    have e : x.line[x.la]? = some (x.line.getD x.la (0, 0)) := by rw [List.getD_eq_getElem?_getD, List.getElem?_eq_getElem c.1]; rfl
    rw [lawLine_eq (h.ln.v _ _ e).1 h.w]
  · rw [if_neg c, if_neg c, if_neg c, lawLine_none h.lm]
theorem lv16 {x : Bd} (h : Ok x) : W16 (lvM x) := by
  unfold lvM
  split
  · rename_i c
    have e : x.line[x.la]? = some (x.line.getD x.la (0, 0)) := by rw [List.getD_eq_getElem?_getD, List.getElem?_eq_getElem c.1]; rfl
    have := h.ln.v _ _ e
    exact ⟨this.1, by omega⟩
  · exact h.w.rd _
theorem lawLine_ok {lv : Int} {m : List Int} (h : W16 lv) (hm : MemOk m) : MemOk (lawLine lv m) := by
  rw [lawLine_eq h.1 hm]
  exact take_ok h hm
theorem lawLine_len (lv : Int) (m : List Int) : (lawLine lv m).length = m.length := by
  unfold lawLine
  rw [stM_len]
  split
  · rw [stM_len]
  · rfl
theorem one_eq {x : Bd} (h : Ok x) : passOneM x = { x with beat := x.beat + 1, mem := lawTim (lawLine (lvM x) x.mem), la := if x.la < x.line.length ∧ (x.line.getD x.la (0, 0)).1 = x.beat + 1 then x.la + 1 else x.la } := by
  unfold passOneM
  rw [come_eq h]
  rw [lawTim_eq (by rw [lawLine_len]; exact h.lm) (lawLine_ok (lv16 h) h.w)]
theorem Ok.one {x : Bd} (h : Ok x) : Ok (passOneM x) := by
  have e := one_eq h
  rw [e]
  exact {
    lm := by
      show (lawTim _).length = 774
      rw [lawTim_eq (by rw [lawLine_len]; exact h.lm) (lawLine_ok (lv16 h) h.w), goTimerM_len, lawLine_len]
      exact h.lm
    w := by
      show MemOk (lawTim _)
      rw [lawTim_eq (by rw [lawLine_len]; exact h.lm) (lawLine_ok (lv16 h) h.w)]
      exact tim_ok (lawLine_ok (lv16 h) h.w)
    a := h.a
    b := h.b
    pc := h.pc
    ln := ln_step h.ln }
theorem Ok.pass : ∀ {n : Nat} {x : Bd}, Ok x → Ok (passM n x)
  | 0, _, h => h
  | n + 1, _, h => Ok.pass (n := n) h.one
theorem Ok.putM {x : Bd} (h : Ok x) {a v : Int} (hv : W16 v) : Ok (putWM a v x) := by
  have hm : MemOk (putMM a v x.mem) := by
    unfold putMM
    split
    · exact h.w.st (and16 (h.w.rd _) ⟨by have := hv.2; omega, by have := hv.1; omega⟩)
    · exact h.w.st hv
  have hl : (putMM a v x.mem).length = 774 := by rw [putMM_len]; exact h.lm
  unfold putWM sendM
  split
  · exact ⟨hl, hm, h.a, h.b, h.pc, h.ln⟩
  · exact ⟨hl, hm, h.a, h.b, h.pc, h.ln⟩
theorem Ok.give {x : Bd} (h : Ok x) {v : Int} (hv : W16 v) : Ok (giveM v x) := ⟨h.lm, h.w, hv, h.b, h.pc, h.ln⟩
theorem putWM_regs (a v : Int) (x : Bd) : (putWM a v x).a = x.a ∧ (putWM a v x).b = x.b ∧ (putWM a v x).pc = x.pc ∧ (putWM a v x).sp = x.sp ∧ (putWM a v x).zero = x.zero ∧ (putWM a v x).lets = x.lets ∧ (putWM a v x).asleep = x.asleep ∧ (putWM a v x).beat = x.beat ∧ (putWM a v x).stop = x.stop ∧ (putWM a v x).line = x.line ∧ (putWM a v x).la = x.la := by
  unfold putWM sendM
  split <;> exact ⟨rfl, rfl, rfl, rfl, rfl, rfl, rfl, rfl, rfl, rfl, rfl⟩
theorem Ok.doM {x : Bd} (h : Ok x) {op : Nat} {n : Int} {ws : List Int} (n0 : 0 ≤ n) (n1 : n < 1024) (hw : ∀ w ∈ ws, W16 w) (o : op < 23) : Ok (doM op n ws x) := by
  have wg : ∀ i : Nat, W16 (ws.getD i 0) := fun i => by
    rw [List.getD_eq_getElem?_getD]
    cases e : ws[i]? with
    | none => exact ⟨by decide, by decide⟩
    | some v => exact hw v (List.mem_of_getElem? e)
  have n16 : W16 n := ⟨n0, by omega⟩
  have w0 := wg 0
  match op, o with
  | 0, _ => exact h
  | 1, _ => exact h.give n16
  | 2, _ => exact h.give w0
  | 3, _ => exact h.putM h.a
  | 4, _ => exact h.give ⟨Int.emod_nonneg _ (by decide), by have := Int.emod_lt_of_pos (x.a + ws.getD 0 0) (show (0 : Int) < 65536 by decide); omega⟩
  | 5, _ => exact h.give ⟨Int.emod_nonneg _ (by decide), by have := Int.emod_lt_of_pos (x.a - ws.getD 0 0) (show (0 : Int) < 65536 by decide); omega⟩
  | 6, _ => exact h.give (and16 h.a w0)
  | 7, _ => exact h.give (xor16 h.a w0)
  | 8, _ => exact h.give w0
  | 9, _ => exact h.putM h.a
  | 10, _ => exact ⟨h.lm, h.w, h.a, h.a, h.pc, h.ln⟩
  | 11, _ => exact ⟨h.lm, h.w, h.b, h.a, h.pc, h.ln⟩
  | 12, _ => exact ⟨h.lm, h.w, h.a, h.b, n16, h.ln⟩
  | 13, _ =>
    show Ok (if x.zero = true then { x with pc := n } else x)
    split
    · exact ⟨h.lm, h.w, h.a, h.b, n16, h.ln⟩
    · exact h
  | 14, _ =>
    show Ok (if 32768 ≤ x.a then { x with pc := n } else x)
    split
    · exact ⟨h.lm, h.w, h.a, h.b, n16, h.ln⟩
    · exact h
  | 15, _ =>
    have k := h.putM (a := x.sp) h.pc
    exact ⟨k.lm, k.w, k.a, k.b, n16, k.ln⟩
  | 16, _ => exact ⟨h.lm, h.w, h.a, h.b, w0, h.ln⟩
  | 17, _ =>
    have k := h.putM (a := x.sp) h.a
    exact ⟨k.lm, k.w, k.a, k.b, k.pc, k.ln⟩
  | 18, _ => exact ⟨h.lm, h.w, w0, h.b, h.pc, h.ln⟩
  | 19, _ => exact ⟨h.lm, h.w, h.a, h.b, h.pc, h.ln⟩
  | 20, _ => exact ⟨h.lm, h.w, h.a, h.b, h.pc, h.ln⟩
  | 21, _ => exact ⟨h.lm, h.w, h.a, h.b, wg 1, h.ln⟩
  | 22, _ => exact h.give ⟨Int.ediv_nonneg h.a.1 (by decide), by have := h.a; unfold W16 at this; omega⟩
  | n + 23, z => exact absurd z (by omega)
theorem reads16 {m : List Int} (h : MemOk m) (ts : List (Bool × Int)) : ∀ w ∈ readsM m ts, W16 w := fun w hw => by
  obtain ⟨t, _, rfl⟩ := List.mem_map.mp hw
  exact h.rd _
theorem Ok.deed {x : Bd} (h : Ok x) : Ok (deedM x).2 := by
  unfold deedM
  split
  · exact ⟨h.lm, h.w, h.a, h.b, h.pc, h.ln⟩
  · split
    · exact ⟨h.lm, h.w, h.a, h.b, h.pc, h.ln⟩
    · split
      · exact ⟨h.lm, h.w, h.a, h.b, h.pc, h.ln⟩
      · split
        · exact ⟨h.lm, h.w, h.a, h.b, h.pc, h.ln⟩
        · rename_i c1 c2 c3 _ _
          have hp := h.pc
          have k : Ok { x with pc := x.pc + 1 } := ⟨h.lm, h.w, h.a, h.b, ⟨by have := hp.1; show 0 ≤ x.pc + 1; omega, by have := Classical.not_not.mp c1; show x.pc + 1 ≤ 65535; omega⟩, h.ln⟩
          refine (k.doM ?_ ?_ (reads16 h.w _) (by omega)).pass
          · exact Int.emod_nonneg _ (by decide)
          · exact Int.emod_lt_of_pos _ (by decide)
theorem Ok.int {x : Bd} (h : Ok x) : Ok (intM x).2 := by
  unfold intM
  split
  · exact ⟨h.lm, h.w, h.a, h.b, h.pc, h.ln⟩
  · unfold begunM
    have k := (h.putM (a := x.sp) h.pc).putM (a := x.sp - 1) (v := b2n x.zero) (by unfold b2n; split <;> exact ⟨by decide, by decide⟩)
    refine Ok.pass ?_
    exact ⟨k.lm, k.w, k.a, k.b, by show W16 (if _ then _ else _); split <;> exact ⟨by decide, by decide⟩, k.ln⟩
theorem Ok.turn {x : Bd} (h : Ok x) : Ok (turnM x).2 := by
  have k : Ok { x with asleep := false } := ⟨h.lm, h.w, h.a, h.b, h.pc, h.ln⟩
  unfold turnM
  split
  · exact h
  · split
    · exact h.pass (n := 1)
    · split
      · exact k.int
      · exact k.deed
theorem Ok.pcok {x : Bd} (h : Ok x) : PcOk x := fun _ _ => (h.w.rd _).1
theorem memOf_ok {ns : List Int} (h : WordsOk ns) : MemOk (memOf ns) := fun v hv => by
  unfold memOf at hv
  rcases List.mem_append.mp hv with q | q
  · rcases List.mem_append.mp q with q | q
    · exact h v q
    · rw [(List.mem_replicate.mp q).2]
      exact ⟨by decide, by decide⟩
  · rw [(List.mem_replicate.mp q).2]
    exact ⟨by decide, by decide⟩
end Bh

/-! The law's own board with its frames, in the heap. -/
namespace Bh
open PySem PySem.Spec PyProof.Rows L2
/-- where its things stand -/
structure Oa where
  m : Addr
  ln : Addr
  to : Addr
  fl : Addr
  rg : Addr
  ins : Addr
  th : Addr
/-- what it tells besides its board -/
structure Oe where
  ov : V
  tu : List (Bool × Int)
  rows : List (Int × Int × Str)
  strays : Int
  ring : List (Int × Str × Int)
  spent : List (Int × Int)
  deeds : List (Int × Int × Int)
  peeked : Int
  gone : Int
def owD (a : Oa) (e : Oe) (x : Bd) (sv : V) : List (Key × V) :=
  [(Sum.inr "m", .ref a.m), (Sum.inr "line", .ref a.ln), (Sum.inr "beat", .int x.beat), (Sum.inr "stop", sv), (Sum.inr "a", .int x.a), (Sum.inr "b", .int x.b), (Sum.inr "pc", .int x.pc), (Sum.inr "sp", .int x.sp), (Sum.inr "zero", .bl x.zero), (Sum.inr "lets", .bl x.lets), (Sum.inr "asleep", .bl x.asleep), (Sum.inr "touched", .ref a.to), (Sum.inr "op", e.ov), (Sum.inr "frames", .ref a.fl), (Sum.inr "strays", .int e.strays), (Sum.inr "ring", .ref a.rg), (Sum.inr "inside", .ref a.ins), (Sum.inr "there", .ref a.th), (Sum.inr "peeked", .int e.peeked), (Sum.inr "gone", .int e.gone)]
section
variable {a : Oa} {e : Oe} {x : Bd} {sv v : V} {n : Int} {c : Bool} {q : Addr}
theorem oG_m : valV (owD a e x sv) (Sum.inr "m") = some (.ref a.m) := by kernel_rfl
theorem oG_line : valV (owD a e x sv) (Sum.inr "line") = some (.ref a.ln) := by kernel_rfl
theorem oG_beat : valV (owD a e x sv) (Sum.inr "beat") = some (.int x.beat) := by kernel_rfl
theorem oG_stop : valV (owD a e x sv) (Sum.inr "stop") = some (sv) := by kernel_rfl
theorem oG_a : valV (owD a e x sv) (Sum.inr "a") = some (.int x.a) := by kernel_rfl
theorem oG_b : valV (owD a e x sv) (Sum.inr "b") = some (.int x.b) := by kernel_rfl
theorem oG_pc : valV (owD a e x sv) (Sum.inr "pc") = some (.int x.pc) := by kernel_rfl
theorem oG_sp : valV (owD a e x sv) (Sum.inr "sp") = some (.int x.sp) := by kernel_rfl
theorem oG_zero : valV (owD a e x sv) (Sum.inr "zero") = some (.bl x.zero) := by kernel_rfl
theorem oG_lets : valV (owD a e x sv) (Sum.inr "lets") = some (.bl x.lets) := by kernel_rfl
theorem oG_asleep : valV (owD a e x sv) (Sum.inr "asleep") = some (.bl x.asleep) := by kernel_rfl
theorem oG_touched : valV (owD a e x sv) (Sum.inr "touched") = some (.ref a.to) := by kernel_rfl
theorem oG_op : valV (owD a e x sv) (Sum.inr "op") = some (e.ov) := by kernel_rfl
theorem oG_frames : valV (owD a e x sv) (Sum.inr "frames") = some (.ref a.fl) := by kernel_rfl
theorem oG_strays : valV (owD a e x sv) (Sum.inr "strays") = some (.int e.strays) := by kernel_rfl
theorem oG_ring : valV (owD a e x sv) (Sum.inr "ring") = some (.ref a.rg) := by kernel_rfl
theorem oG_inside : valV (owD a e x sv) (Sum.inr "inside") = some (.ref a.ins) := by kernel_rfl
theorem oG_there : valV (owD a e x sv) (Sum.inr "there") = some (.ref a.th) := by kernel_rfl
theorem oG_peeked : valV (owD a e x sv) (Sum.inr "peeked") = some (.int e.peeked) := by kernel_rfl
theorem oG_gone : valV (owD a e x sv) (Sum.inr "gone") = some (.int e.gone) := by kernel_rfl
theorem oP_beat : putK (owD a e x sv) (Sum.inr "beat") (.int n) = owD a e { x with beat := n } sv := by kernel_rfl
theorem oP_stop : putK (owD a e x sv) (Sum.inr "stop") (v) = owD a e x v := by kernel_rfl
theorem oP_a : putK (owD a e x sv) (Sum.inr "a") (.int n) = owD a e { x with a := n } sv := by kernel_rfl
theorem oP_b : putK (owD a e x sv) (Sum.inr "b") (.int n) = owD a e { x with b := n } sv := by kernel_rfl
theorem oP_pc : putK (owD a e x sv) (Sum.inr "pc") (.int n) = owD a e { x with pc := n } sv := by kernel_rfl
theorem oP_sp : putK (owD a e x sv) (Sum.inr "sp") (.int n) = owD a e { x with sp := n } sv := by kernel_rfl
theorem oP_zero : putK (owD a e x sv) (Sum.inr "zero") (.bl c) = owD a e { x with zero := c } sv := by kernel_rfl
theorem oP_lets : putK (owD a e x sv) (Sum.inr "lets") (.bl c) = owD a e { x with lets := c } sv := by kernel_rfl
theorem oP_asleep : putK (owD a e x sv) (Sum.inr "asleep") (.bl c) = owD a e { x with asleep := c } sv := by kernel_rfl
theorem oP_touched : putK (owD a e x sv) (Sum.inr "touched") (.ref q) = owD { a with to := q } e x sv := by kernel_rfl
theorem oP_op : putK (owD a e x sv) (Sum.inr "op") (v) = owD a { e with ov := v } x sv := by kernel_rfl
theorem oP_frames : putK (owD a e x sv) (Sum.inr "frames") (.ref q) = owD { a with fl := q } e x sv := by kernel_rfl
theorem oP_strays : putK (owD a e x sv) (Sum.inr "strays") (.int n) = owD a { e with strays := n } x sv := by kernel_rfl
theorem oP_gone : putK (owD a e x sv) (Sum.inr "gone") (.int n) = owD a { e with gone := n } x sv := by kernel_rfl
theorem oL_len : (owD a e x sv).length = 20 := rfl
theorem dpO {H : Hp} {r : Addr} {k : Key} {v : V} {kvs : List (Key × V)} (h0 : H r = some (.dK (owD a e x sv))) (h : putK (owD a e x sv) k v = kvs) : DPut H r (kV k) v (upd H r (.dK kvs)) := by
  subst h
  exact DPut.k h0 (by rw [oL_len]; exact small1000 (by decide))
end
def Oa.own (d : Addr) (a : Oa) : List Addr := [d, a.m, a.ln, a.to, a.fl, a.rg, a.ins, a.th]
/-- what it stands on -/
def FtO (d : Addr) (a : Oa) (b : Addr) : Prop := b ∈ a.own d
structure Ow (H : Hp) (d : Addr) (a : Oa) (e : Oe) (x : Bd) : Prop where
  hd : ∃ sv, H d = some (.dK (owD a e x sv)) ∧ StopAt H sv x.stop
  hm : H a.m = some (.lst (x.mem.map V.int))
  hl : H a.ln = some (.dK (lnD x.line))
  ht : ∃ ts, H a.to = some (.lst ts) ∧ TouAt H ts e.tu
  hf : ∃ us, H a.fl = some (.lst us) ∧ T3At H us e.rows
  hr : ∃ hs, H a.rg = some (.lst hs) ∧ HtAt H hs e.ring
  hi : H a.ins = some (.dK (spD e.spent))
  hh : ∃ kd, H a.th = some (.dK kd) ∧ DdAt H kd e.deeds
  lm : x.mem.length = 774
  nd : (a.own d).Nodup
section
variable {H H1 H2 : Hp} {d : Addr} {a a' : Oa} {e : Oe} {x : Bd}
theorem Ow.same (L : Ow H d a e x) (s : Same H H1) : Ow H1 d a e x where
  hd := let ⟨sv, z, y⟩ := L.hd; ⟨sv, s _ _ z, y.mono fun t xs q => s _ _ q⟩
  hm := s _ _ L.hm
  hl := s _ _ L.hl
  ht := let ⟨ts, z, y⟩ := L.ht; ⟨ts, s _ _ z, y.mono fun t xs q => s _ _ q⟩
  hf := let ⟨ts, z, y⟩ := L.hf; ⟨ts, s _ _ z, y.mono fun t xs q => s _ _ q⟩
  hr := let ⟨ts, z, y⟩ := L.hr; ⟨ts, s _ _ z, y.mono fun t xs q => s _ _ q⟩
  hi := s _ _ L.hi
  hh := let ⟨ts, z, y⟩ := L.hh; ⟨ts, s _ _ z, y.mono fun t xs q => s _ _ q⟩
  lm := L.lm
  nd := L.nd
theorem Ow.keep (L : Ow H d a e x) (k : ∀ b o, FtO d a b → H b = some o → H1 b = some o) (t : ∀ q xs, H q = some (.tup xs) → H1 q = some (.tup xs)) : Ow H1 d a e x where
  hd := let ⟨sv, z, y⟩ := L.hd; ⟨sv, k _ _ (List.mem_of_getElem? (i := 0) rfl) z, y.mono t⟩
  hm := k _ _ (List.mem_of_getElem? (i := 1) rfl) L.hm
  hl := k _ _ (List.mem_of_getElem? (i := 2) rfl) L.hl
  ht := let ⟨ts, z, y⟩ := L.ht; ⟨ts, k _ _ (List.mem_of_getElem? (i := 3) rfl) z, y.mono t⟩
  hf := let ⟨ts, z, y⟩ := L.hf; ⟨ts, k _ _ (List.mem_of_getElem? (i := 4) rfl) z, y.mono t⟩
  hr := let ⟨ts, z, y⟩ := L.hr; ⟨ts, k _ _ (List.mem_of_getElem? (i := 5) rfl) z, y.mono t⟩
  hi := k _ _ (List.mem_of_getElem? (i := 6) rfl) L.hi
  hh := let ⟨ts, z, y⟩ := L.hh; ⟨ts, k _ _ (List.mem_of_getElem? (i := 7) rfl) z, y.mono t⟩
  lm := L.lm
  nd := L.nd
theorem Ow.solid (L : Ow H d a e x) : ∀ b, FtO d a b → ∃ o, H b = some o ∧ ∀ xs, o ≠ .tup xs := fun b h => by
  have h : b ∈ [d, a.m, a.ln, a.to, a.fl, a.rg, a.ins, a.th] := h
  obtain ⟨sv, hd, _⟩ := L.hd
  obtain ⟨_, ht, _⟩ := L.ht
  obtain ⟨_, hf, _⟩ := L.hf
  obtain ⟨_, hr, _⟩ := L.hr
  obtain ⟨_, hh, _⟩ := L.hh
  simp only [List.mem_cons, List.not_mem_nil, or_false] at h
  rcases h with h | h | h | h | h | h | h | h <;> subst h
  · exact ⟨_, hd, fun xs z => by cases z⟩
  · exact ⟨_, L.hm, fun xs z => by cases z⟩
  · exact ⟨_, L.hl, fun xs z => by cases z⟩
  · exact ⟨_, ht, fun xs z => by cases z⟩
  · exact ⟨_, hf, fun xs z => by cases z⟩
  · exact ⟨_, hr, fun xs z => by cases z⟩
  · exact ⟨_, L.hi, fun xs z => by cases z⟩
  · exact ⟨_, hh, fun xs z => by cases z⟩
/-- cells of its own changed, by their places -/
theorem Ow.kOwn (L : Ow H d a e x) {l : List Nat} (k : ∀ b o, (∀ i ∈ l, (a.own d)[i]? ≠ some b) → H b = some o → H1 b = some o) :
    (∀ t xs, H t = some (.tup xs) → H1 t = some (.tup xs)) ∧ (∀ i b o, i ∉ l → (a.own d)[i]? = some b → H b = some o → H1 b = some o) ∧ Fr (FtO d a) H (FtO d a) H1 := by
  refine ⟨fun t xs q => k t _ (fun i _ z => ?_) q, fun i b o hi hb q => k b o (fun j hj z => ?_) q, ⟨fun b o n q => k b o (fun i _ z => n (List.mem_of_getElem? z)) q, fun b z => .inl z⟩⟩
  · obtain ⟨o, e1, n⟩ := L.solid t (List.mem_of_getElem? z)
    rw [e1] at q
    exact n xs (Option.some.inj q)
  · rcases Nat.lt_trichotomy i j with h | h | h
    · exact nd_ne L.nd h hb z rfl
    · exact hi (h ▸ hj)
    · exact nd_ne L.nd h z hb rfl
/-- what stands elsewhere stays: the dict and the words alone may be changed -/
def Fo (d m : Addr) (H H' : Hp) : Prop := ∀ b o, b ≠ d → b ≠ m → H b = some o → H' b = some o
theorem Fo.refl {m : Addr} : Fo d m H H := fun _ _ _ _ h => h
theorem Fo.trans {m : Addr} (h1 : Fo d m H H1) (h2 : Fo d m H1 H2) : Fo d m H H2 := fun b o a1 a2 h => h2 b o a1 a2 (h1 b o a1 a2 h)
theorem Fo.of {m : Addr} (h : Same H H1) : Fo d m H H1 := fun b o _ _ z => h b o z
theorem Fo.ud {m : Addr} {o : HO} : Fo d m H (upd H d o) := fun b o a1 _ z => by rw [upd_ne a1]; exact z
theorem Fo.um {m : Addr} {o : HO} : Fo d m H (upd H m o) := fun b o _ a2 z => by rw [upd_ne a2]; exact z
theorem Fo.fr (h : Fo d a.m H H1) : Fr (FtO d a) H (FtO d a) H1 := ⟨fun b o n z => h b o (fun y => n (by rw [y]; exact List.mem_cons_self ..)) (fun y => n (by rw [y]; exact List.mem_cons_of_mem _ (List.mem_cons_self ..))) z, fun b z => .inl z⟩
theorem Ow.dict (L : Ow H d a e x) {y : Bd} {sv : V} (hz : StopAt H sv y.stop) (em : y.mem = x.mem) (el : y.line = x.line) : Ow (upd H d (.dK (owD a e y sv))) d a e y := by
  obtain ⟨t, ko, _⟩ := L.kOwn (l := [0]) (H1 := upd H d (.dK (owD a e y sv))) (fun b o n q => by rw [upd_ne (fun z => n 0 (by decide) (by rw [z]; rfl))]; exact q)
  obtain ⟨ts, ht, ht2⟩ := L.ht
  obtain ⟨us, hf, hf2⟩ := L.hf
  obtain ⟨hs, hr, hr2⟩ := L.hr
  obtain ⟨kd, hh, hh2⟩ := L.hh
  exact {
    hd := ⟨sv, upd_same, hz.mono t⟩
    hm := by rw [em]; exact ko 1 _ _ (by decide) rfl L.hm
    hl := by rw [el]; exact ko 2 _ _ (by decide) rfl L.hl
    ht := ⟨ts, ko 3 _ _ (by decide) rfl ht, ht2.mono t⟩
    hf := ⟨us, ko 4 _ _ (by decide) rfl hf, hf2.mono t⟩
    hr := ⟨hs, ko 5 _ _ (by decide) rfl hr, hr2.mono t⟩
    hi := ko 6 _ _ (by decide) rfl L.hi
    hh := ⟨kd, ko 7 _ _ (by decide) rfl hh, hh2.mono t⟩
    lm := by rw [em]; exact L.lm
    nd := L.nd }
theorem Ow.word (L : Ow H d a e x) {M : List Int} (hM : M.length = 774) : Ow (upd H a.m (.lst (M.map V.int))) d a e { x with mem := M } := by
  obtain ⟨t, ko, _⟩ := L.kOwn (l := [1]) (H1 := upd H a.m (.lst (M.map V.int))) (fun b o n q => by rw [upd_ne (fun z => n 1 (by decide) (by rw [z]; rfl))]; exact q)
  obtain ⟨sv, hd, hz⟩ := L.hd
  obtain ⟨ts, ht, ht2⟩ := L.ht
  obtain ⟨us, hf, hf2⟩ := L.hf
  obtain ⟨hs, hr, hr2⟩ := L.hr
  obtain ⟨kd, hh, hh2⟩ := L.hh
  exact {
    hd := ⟨sv, ko 0 _ _ (by decide) rfl hd, hz.mono t⟩
    hm := upd_same
    hl := ko 2 _ _ (by decide) rfl L.hl
    ht := ⟨ts, ko 3 _ _ (by decide) rfl ht, ht2.mono t⟩
    hf := ⟨us, ko 4 _ _ (by decide) rfl hf, hf2.mono t⟩
    hr := ⟨hs, ko 5 _ _ (by decide) rfl hr, hr2.mono t⟩
    hi := ko 6 _ _ (by decide) rfl L.hi
    hh := ⟨kd, ko 7 _ _ (by decide) rfl hh, hh2.mono t⟩
    lm := hM
    nd := L.nd }
theorem Ow.la (L : Ow H d a e x) {k : Nat} : Ow H d a e { x with la := k } := ⟨L.hd, L.hm, L.hl, L.ht, L.hf, L.hr, L.hi, L.hh, L.lm, L.nd⟩
theorem Ow.sent (L : Ow H d a e x) {s : List (Int × Int)} : Ow H d a e { x with sent := s } := ⟨L.hd, L.hm, L.hl, L.ht, L.hf, L.hr, L.hi, L.hh, L.lm, L.nd⟩
end
/-! ### what is promised -/
def oneV : Option Str → V
  | some s => .str s
  | none => .non
def spOPass : Sp := fun vs H Q _ => ∃ (d : Addr) (a : Oa) (e : Oe) (x : Bd) (n : Nat), vs = [.ref d, .int (n : Int)] ∧ Ow H d a e x ∧ Ok x ∧ n ≤ 1000 ∧ ∀ H', Fo d a.m H H' → Ow H' d a e (passM n x) → Q .non H'
def spOBar : Sp := fun vs H Q _ => ∃ (i : Int) (c : Bool), vs = [.int i, .bl c] ∧ ∀ H' v, Same H H' → v = oneV (barM (c, i)) → Q v H'
def spOLay : Sp := fun vs H Q _ => ∃ (d : Addr) (a : Oa) (e : Oe) (x : Bd) (i v : Int), vs = [.ref d, .int i, .int v] ∧ Ow H d a e x ∧ Ok x ∧ 0 ≤ i ∧ i < 774 ∧ W16 v ∧ ∀ H', Fo d a.m H H' → Ow H' d a e (putWM i v x) → Q .non H'
def spOHalt : Sp := fun vs H Q _ => ∃ (d : Addr) (a : Oa) (e : Oe) (x : Bd) (v : V) (s : Str × List Int), vs = [.ref d, v] ∧ Ow H d a e x ∧ StopAt H v (some s) ∧ ∀ H', Fo d a.m H H' → Ow H' d a e { x with stop := some s } → Q (.str "stopped") H'
def spODo : Sp := fun vs H Q _ => ∃ (d lp : Addr) (a : Oa) (e : Oe) (x : Bd) (op : Nat) (n : Int), vs = [.ref d, .int (op : Int), .int n, .ref lp] ∧ Ow H d a e x ∧ Ok x ∧ H lp = some (.lst ((touM op n x.b x.sp).map fun t => V.int t.2)) ∧ 1 ≤ op ∧ op < 23 ∧ 0 ≤ n ∧ n < 1024 ∧
  (∀ t ∈ touM op n x.b x.sp, 0 ≤ t.2 ∧ t.2 < 774) ∧ lp ≠ a.m ∧ ∀ H', Fo d a.m H H' → Ow H' d a e (doM op n (readsM x.mem (touM op n x.b x.sp)) x) → Q .non H'
end Bh

/-! The law's own board: beats, bars, what is laid. -/
namespace Bh
open PySem PySem.Spec PyProof.Rows L2
theorem ifG {c : Bool} {R : Hp → Prop} {H : Hp} {A : Prop} (I : Hp → Prop) (h3 : ∀ H', I H' → R H') (h2 : c = false → I H) (h1 : c = true → (∀ H', I H' → R H') → A) : if c = true then A else R H := by
  cases c with
  | true => exact h1 rfl h3
  | false => exact h3 H (h2 rfl)
theorem kSN (c : Bool) : atI [V.str "still", V.non] (if c = true then 1 else 0) = some (if c = true then .non else .str "still") := by cases c <;> rfl
theorem bar_far {k : Bool} {a : Int} (h : ¬ (0 ≤ a ∧ a < 774)) : barM (k, a) = some "far" := if_pos h
theorem bar_rd {a : Int} (h : 0 ≤ a ∧ a < 774) : barM (false, a) = none := by
  unfold barM
  rw [if_neg (fun z => z h)]
  rfl
theorem bar_wr {a : Int} (h : 0 ≤ a ∧ a < 774) : barM (true, a) = if a < 512 then some ("flash" : Str) else if a = 772 then some ("still" : Str) else none := by
  unfold barM
  rw [if_neg (fun z => z h), if_neg (by intro z; cases z)]
theorem Ow.put {H : Hp} {d : Addr} {a : Oa} {e : Oe} {x : Bd} {i v : Int} (L : Ow H d a e { x with mem := putMM i v x.mem }) : Ow H d a e (putWM i v x) := by
  unfold putWM sendM
  split
  · exact L.sent (s := x.sent ++ [(x.beat, v)])
  · exact L
theorem dI (i j : Int) : decide (V.int i = V.int j) = decide (i = j) := by
  by_cases h : i = j
  · rw [decide_eq_true h, h]; exact decide_eq_true rfl
  · rw [decide_eq_false h]; exact decide_eq_false fun z => h (V.int.inj z)
section
variable {P : Program} {w : World} {K : PySem.W.Frag} {mg : Str → Option Value} {base : Heap} {CB CM : Addr}
abbrev sLpass : Stmt := topS 106
def scLpassN : List Str := ["_law_s", "_law_many", "_law_m", "_law_k", "_law_level"]
theorem scLpass : FnScope scLpassN ["_law_s", "_law_many"] (defScope sLpass) := ⟨rfl, rfl, rfl, by decide +kernel, rfl, by decide +kernel, by decide +kernel⟩
theorem ok_Lpass {f : Addr} {fd : FuncData} (F : Fun K "_law_pass" "_law_pass" sLpass f fd) (T : Tx K mg CB CM) : FnOk P w K mg base CX0 1 f fd ["_law_s", "_law_many"] (spOPass) := by
  refine F.ok scLpass (fun vs H Q E h => by obtain ⟨_, _, _, _, _, rfl, _⟩ := h; rfl) (fun cdv A outer s H vs Q E hr h => ?_)
  have hu := hu_of hr
  have z_range := T.z_range
  obtain ⟨d, a, e, x, n, rfl, L0, O0, hn, q⟩ := h
  obtain ⟨sv0, hd0, hz0⟩ := L0.hd
  refine ⟨_, (pss_cons (ps_set (i := 2) scLpass.nd rfl (.inl rfl) (pe_dget hu (pv 0) pe_str (fun _ _ => rfl)))
    (pss_one (ps_for PassesOwn.never rfl (pi_range1 (by rfl) z_range (pa_cons (pv 1) pa_nil)) (pg_name (i := 3) scLpass.nd rfl (.inl rfl))
      (pss_cons (ps_dput hu (pv 0) pe_str (pe_op op_add (pe_dget hu (pv 0) pe_str (fun _ _ => rfl)) pe_int) rfl)
    (pss_cons (ps_set (i := 4) scLpass.nd rfl (.inl rfl) (pe_dget2 hu (pe_dget hu (pv 0) pe_str (fun _ _ => rfl)) (pe_dget hu (pv 0) pe_str (fun _ _ => rfl)) (pe_ix ix_list (pv 2) pe_int (fun _ _ => rfl)) ⟨rfl, rfl, rfl, rfl⟩))
    (pss_cons (ps_if (PW.pt (pw_and (pt_cmpR op_eq (pe_op op_mod (pv 4) pe_int) pe_int (nomark _)) (pw_and1 (pt_cmpR op_eq (pe_op op_mod (pe_ix ix_list (pv 2) pe_int (fun _ _ => rfl)) pe_int) pe_int (nomark _))))) (pss_one (ps_asg (pe_op op_or (pe_ix ix_list (pv 2) pe_int (fun _ _ => rfl)) pe_int) (pg_sub (pv 2) pe_int set_list))) pss_nil)
    (pss_cons (ps_asg (pv 4) (pg_sub (pv 2) pe_int set_list))
    (pss_one (ps_if (pt_cmpR op_gt (pe_ix ix_list (pv 2) pe_int (fun _ _ => rfl)) pe_int (nomark _)) (pss_cons (ps_asg (pe_op op_add (pe_ix ix_list (pv 2) pe_int (fun _ _ => rfl)) pe_int) (pg_sub (pv 2) pe_int set_list))
    (pss_one (ps_if (pt_cmpR op_ge (pe_ix ix_list (pv 2) pe_int (fun _ _ => rfl)) (pe_ix ix_list (pv 2) pe_int (fun _ _ => rfl)) (nomark _)) (pss_cons (ps_asg pe_int (pg_sub (pv 2) pe_int set_list))
    (pss_one (ps_asg (pe_op op_or (pe_ix ix_list (pv 2) pe_int (fun _ _ => rfl)) pe_int) (pg_sub (pv 2) pe_int set_list)))) pss_nil))) pss_nil))))))))), ?_⟩
  refine ⟨_, rfl, d, _, rfl, dg (k := Sum.inr "m") hd0 oG_m, ?_⟩
  refine ⟨_, rfl, (n : Int), rfl, by omega, by omega, ?_⟩
  refine for_range (lo := 0) (n := ((n : Int)).toNat) (fun i σ H' => ∃ (y3 y4 : Option V) (z : Bd), σ = [some (.ref d), some (.int (n : Int)), some (.ref a.m), y3, y4] ∧ Fo d a.m H H' ∧ Ow H' d a e z ∧ Ok z ∧ passM (n - i) z = passM n x) ⟨none, none, x, rfl, Fo.refl, L0, O0, rfl⟩ ?_ ?_
  · rintro i σ H1 hi ⟨y3, y4, z, rfl, F1, L, O, ez⟩
    have hin : i < n := by omega
    obtain ⟨sv, hd, hz⟩ := L.hd
    refine ⟨_, rfl, d, _, rfl, dg (k := Sum.inr "beat") hd oG_beat, _, _, rfl, rfl, _, rfl, d, _, rfl, dpO (k := Sum.inr "beat") hd oP_beat, ?_⟩
    have L1 : Ow (upd H1 d (.dK (owD a e { z with beat := z.beat + 1 } sv))) d a e { z with beat := z.beat + 1 } := L.dict hz rfl rfl
    have F2 := F1.trans (Fo.ud (o := .dK (owD a e { z with beat := z.beat + 1 } sv)))
    clear F1 hd hz
    generalize upd H1 d (.dK (owD a e { z with beat := z.beat + 1 } sv)) = H2 at *
    obtain ⟨sv1, hd1, hz1⟩ := L1.hd
    refine ⟨_, rfl, d, _, rfl, dg (k := Sum.inr "line") hd1 oG_line, a.ln, rfl, .inl ⟨_, .inl L1.hl⟩, _, rfl, d, _, rfl, dg (k := Sum.inr "beat") hd1 oG_beat, _, rfl, a.m, _, _, _, rfl, rfl, SqL.of L1.hm, atI_rd (by decide) (by rw [L1.lm]; decide), _, DGet.k (k := Sum.inl (z.beat + 1)) L1.hl, ?_⟩
    have elv : (valV (lnD z.line) (Sum.inl (z.beat + 1))).getD (.int (rd z.mem 772)) = .int (lvM z) := by
      rw [ln_get O.ln]
      unfold lvM
      split <;> rfl
    rw [elv]
    have fin : ∀ H5 M5, M5 = lawTim (lawLine (lvM z) z.mem) → Fo d a.m H H5 → Ow H5 d a e { z with beat := z.beat + 1, mem := M5 } → ∃ z', Fo d a.m H H5 ∧ Ow H5 d a e z' ∧ Ok z' ∧ passM (n - (i + 1)) z' = passM n x := fun H5 M5 eM F5 L5 => by
      subst eM
      have e1 := one_eq O
      refine ⟨passOneM z, F5, ?_, O.one, ?_⟩
      · rw [e1]
        exact L5.la
      · rw [← ez]
        have e3 : n - i = (n - (i + 1)) + 1 := by omega
        rw [e3]
        rfl
    refine ⟨_, rfl, _, _, rfl, rfl, (by show (0 : Int) < 2; decide), rfl, _, rfl, ?_⟩
    apply ifG (H := H2) (fun H' => Fo d a.m H H' ∧ Ow H' d a e { z with beat := z.beat + 1, mem := if lvM z % 2 = 1 ∧ rd z.mem 772 % 2 = 0 then stM z.mem 770 (Builtin.bitOr (rd z.mem 770) 2) else z.mem })
    case h2 =>
      intro h
      rw [if_neg (fun y => of_decide_eq_false h (congrArg V.int y.1))]
      exact ⟨F2, L1⟩
    case h1 =>
      intro h1 k
      refine ⟨_, rfl, a.m, _, _, _, rfl, rfl, SqL.of L1.hm, atI_rd (by decide) (by rw [L1.lm]; decide), _, _, rfl, rfl, (by show (0 : Int) < 2; decide), rfl, _, rfl, ifB (fun h2 => ?_) (fun h2 => k _ ?_)⟩
      · refine ⟨_, rfl, a.m, _, _, _, rfl, rfl, SqL.of L1.hm, atI_rd (by decide) (by rw [L1.lm]; decide), _, _, rfl, rfl, _, rfl, a.m, _, _, _, rfl, rfl, L1.hm, ixN_in (by decide) (by rw [List.length_map, L1.lm]; decide), ?_⟩
        rw [set_map]
        refine k _ ⟨F2.trans Fo.um, ?_⟩
        rw [if_pos ⟨V.int.inj (of_decide_eq_true h1), V.int.inj (of_decide_eq_true h2)⟩]
        exact L1.word (by rw [stM_len]; exact L1.lm)
      · rw [if_neg (fun y => of_decide_eq_false h2 (congrArg V.int y.2))]
        exact ⟨F2, L1⟩
    rintro H3 ⟨F3, L3⟩
    clear F2 L1 hd1 hz1 elv
    refine ⟨_, rfl, _, rfl, a.m, _, _, _, rfl, rfl, L3.hm, ixN_in (by decide) (by rw [List.length_map, L3.lm]; decide), ?_⟩
    rw [set_map]
    have L4 := L3.word (M := lawLine (lvM z) z.mem) (by rw [lawLine_len]; exact O.lm)
    have F4 := F3.trans (Fo.um (o := .lst ((lawLine (lvM z) z.mem).map V.int)))
    have eM : stM (if lvM z % 2 = 1 ∧ rd z.mem 772 % 2 = 0 then stM z.mem 770 (Builtin.bitOr (rd z.mem 770) 2) else z.mem) 772 (lvM z) = lawLine (lvM z) z.mem := rfl
    rw [eM]
    clear F3 L3 eM
    generalize upd H3 a.m (.lst ((lawLine (lvM z) z.mem).map V.int)) = H4 at *
    generalize eM4 : lawLine (lvM z) z.mem = M4 at *
    refine ⟨_, rfl, a.m, _, _, _, rfl, rfl, SqL.of L4.hm, atI_rd (by decide) (by rw [L4.lm]; decide), _, _, rfl, rfl, _, rfl, ifB (fun h => ?_) (fun h => ?_)⟩
    · have h := of_decide_eq_true h
      refine ⟨_, rfl, a.m, _, _, _, rfl, rfl, SqL.of L4.hm, atI_rd (by decide) (by rw [L4.lm]; decide), _, _, rfl, rfl, _, rfl, a.m, _, _, _, rfl, rfl, L4.hm, ixN_in (by decide) (by rw [List.length_map, L4.lm]; decide), ?_⟩
      rw [set_map]
      have L5 := L4.word (M := stM M4 768 (rd M4 768 + 1)) (by rw [stM_len]; exact L4.lm)
      have F5 := F4.trans (Fo.um (o := .lst ((stM M4 768 (rd M4 768 + 1)).map V.int)))
      generalize upd H4 a.m (.lst ((stM M4 768 (rd M4 768 + 1)).map V.int)) = H5 at *
      refine ⟨_, rfl, a.m, _, _, _, rfl, rfl, SqL.of L5.hm, atI_rd (by decide) (by rw [L5.lm]; decide), _, rfl, a.m, _, _, _, rfl, rfl, SqL.of L5.hm, atI_rd (by decide) (by rw [L5.lm]; decide), _, _, rfl, rfl, _, rfl, ifB (fun h2 => ?_) (fun h2 => ?_)⟩
      · have h2 := of_decide_eq_true h2
        refine ⟨_, rfl, a.m, _, _, _, rfl, rfl, L5.hm, ixN_in (by decide) (by rw [List.length_map, L5.lm]; decide), ?_⟩
        rw [set_map]
        have L6 := L5.word (M := stM (stM M4 768 (rd M4 768 + 1)) 768 0) (by rw [stM_len]; exact L5.lm)
        have F6 := F5.trans (Fo.um (o := .lst ((stM (stM M4 768 (rd M4 768 + 1)) 768 0).map V.int)))
        generalize upd H5 a.m (.lst ((stM (stM M4 768 (rd M4 768 + 1)) 768 0).map V.int)) = H6 at *
        refine ⟨_, rfl, a.m, _, _, _, rfl, rfl, SqL.of L6.hm, atI_rd (by decide) (by rw [L6.lm]; decide), _, _, rfl, rfl, _, rfl, a.m, _, _, _, rfl, rfl, L6.hm, ixN_in (by decide) (by rw [List.length_map, L6.lm]; decide), ?_⟩
        rw [set_map]
        obtain ⟨z', a1, a2, a3, a4⟩ := fin _ _ (by unfold lawTim; rw [if_pos h, if_pos h2]) (F6.trans Fo.um) (L6.word (M := stM (stM (stM M4 768 (rd M4 768 + 1)) 768 0) 770 (Builtin.bitOr (rd (stM (stM M4 768 (rd M4 768 + 1)) 768 0) 770) 1)) (by rw [stM_len]; exact L6.lm))
        exact ⟨_, _, z', rfl, a1, a2, a3, a4⟩
      · obtain ⟨z', a1, a2, a3, a4⟩ := fin _ _ (by unfold lawTim; rw [if_pos h, if_neg (of_decide_eq_false h2)]) F5 L5
        exact ⟨_, _, z', rfl, a1, a2, a3, a4⟩
    · obtain ⟨z', a1, a2, a3, a4⟩ := fin _ _ (by unfold lawTim; rw [if_neg (of_decide_eq_false h)]) F4 L4
      exact ⟨_, _, z', rfl, a1, a2, a3, a4⟩
  · rintro σ H1 ⟨y3, y4, z, rfl, F1, L, O, ez⟩
    have e0 : n - ((n : Int)).toNat = 0 := by omega
    rw [e0] at ez
    refine q _ F1 ?_
    rw [← ez]
    exact L
abbrev sLbar : Stmt := topS 107
def scLbarN : List Str := ["_law_address", "_law_puts"]
theorem scLbar : FnScope scLbarN ["_law_address", "_law_puts"] (defScope sLbar) := ⟨rfl, rfl, rfl, by decide +kernel, rfl, by decide +kernel, by decide +kernel⟩
theorem ok_Lbar {f : Addr} {fd : FuncData} (F : Fun K "_law_bar" "_law_bar" sLbar f fd) (T : Tx K mg CB CM) : FnOk P w K mg base CX0 1 f fd ["_law_address", "_law_puts"] (spOBar) := by
  refine F.ok scLbar (fun vs H Q E h => by obtain ⟨_, _, rfl, _⟩ := h; rfl) (fun cdv A outer s H vs Q E hr h => ?_)
  have hu := hu_of hr
  have z_int := T.z_int
  obtain ⟨i, c, rfl, k⟩ := h
  refine ⟨_, (pss_cons (ps_if (PW.pt (pw_or (pt_cmpR op_lt (pv 0) pe_int (nomark _)) (pw_or1 (pt_cmpR op_gt (pv 0) pe_int (nomark _))))) (pss_one (ps_ret pe_str)) pss_nil)
    (pss_cons (ps_if (PW.pt (pw_and (pt_val (pv 1)) (pw_and1 (pt_cmpR op_lt (pv 0) pe_int (nomark _))))) (pss_one (ps_ret pe_str)) pss_nil)
    (pss_one (ps_ret (pe_ix ix_list (pe_lst (pa_cons pe_str (pa_cons pe_non pa_nil))) (pe_callTy call_int1 (by rfl) z_int (by decide +kernel) (pa_cons (pe_or (pe_not (pv 1)) (pe_one (pe_cmpR op_ne (pv 0) pe_int (nomark _)))) pa_nil)) (fun _ _ => rfl)))))), ?_⟩
  have out : ¬ (0 ≤ i ∧ i < 774) → Q (.str "far") H := fun hf => k H _ (Same.refl _) (by rw [bar_far hf]; rfl)
  refine ⟨_, rfl, _, _, rfl, rfl, _, rfl, ifB (fun h1 => ?_) (fun h1 => ⟨_, rfl, _, _, rfl, rfl, _, rfl, ifB (fun h2 => ?_) (fun h2 => ?_)⟩)⟩
  · exact out (fun z => by have := of_decide_eq_true h1; omega)
  · exact out (fun z => by have := of_decide_eq_true h2; omega)
  have g1 := of_decide_eq_false h1
  have g2 := of_decide_eq_false h2
  have hi : 0 ≤ i ∧ i < 774 := ⟨by omega, by omega⟩
  clear out
  cases c with
  | false =>
    refine ⟨_, rfl, _, rfl, ifB (fun h => by cases h) (fun _ => ?_)⟩
    refine ⟨(by show 2 ≤ sizeLine; decide), fun l nl => ?_⟩
    refine ⟨_, rfl, _, rfl, _, rfl, .inr ⟨_, rfl, l, _, _, _, rfl, rfl, SqL.of upd_same, kSN _, ?_⟩⟩
    exact k _ _ (same_upd' nl) (by rw [bar_rd hi]; rfl)
  | true =>
    refine ⟨_, rfl, _, rfl, ifB (fun _ => ?_) (fun h => by cases h)⟩
    refine ⟨_, rfl, _, _, rfl, rfl, _, rfl, ifB (fun h3 => ?_) (fun h3 => ?_)⟩
    · exact k H _ (Same.refl _) (by rw [bar_wr hi, if_pos (of_decide_eq_true h3)]; rfl)
    refine ⟨(by show 2 ≤ sizeLine; decide), fun l nl => ?_⟩
    refine ⟨_, rfl, _, rfl, _, rfl, _, rfl, rfl, .inr ⟨_, rfl, l, _, _, _, rfl, rfl, SqL.of upd_same, kSN _, ?_⟩⟩
    refine k _ _ (same_upd' nl) ?_
    rw [bar_wr hi, if_neg (of_decide_eq_false h3), dI]
    by_cases h4 : i = 772
    · rw [if_pos h4, decide_eq_true h4]
      rfl
    · rw [if_neg h4, decide_eq_false h4]
      rfl
abbrev sLlay : Stmt := topS 108
def scLlayN : List Str := ["_law_s", "_law_address", "_law_word"]
theorem scLlay : FnScope scLlayN ["_law_s", "_law_address", "_law_word"] (defScope sLlay) := ⟨rfl, rfl, rfl, by decide +kernel, rfl, by decide +kernel, by decide +kernel⟩
theorem ok_Llay {f : Addr} {fd : FuncData} (F : Fun K "_law_lay" "_law_lay" sLlay f fd) (T : Tx K mg CB CM) : FnOk P w K mg base CX0 1 f fd ["_law_s", "_law_address", "_law_word"] (spOLay) := by
  refine F.ok scLlay (fun vs H Q E h => by obtain ⟨_, _, _, _, _, _, rfl, _⟩ := h; rfl) (fun cdv A outer s H vs Q E hr h => ?_)
  have hu := hu_of hr
  obtain ⟨d, a, e, x, i, v, rfl, L, O, a0, a1, v16, k⟩ := h
  obtain ⟨sv, hd, hz⟩ := L.hd
  refine ⟨_, (pss_cons (ps_if (pt_cmpR op_eq (pv 1) pe_int (nomark _)) (pss_one (ps_set (i := 2) scLlay.nd rfl (.inl rfl) (pe_op op_sub (pe_ix ix_list (pe_dget hu (pv 0) pe_str (fun _ _ => rfl)) pe_int (fun _ _ => rfl)) (pe_op op_and (pe_ix ix_list (pe_dget hu (pv 0) pe_str (fun _ _ => rfl)) pe_int (fun _ _ => rfl)) (pv 2))))) pss_nil)
    (pss_one (ps_asg (pv 2) (pg_sub (pe_dget hu (pv 0) pe_str (fun _ _ => rfl)) (pv 1) set_list)))), ?_⟩
  refine ⟨_, rfl, rfl, _, rfl, ifB (fun h => ?_) (fun h => ?_)⟩
  · have ea : i = 770 := V.int.inj (of_decide_eq_true h)
    subst ea
    refine ⟨_, rfl, d, _, rfl, dg (k := Sum.inr "m") hd oG_m, a.m, _, _, _, rfl, rfl, SqL.of L.hm, atI_rd (by decide) (by rw [L.lm]; decide), _, rfl, d, _, rfl, dg (k := Sum.inr "m") hd oG_m, a.m, _, _, _, rfl, rfl, SqL.of L.hm, atI_rd (by decide) (by rw [L.lm]; decide), _, rfl, _, _, rfl, rfl, _, _, rfl, rfl, _, rfl, _, rfl, d, _, rfl, dg (k := Sum.inr "m") hd oG_m, _, rfl, a.m, _, _, _, rfl, rfl, L.hm, ixN_in (by decide) (by rw [List.length_map, L.lm]; decide), ?_⟩
    rw [set_map]
    refine k _ (Fo.um (o := .lst ((stM x.mem 770 (rd x.mem 770 - Builtin.bitAnd (rd x.mem 770) v)).map V.int))) (Ow.put ?_)
    have em : putMM 770 v x.mem = stM x.mem 770 (rd x.mem 770 - Builtin.bitAnd (rd x.mem 770) v) := by
      unfold putMM
      rw [if_pos rfl, clear16 (O.w.rd _) v16]
    rw [em]
    exact L.word (by rw [stM_len]; exact L.lm)
  · have ea : ¬ i = 770 := fun z => of_decide_eq_false h (congrArg V.int z)
    refine ⟨_, rfl, _, rfl, d, _, rfl, dg (k := Sum.inr "m") hd oG_m, _, rfl, a.m, _, _, _, rfl, rfl, L.hm, ixN_in a0 (by rw [List.length_map, L.lm]; exact a1), ?_⟩
    rw [set_map]
    refine k _ (Fo.um (o := .lst ((stM x.mem i v).map V.int))) (Ow.put ?_)
    rw [show putMM i v x.mem = stM x.mem i v from if_neg ea]
    exact L.word (by rw [stM_len]; exact L.lm)
abbrev sLhalt : Stmt := topS 109
def scLhaltN : List Str := ["_law_s", "_law_cause"]
theorem scLhalt : FnScope scLhaltN ["_law_s", "_law_cause"] (defScope sLhalt) := ⟨rfl, rfl, rfl, by decide +kernel, rfl, by decide +kernel, by decide +kernel⟩
theorem ok_Lhalt {f : Addr} {fd : FuncData} (F : Fun K "_law_halt" "_law_halt" sLhalt f fd) (T : Tx K mg CB CM) : FnOk P w K mg base CX0 1 f fd ["_law_s", "_law_cause"] (spOHalt) := by
  refine F.ok scLhalt (fun vs H Q E h => by obtain ⟨_, _, _, _, _, _, rfl, _⟩ := h; rfl) (fun cdv A outer s H vs Q E hr h => ?_)
  have hu := hu_of hr
  obtain ⟨d, a, e, x, v, s_, rfl, L, hv, k⟩ := h
  obtain ⟨sv, hd, hz⟩ := L.hd
  refine ⟨_, (pss_cons (ps_dput hu (pv 0) pe_str (pv 1) rfl)
    (pss_one (ps_ret pe_str))), ?_⟩
  exact ⟨_, rfl, _, rfl, d, _, rfl, dpO (k := Sum.inr "stop") hd oP_stop, k _ Fo.ud (L.dict (y := { x with stop := some s_ }) hv rfl rfl)⟩
end
end Bh

/-! The law's own board: what a deed does. -/
namespace Bh
open PySem PySem.Spec PyProof.Rows L2
section
variable {X : Cx}
/-- d.update(e) -/
def rDUpd : V → List V → Hp → VK → Prop := fun x vs H Q => ∃ (a b : Addr) (ks ls : List (Key × V)), x = .ref a ∧ vs = [.ref b] ∧ a ≠ b ∧ H a = some (.dK ks) ∧ H b = some (.dK ls) ∧ ks.length + ls.length ≤ sizeLine ∧ Q .non (upd H a (.dK (mergeK ks ls)))
theorem mtd_update : MtR X "dict.update" rDUpd := by
  intro pins s σ H x vs v us Q I rx rv h
  obtain ⟨a, b, ks, ls, rfl, rfl, hab, ha, hb, hsz, q⟩ := h
  cases rx
  cases rv with
  | cons r1 rr =>
    cases rr
    cases r1
    obtain ⟨z1, d1, va, ra, da⟩ := dk_of I.hok ha
    obtain ⟨z2, d2, vb, rb, db⟩ := dk_of I.hok hb
    refine call_meetsIn PySem.F.slot_dict_update da.typeIs PySem.F.entry_dict_update (PySem.F.args_dict_update_2 _ _) (meets_dict_update (mixKind X.prog X.w) a b hab d2) ⟨va, vb, da, db, by rw [← ra.length, ← rb.length]; exact hsz, fun h' da' db' hs => ?_⟩
    have he : ∃ q, h'.get? a = some q := let ⟨q, _, _, hq, _⟩ := da'; ⟨q, hq⟩
    exact ⟨.non, _, d_write (t' := s.toks) I (by rw [ha]; exact True.intro) hs he (dk_new (Nat.le_trans (length_mergeK ls ks) hsz) d1 (KV.merge rb ra) da'), rfl, q⟩
end
/-- many ways go on alike -/
theorem joinR {Goal : Prop} {I : Hp → Prop} (R : Hp → Prop) (body : (∀ G', I G' → R G') → Goal) (key : ∀ G', I G' → R G') : Goal := body key
theorem joinA {Goal : Prop} {I : Hp → Addr → Prop} (R : Hp → Addr → Prop) (body : (∀ G' a, I G' a → R G' a) → Goal) (key : ∀ G' a, I G' a → R G' a) : Goal := body key
theorem in_ints (z : Int) : ∀ ys : List Int, inV (.int z) (ys.map V.int) = decide (z ∈ ys)
  | [] => rfl
  | y :: ys => by
    have ih := in_ints z ys
    unfold inV at ih ⊢
    rw [List.map_cons, List.any_cons, ih]
    show ((y == z) || decide (z ∈ ys)) = decide (z ∈ y :: ys)
    by_cases e : y = z
    · subst e
      simp
    · have e2 : ¬ z = y := fun q => e q.symm
      have : (y == z) = false := by simpa using e
      rw [this]
      simp [e2]
theorem flat_ints (ys : List Int) : (ys.map V.int).all flatV = true := by
  rw [List.all_eq_true]
  intro v hv
  obtain ⟨y, _, rfl⟩ := List.mem_map.mp hv
  rfl
def dn1 (op p0 : Int) (x : Bd) : Bd := if op ∈ ([3, 9, 17] : List Int) then putWM p0 x.a x else x
def dn2 (op p0 : Int) (y : Bd) : Bd := if op = 15 then putWM p0 y.pc y else y
def dn5 (op n a : Int) (y : Bd) : Bd := if op ∈ ([12, 15] : List Int) ∨ (op = 13 ∧ y.zero = true) ∨ (op = 14 ∧ 32768 ≤ a) then { y with pc := n } else y
def dn6 (op l : Int) (y : Bd) : Bd := if op ∈ ([16, 21] : List Int) then { y with pc := l } else y
def dn7 (op w0 : Int) (y : Bd) : Bd := if op = 21 then { y with zero := decide (w0 % 2 = 1), lets := true } else y
def dn8 (op : Int) (y : Bd) : Bd := if op = 19 then { y with asleep := true } else y
def dn9 (op n : Int) (y : Bd) : Bd := if op = 20 then { y with lets := decide (n % 2 = 1) } else y
def dn10 (op a : Int) (y : Bd) : Bd := if op ∈ ([10, 11] : List Int) then { y with b := a } else y
def gv1 (n a b : Int) : List (Key × V) := [(Sum.inl 1, .int n), (Sum.inl 11, .int b), (Sum.inl 22, .int (a / 2))]
def gv2 (n a b w0 : Int) : List (Key × V) := [(Sum.inl 1, .int n), (Sum.inl 11, .int b), (Sum.inl 22, .int (a / 2)), (Sum.inl 2, .int w0), (Sum.inl 8, .int w0), (Sum.inl 18, .int w0), (Sum.inl 4, .int ((a + w0) % 65536)), (Sum.inl 5, .int ((a - w0) % 65536)), (Sum.inl 6, .int (Builtin.bitAnd a w0)), (Sum.inl 7, .int (Builtin.bitXor a w0))]
def gvM (op : Nat) (n a b : Int) (ws : List Int) : Option Int :=
  match op with
  | 1 => some n
  | 11 => some b
  | 22 => some (a / 2)
  | 2 => some (ws.getD 0 0)
  | 8 => some (ws.getD 0 0)
  | 18 => some (ws.getD 0 0)
  | 4 => some ((a + ws.getD 0 0) % 65536)
  | 5 => some ((a - ws.getD 0 0) % 65536)
  | 6 => some (Builtin.bitAnd a (ws.getD 0 0))
  | 7 => some (Builtin.bitXor a (ws.getD 0 0))
  | _ => none
def dn11 (g : Option Int) (y : Bd) : Bd := match g with
  | none => y
  | some v => giveM v y
def dn3 (op : Nat) (y : Bd) : Bd := match op with
  | 15 => { y with sp := y.sp - 1 }
  | 17 => { y with sp := y.sp - 1 }
  | 16 => { y with sp := y.sp + 1 }
  | 18 => { y with sp := y.sp + 1 }
  | 21 => { y with sp := y.sp + 2 }
  | _ => y
def spd (op : Nat) : Int := match op with
  | 15 => -1
  | 17 => -1
  | 16 => 1
  | 18 => 1
  | 21 => 2
  | _ => 0
def spV : List (Key × V) := [(Sum.inl 15, .int (-1)), (Sum.inl 17, .int (-1)), (Sum.inl 16, .int 1), (Sum.inl 18, .int 1), (Sum.inl 21, .int 2)]
theorem spV_at {op : Nat} (h : op < 23) : (valV spV (Sum.inl (op : Int))).getD (.int 0) = .int (spd op) := by
  match op, h with
  | 0, _ => kernel_rfl
  | 1, _ => kernel_rfl
  | 2, _ => kernel_rfl
  | 3, _ => kernel_rfl
  | 4, _ => kernel_rfl
  | 5, _ => kernel_rfl
  | 6, _ => kernel_rfl
  | 7, _ => kernel_rfl
  | 8, _ => kernel_rfl
  | 9, _ => kernel_rfl
  | 10, _ => kernel_rfl
  | 11, _ => kernel_rfl
  | 12, _ => kernel_rfl
  | 13, _ => kernel_rfl
  | 14, _ => kernel_rfl
  | 15, _ => kernel_rfl
  | 16, _ => kernel_rfl
  | 17, _ => kernel_rfl
  | 18, _ => kernel_rfl
  | 19, _ => kernel_rfl
  | 20, _ => kernel_rfl
  | 21, _ => kernel_rfl
  | 22, _ => kernel_rfl
  | n + 23, h => omega
theorem dn3_eq {op : Nat} (h : op < 23) (y : Bd) : ({ y with sp := y.sp + spd op } : Bd) = dn3 op y := by
  match op, h with
  | 0, _ => show ({ y with sp := y.sp + 0 } : Bd) = y; rw [Int.add_zero]
  | 1, _ => show ({ y with sp := y.sp + 0 } : Bd) = y; rw [Int.add_zero]
  | 2, _ => show ({ y with sp := y.sp + 0 } : Bd) = y; rw [Int.add_zero]
  | 3, _ => show ({ y with sp := y.sp + 0 } : Bd) = y; rw [Int.add_zero]
  | 4, _ => show ({ y with sp := y.sp + 0 } : Bd) = y; rw [Int.add_zero]
  | 5, _ => show ({ y with sp := y.sp + 0 } : Bd) = y; rw [Int.add_zero]
  | 6, _ => show ({ y with sp := y.sp + 0 } : Bd) = y; rw [Int.add_zero]
  | 7, _ => show ({ y with sp := y.sp + 0 } : Bd) = y; rw [Int.add_zero]
  | 8, _ => show ({ y with sp := y.sp + 0 } : Bd) = y; rw [Int.add_zero]
  | 9, _ => show ({ y with sp := y.sp + 0 } : Bd) = y; rw [Int.add_zero]
  | 10, _ => show ({ y with sp := y.sp + 0 } : Bd) = y; rw [Int.add_zero]
  | 11, _ => show ({ y with sp := y.sp + 0 } : Bd) = y; rw [Int.add_zero]
  | 12, _ => show ({ y with sp := y.sp + 0 } : Bd) = y; rw [Int.add_zero]
  | 13, _ => show ({ y with sp := y.sp + 0 } : Bd) = y; rw [Int.add_zero]
  | 14, _ => show ({ y with sp := y.sp + 0 } : Bd) = y; rw [Int.add_zero]
  | 15, _ => show ({ y with sp := y.sp + -1 } : Bd) = { y with sp := y.sp - 1 }; rw [Int.sub_eq_add_neg]
  | 16, _ => rfl
  | 17, _ => show ({ y with sp := y.sp + -1 } : Bd) = { y with sp := y.sp - 1 }; rw [Int.sub_eq_add_neg]
  | 18, _ => rfl
  | 19, _ => show ({ y with sp := y.sp + 0 } : Bd) = y; rw [Int.add_zero]
  | 20, _ => show ({ y with sp := y.sp + 0 } : Bd) = y; rw [Int.add_zero]
  | 21, _ => rfl
  | 22, _ => show ({ y with sp := y.sp + 0 } : Bd) = y; rw [Int.add_zero]
  | n + 23, h => omega
theorem gv1_at {op : Nat} (h : op < 23) {n a b : Int} (hw : nR op = 0) : valV (gv1 n a b) (Sum.inl (op : Int)) = (gvM op n a b []).map V.int := by
  match op, h with
  | 0, _ => kernel_rfl
  | 1, _ => kernel_rfl
  | 2, _ => cases hw
  | 3, _ => kernel_rfl
  | 4, _ => cases hw
  | 5, _ => cases hw
  | 6, _ => cases hw
  | 7, _ => cases hw
  | 8, _ => cases hw
  | 9, _ => kernel_rfl
  | 10, _ => kernel_rfl
  | 11, _ => kernel_rfl
  | 12, _ => kernel_rfl
  | 13, _ => kernel_rfl
  | 14, _ => kernel_rfl
  | 15, _ => kernel_rfl
  | 16, _ => cases hw
  | 17, _ => kernel_rfl
  | 18, _ => cases hw
  | 19, _ => kernel_rfl
  | 20, _ => kernel_rfl
  | 21, _ => cases hw
  | 22, _ => kernel_rfl
  | n + 23, h => omega
theorem gv2_at {op : Nat} (h : op < 23) {n a b w0 : Int} {wr : List Int} : valV (gv2 n a b w0) (Sum.inl (op : Int)) = (gvM op n a b (w0 :: wr)).map V.int := by
  match op, h with
  | 0, _ => kernel_rfl
  | 1, _ => kernel_rfl
  | 2, _ => kernel_rfl
  | 3, _ => kernel_rfl
  | 4, _ => kernel_rfl
  | 5, _ => kernel_rfl
  | 6, _ => kernel_rfl
  | 7, _ => kernel_rfl
  | 8, _ => kernel_rfl
  | 9, _ => kernel_rfl
  | 10, _ => kernel_rfl
  | 11, _ => kernel_rfl
  | 12, _ => kernel_rfl
  | 13, _ => kernel_rfl
  | 14, _ => kernel_rfl
  | 15, _ => kernel_rfl
  | 16, _ => kernel_rfl
  | 17, _ => kernel_rfl
  | 18, _ => kernel_rfl
  | 19, _ => kernel_rfl
  | 20, _ => kernel_rfl
  | 21, _ => kernel_rfl
  | 22, _ => kernel_rfl
  | n + 23, h => omega
theorem tou_nil {op : Nat} (h : op < 23) {n b sp : Int} (e : touM op n b sp = []) : nR op = 0 := by
  match op, h, e with
  | 0, _, e => rfl
  | 1, _, e => rfl
  | 2, _, e => cases e
  | 3, _, e => cases e
  | 4, _, e => cases e
  | 5, _, e => cases e
  | 6, _, e => cases e
  | 7, _, e => cases e
  | 8, _, e => cases e
  | 9, _, e => cases e
  | 10, _, e => rfl
  | 11, _, e => rfl
  | 12, _, e => rfl
  | 13, _, e => rfl
  | 14, _, e => rfl
  | 15, _, e => cases e
  | 16, _, e => cases e
  | 17, _, e => cases e
  | 18, _, e => cases e
  | 19, _, e => rfl
  | 20, _, e => rfl
  | 21, _, e => cases e
  | 22, _, e => rfl
  | n + 23, h, _ => omega
def wsO (op : Nat) (n : Int) (x : Bd) : List Int := (touM op n x.b x.sp).map fun t => rd x.mem t.2
def psO (op : Nat) (n : Int) (x : Bd) : List Int := (touM op n x.b x.sp).map fun t => t.2
theorem do_eq {op : Nat} (o1 : 1 ≤ op) (o2 : op < 23) {n : Int} {x : Bd} :
    dn11 (gvM op n x.a x.b (wsO op n x)) (dn10 op x.a (dn9 op n (dn8 op (dn7 op ((wsO op n x).getD 0 0) (dn6 op ((wsO op n x).getLastD 0) (dn5 op n x.a (dn3 op (dn2 op ((psO op n x).getD 0 0) (dn1 op ((psO op n x).getD 0 0) x))))))))) = doM op n (readsM x.mem (touM op n x.b x.sp)) x := by
  match op, o1, o2 with
  | 1, _, _ => rfl
  | 2, _, _ => rfl
  | 3, _, _ => rfl
  | 4, _, _ => rfl
  | 5, _, _ => rfl
  | 6, _, _ => rfl
  | 7, _, _ => rfl
  | 8, _, _ => rfl
  | 9, _, _ => rfl
  | 10, _, _ => rfl
  | 11, _, _ => rfl
  | 12, _, _ => rfl
  | 13, _, _ =>
    show (if ((13 : Nat) : Int) ∈ ([12, 15] : List Int) ∨ (((13 : Nat) : Int) = 13 ∧ x.zero = true) ∨ (((13 : Nat) : Int) = 14 ∧ 32768 ≤ x.a) then ({ x with pc := n } : Bd) else x) = if x.zero = true then { x with pc := n } else x
    by_cases h : x.zero = true
    · rw [if_pos h, if_pos (.inr (.inl ⟨rfl, h⟩))]
    · rw [if_neg h, if_neg (fun z => by rcases z with z | z | z; exact absurd z (by decide); exact h z.2; exact absurd z.1 (by decide))]
  | 14, _, _ =>
    show (if ((14 : Nat) : Int) ∈ ([12, 15] : List Int) ∨ (((14 : Nat) : Int) = 13 ∧ x.zero = true) ∨ (((14 : Nat) : Int) = 14 ∧ 32768 ≤ x.a) then ({ x with pc := n } : Bd) else x) = if 32768 ≤ x.a then { x with pc := n } else x
    by_cases h : 32768 ≤ x.a
    · rw [if_pos h, if_pos (.inr (.inr ⟨rfl, h⟩))]
    · rw [if_neg h, if_neg (fun z => by rcases z with z | z | z; exact absurd z (by decide); exact absurd z.1 (by decide); exact h z.2)]
  | 15, _, _ =>
    show ({ putWM x.sp x.pc x with sp := (putWM x.sp x.pc x).sp - 1, pc := n } : Bd) = { putWM x.sp x.pc x with sp := x.sp - 1, pc := n }
    rw [(putWM_regs x.sp x.pc x).2.2.2.1]
  | 16, _, _ => rfl
  | 17, _, _ =>
    show ({ putWM x.sp x.a x with sp := (putWM x.sp x.a x).sp - 1 } : Bd) = { putWM x.sp x.a x with sp := x.sp - 1 }
    rw [(putWM_regs x.sp x.a x).2.2.2.1]
  | 18, _, _ => rfl
  | 19, _, _ => rfl
  | 20, _, _ => rfl
  | 21, _, _ => rfl
  | 22, _, _ => rfl
  | 0, h, _ => exact absurd h (by decide)
  | n + 23, _, h => exact absurd h (by omega)
theorem dn_b {op : Nat} {n a p0 w0 l : Int} {x : Bd} : (dn9 op n (dn8 op (dn7 op w0 (dn6 op l (dn5 op n a (dn3 op (dn2 op p0 (dn1 op p0 x)))))))).b = x.b := by
  have h1 : ∀ x : Bd, (dn1 op p0 x).b = x.b := fun x => by unfold dn1; split; exact (putWM_regs _ _ x).2.1; rfl
  have h2 : ∀ x : Bd, (dn2 op p0 x).b = x.b := fun x => by unfold dn2; split; exact (putWM_regs _ _ x).2.1; rfl
  have h3 : ∀ x : Bd, (dn3 op x).b = x.b := fun x => by unfold dn3; split <;> rfl
  have h5 : ∀ x : Bd, (dn5 op n a x).b = x.b := fun x => by unfold dn5; split <;> rfl
  have h6 : ∀ x : Bd, (dn6 op l x).b = x.b := fun x => by unfold dn6; split <;> rfl
  have h7 : ∀ x : Bd, (dn7 op w0 x).b = x.b := fun x => by unfold dn7; split <;> rfl
  have h8 : ∀ x : Bd, (dn8 op x).b = x.b := fun x => by unfold dn8; split <;> rfl
  have h9 : ∀ x : Bd, (dn9 op n x).b = x.b := fun x => by unfold dn9; split <;> rfl
  rw [h9, h8, h7, h6, h5, h3, h2, h1]
theorem put_one {op : Nat} (h : (op : Int) ∈ ([3, 9, 17] : List Int) ∨ (op : Int) = 15) {n b sp : Int} : ∃ q, touM op n b sp = [(true, q)] := by
  have e : op = 3 ∨ op = 9 ∨ op = 17 ∨ op = 15 := by
    simp only [List.mem_cons, List.not_mem_nil, or_false] at h
    omega
  rcases e with e | e | e | e <;> subst e
  · exact ⟨n, rfl⟩
  · exact ⟨n + b, rfl⟩
  · exact ⟨sp, rfl⟩
  · exact ⟨sp, rfl⟩
/-- what is kept between the steps -/
structure Dn (H G : Hp) (d : Addr) (oa : Oa) (oe : Oe) (lw lp : Addr) (ws ps : List Int) (y : Bd) : Prop where
  fr : Fo d oa.m H G
  law : Ow G d oa oe y
  hw : G lw = some (.lst (ws.map V.int))
  hp : G lp = some (.lst (ps.map V.int))
  n1 : lw ≠ oa.m
  n3 : lp ≠ oa.m
section
variable {H G G1 : Hp} {d lw lp : Addr} {oa : Oa} {oe : Oe} {ws ps : List Int} {y y1 : Bd}
theorem Dn.same (D : Dn H G d oa oe lw lp ws ps y) (s : Same G G1) : Dn H G1 d oa oe lw lp ws ps y := ⟨D.fr.trans (.of s), D.law.same s, s _ _ D.hw, s _ _ D.hp, D.n1, D.n3⟩
theorem Dn.go (D : Dn H G d oa oe lw lp ws ps y) (f : Fo d oa.m G G1) (L : Ow G1 d oa oe y1) : Dn H G1 d oa oe lw lp ws ps y1 := by
  obtain ⟨sv, hd, _⟩ := D.law.hd
  exact ⟨D.fr.trans f, L, f _ _ (ne_of D.hw hd (by intro z; cases z)) D.n1 D.hw, f _ _ (ne_of D.hp hd (by intro z; cases z)) D.n3 D.hp, D.n1, D.n3⟩
theorem Dn.put (D : Dn H G d oa oe lw lp ws ps y) {sv : V} (L : Ow G d oa oe y) (hz : StopAt G sv y1.stop) (em : y1.mem = y.mem) (el : y1.line = y.line) : Dn H (upd G d (.dK (owD oa oe y1 sv))) d oa oe lw lp ws ps y1 := D.go Fo.ud (L.dict hz em el)
end
section
variable {P : Program} {w : World} {K : PySem.W.Frag} {mg : Str → Option Value} {base : Heap} {CB CM : Addr}
abbrev sLdo : Stmt := topS 113
def scLdoN : List Str := ["_law_s", "_law_op", "_law_x", "_law_spots", "_law_words", "_law_a", "_law_given", "_law_w", "_law_spot"]
theorem scLdo : FnScope scLdoN ["_law_s", "_law_op", "_law_x", "_law_spots"] (defScope sLdo) := ⟨rfl, rfl, rfl, by decide +kernel, rfl, by decide +kernel, by decide +kernel⟩
theorem ok_Ldo {f : Addr} {fd : FuncData} {fL_lay : Addr} {dL_lay : FuncData} (F : Fun K "_law_do" "_law_do" sLdo f fd) (T : Tx K mg CB CM)
    (L_lay : CalF P w K mg base 1 "_law_lay" ["_law_s", "_law_address", "_law_word"] (spOLay) fL_lay dL_lay) : FnOk P w K mg base CX0 2 f fd ["_law_s", "_law_op", "_law_x", "_law_spots"] (spODo) := by
  refine F.ok scLdo (fun vs H Q E h => by obtain ⟨_, _, _, _, _, _, _, rfl, _⟩ := h; rfl) (fun cdv A outer s H vs Q E hr h => ?_)
  have hu := hu_of hr
  obtain ⟨d, lp, oa, oe, x, op, n, rfl, L, O, hlp, o1, o2, m0, m1, hto, nlp, kk⟩ := h
  obtain ⟨sv, hd, hz⟩ := L.hd
  have hu64 := hr.units
  refine ⟨_, (pss_cons (ps_setLc (i := 4) (own := [("_law_spot", 8)]) (g := gName 8) (tt := tYes) (by rfl) scLdo.nd rfl rfl rfl (pi_list (pv 3)) (blkOk_by (own := [("_law_spot", 8)]) (N := scLdoN) (sc := defScope sLdo) (by decide +kernel)) (fun _ _ _ _ _ => (pg_name (i := 8) scLdo.nd rfl (.inl rfl))) (fun _ _ _ _ _ => pts_nil) (fun _ _ _ _ _ => (pe_ix (ix_listK (K := K)) (pe_dget hu (pv 0) pe_str (fun _ _ => rfl)) (pv 8) (fun _ _ => rfl))))
    (pss_cons (ps_set (i := 5) scLdo.nd rfl (.inl rfl) (pe_dget hu (pv 0) pe_str (fun _ _ => rfl)))
    (pss_cons (ps_if (pt_cmpR op_in_seq (pv 1) (pe_lst (pa_cons pe_int (pa_cons pe_int (pa_cons pe_int pa_nil)))) (by rfl)) (pss_one (ps_expr (pe_call L_lay.G (hr.mono (by decide)) (by rfl) L_lay.g L_lay.kp L_lay.b .nil pass0 (pa_cons (pv 0) (pa_cons (pe_ix ix_list (pv 3) pe_int (fun _ _ => rfl)) (pa_cons (pv 5) pa_nil)))))) pss_nil)
    (pss_cons (ps_if (pt_cmpR op_eq (pv 1) pe_int (nomark _)) (pss_one (ps_expr (pe_call L_lay.G (hr.mono (by decide)) (by rfl) L_lay.g L_lay.kp L_lay.b .nil pass0 (pa_cons (pv 0) (pa_cons (pe_ix ix_list (pv 3) pe_int (fun _ _ => rfl)) (pa_cons (pe_dget hu (pv 0) pe_str (fun _ _ => rfl)) pa_nil)))))) pss_nil)
    (pss_cons (ps_dput hu (pv 0) pe_str (pe_op op_add (pe_dget hu (pv 0) pe_str (fun _ _ => rfl)) (pe_dget2 hu (pe_disp (pps_cons pe_int (pe_un un_neg pe_int) (pps_cons pe_int (pe_un un_neg pe_int) (pps_cons pe_int pe_int (pps_cons pe_int pe_int (pps_cons pe_int pe_int pps_nil))))) rfl rfl (by intro h; cases h) (by decide)) (pv 1) pe_int ⟨rfl, rfl, rfl, rfl⟩)) rfl)
    (pss_cons (ps_if (PW.pt (pw_or (pt_cmpR op_in_seq (pv 1) (pe_lst (pa_cons pe_int (pa_cons pe_int pa_nil))) (by rfl)) (pw_or (PW.pt (pw_and (pt_cmpR op_eq (pv 1) pe_int (nomark _)) (pw_and1 (pt_val (pe_dget hu (pv 0) pe_str (fun _ _ => rfl)))))) (pw_or1 (PW.pt (pw_and (pt_cmpR op_eq (pv 1) pe_int (nomark _)) (pw_and1 (pt_cmpR op_ge (pv 5) pe_int (nomark _))))))))) (pss_one (ps_dput hu (pv 0) pe_str (pv 2) rfl)) pss_nil)
    (pss_cons (ps_if (pt_cmpR op_in_seq (pv 1) (pe_lst (pa_cons pe_int (pa_cons pe_int pa_nil))) (by rfl)) (pss_one (ps_dput hu (pv 0) pe_str (pe_ix ix_list (pv 4) (pe_un un_neg pe_int) (fun _ _ => rfl)) rfl)) pss_nil)
    (pss_cons (ps_if (pt_cmpR op_eq (pv 1) pe_int (nomark _)) (pss_one (ps_expr (pe_bm PySem.F.plainAttrs_dict PySem.F.slot_dict_update PySem.F.type_dict_update mtd_update (pv 0) (pa_cons (pe_disp (pps_cons pe_str (pe_cmpR op_eq (pe_op op_mod (pe_ix ix_list (pv 4) pe_int (fun _ _ => rfl)) pe_int) pe_int (nomark _)) (pps_cons pe_str pe_bl pps_nil)) rfl rfl (by intro h; cases h) (by decide)) pa_nil)))) pss_nil)
    (pss_cons (ps_if (pt_cmpR op_eq (pv 1) pe_int (nomark _)) (pss_one (ps_dput hu (pv 0) pe_str pe_bl rfl)) pss_nil)
    (pss_cons (ps_if (pt_cmpR op_eq (pv 1) pe_int (nomark _)) (pss_one (ps_dput hu (pv 0) pe_str (pe_cmpR op_eq (pe_op op_mod (pv 2) pe_int) pe_int (nomark _)) rfl)) pss_nil)
    (pss_cons (ps_set (i := 6) scLdo.nd rfl (.inl rfl) (pe_disp (pps_cons pe_int (pv 2) (pps_cons pe_int (pe_dget hu (pv 0) pe_str (fun _ _ => rfl)) (pps_cons pe_int (pe_op op_fdiv (pv 5) pe_int) pps_nil))) rfl rfl (by intro h; cases h) (by decide)))
    (pss_cons (ps_if (pt_cmpR (op_neD hu64) (pv 4) (pe_lst pa_nil) (nomark _)) (pss_cons (ps_set (i := 7) scLdo.nd rfl (.inl rfl) (pe_ix ix_list (pv 4) pe_int (fun _ _ => rfl)))
    (pss_one (ps_expr (pe_bm PySem.F.plainAttrs_dict PySem.F.slot_dict_update PySem.F.type_dict_update mtd_update (pv 6) (pa_cons (pe_disp (pps_cons pe_int (pv 7) (pps_cons pe_int (pv 7) (pps_cons pe_int (pv 7) (pps_cons pe_int (pe_op op_mod (pe_op op_add (pv 5) (pv 7)) pe_int) (pps_cons pe_int (pe_op op_mod (pe_op op_sub (pv 5) (pv 7)) pe_int) (pps_cons pe_int (pe_op op_and (pv 5) (pv 7)) (pps_cons pe_int (pe_op op_xor (pv 5) (pv 7)) pps_nil))))))) rfl rfl (by intro h; cases h) (by decide)) pa_nil))))) pss_nil)
    (pss_cons (ps_if (pt_cmpR op_in_seq (pv 1) (pe_lst (pa_cons pe_int (pa_cons pe_int pa_nil))) (by rfl)) (pss_one (ps_dput hu (pv 0) pe_str (pv 5) rfl)) pss_nil)
    (pss_one (ps_if (pt_cmp (pc_din hu (pv 1) (pv 6))) (pss_cons (ps_dput hu (pv 0) pe_str (pe_dget hu (pv 6) (pv 1) (fun _ _ => rfl)) rfl)
    (pss_one (ps_dput hu (pv 0) pe_str (pe_cmpR op_eq (pe_dget hu (pv 6) (pv 1) (fun _ _ => rfl)) pe_int (nomark _)) rfl))) pss_nil))))))))))))))), ?_⟩
  refine ⟨_, rfl, lp, rfl, ⟨_, SqL.of hlp⟩, fun lw nlw => ?_⟩
  refine lc_list (K := K) (a := lp) (xs := (touM op n x.b x.sp).map fun t => V.int t.2) (fun i H' => Same H H' ∧ H' lw = some (.lst (((touM op n x.b x.sp).take i).map fun t => V.int (rd x.mem t.2)))) ⟨same_upd' nlw, upd_same⟩ (fun i H' _ h => SqL.of (h.1 _ _ hlp)) ?_ ?_
  · rintro j v H' hv ⟨sm, hD⟩
    rw [List.getElem?_map] at hv
    obtain ⟨t, ht, rfl⟩ : ∃ t, (touM op n x.b x.sp)[j]? = some t ∧ v = .int t.2 := by
      cases e : (touM op n x.b x.sp)[j]? with
      | none => rw [e] at hv; cases hv
      | some t => rw [e] at hv; exact ⟨t, rfl, (Option.some.inj hv).symm⟩
    obtain ⟨i0, i1⟩ := hto t (List.mem_of_getElem? ht)
    have L := L.same sm
    obtain ⟨sv, hd, hz⟩ := L.hd
    refine ⟨rfl, ?_⟩
    refine ⟨_, rfl, d, _, rfl, dg (k := Sum.inr "m") hd oG_m, _, rfl, oa.m, _, _, _, rfl, rfl, SqL.of L.hm, atI_rd i0 (by rw [L.lm]; exact i1), ?_⟩
    refine ⟨_, hD, ?_, same_of sm nlw, ?_⟩
    · rw [List.length_map]
      refine small1000 ?_
      rw [List.length_take]
      have h3 : (touM op n x.b x.sp).length ≤ 2 := touM_len _ _ _ _
      omega
    · rw [upd_same, List.take_add_one, ht, List.map_append]
      rfl
  rintro H0 ⟨s0, hlw⟩
  rw [List.length_map, List.take_length] at hlw
  have hlw : H0 lw = some (.lst ((wsO op n x).map V.int)) := by
    rw [hlw]
    unfold wsO
    rw [List.map_map]
    rfl
  have hlp0 : H0 lp = some (.lst ((psO op n x).map V.int)) := by
    rw [s0 _ _ hlp]
    unfold psO
    rw [List.map_map]
    rfl
  have ne1 : lw ≠ oa.m := ne_of_none L.hm nlw |>.symm
  have L0 := L.same s0
  have hwl : (wsO op n x).length = (touM op n x.b x.sp).length := List.length_map ..
  have hpe : ∀ q, touM op n x.b x.sp = [(true, q)] → psO op n x = [q] := fun q e => by unfold psO; rw [e]; rfl
  have hwe : ∀ w0 wr, wsO op n x = w0 :: wr → True := fun _ _ _ => trivial
  have hwn : wsO op n x = [] → nR op = 0 := fun e => by
    have : touM op n x.b x.sp = [] := by unfold wsO at e; exact List.map_eq_nil_iff.mp e
    exact tou_nil o2 this
  have hw16 : ∀ i, W16 ((wsO op n x).getD i 0) := fun i => by
    rw [List.getD_eq_getElem?_getD]
    unfold wsO
    rw [List.getElem?_map]
    cases (touM op n x.b x.sp)[i]? with
    | none => exact ⟨by show (0 : Int) ≤ 0; decide, by show (0 : Int) ≤ 65535; decide⟩
    | some t => exact O.w.rd _
  have ek := do_eq (n := n) (x := x) o1 o2
  rw [← ek] at kk
  clear ek
  generalize ews : wsO op n x = ws at *
  generalize eps : psO op n x = ps at *
  have D0 : Dn H H0 d oa oe lw lp ws ps x := ⟨Fo.of s0, L0, hlw, hlp0, ne1, nlp⟩
  clear hd hz L0 hlw hlp0
  obtain ⟨sv, hd, hz⟩ := D0.law.hd
  refine ⟨_, rfl, d, _, rfl, dg (k := Sum.inr "a") hd oG_a, ?_⟩
  clear hd hz
  apply joinR (I := fun G => Dn H G d oa oe lw lp ws ps (dn1 op (ps.getD 0 0) x))
  case body =>
    intro k
    refine ⟨_, rfl, (by show 3 ≤ sizeLine; decide), fun l1 n1 => ?_⟩
    have D1 := D0.same (same_upd' (o := .lst [V.int 3, V.int 9, V.int 17]) n1)
    have e1 : upd H0 l1 (.lst [V.int 3, V.int 9, V.int 17]) l1 = some (.lst (([3, 9, 17] : List Int).map V.int)) := upd_same
    generalize upd H0 l1 (.lst [V.int 3, V.int 9, V.int 17]) = G1 at *
    refine ⟨l1, _, rfl, .inl (SqL.of e1), rfl, flat_ints _, _, rfl, ?_⟩
    rw [if_neg Bool.false_ne_true, in_ints]
    refine ifB (fun h => ?_) (fun h => ?_)
    · have h := of_decide_eq_true h
      obtain ⟨q, eq⟩ := put_one (n := n) (b := x.b) (sp := x.sp) (.inl h)
      obtain ⟨q0, q1⟩ := hto (true, q) (by rw [eq]; exact List.mem_singleton.mpr rfl)
      have eq := hpe q eq
      have eY : dn1 op (ps.getD 0 0) x = putWM q x.a x := by
        rw [eq]
        exact if_pos h
      rw [eY] at k
      have L1 := D1.law
      have hp1 := D1.hp
      rw [eq] at hp1
      refine ⟨_, rfl, _, rfl, lp, _, 0, _, rfl, rfl, SqL.of hp1, atI_nat (j := 0) rfl, _, rfl, d, oa, oe, x, q, x.a, rfl, L1, O, q0, q1, O.a, fun G2 F2 L2 => ?_⟩
      exact k G2 (D1.go F2 L2)
    · have h := of_decide_eq_false h
      have eY : dn1 op (ps.getD 0 0) x = x := if_neg h
      rw [eY] at k
      exact k _ D1
  case key =>
  rintro G2 D2
  have O2 : Ok (dn1 op (ps.getD 0 0) x) := by
    unfold dn1
    split
    · exact O.putM O.a
    · exact O
  have s2 : (op : Int) = 15 → dn1 op (ps.getD 0 0) x = x := fun z => if_neg (by rw [z]; decide)
  generalize hy1 : dn1 op (ps.getD 0 0) x = y1 at *
  apply joinR (I := fun G => Dn H G d oa oe lw lp ws ps (dn2 op (ps.getD 0 0) y1))
  case body =>
    intro k
    obtain ⟨G3, eG⟩ : ∃ G3, G3 = G2 := ⟨_, rfl⟩
    rw [← eG] at D2 ⊢
    clear eG
    refine ⟨_, rfl, rfl, _, rfl, ifB (fun h => ?_) (fun h => ?_)⟩
    · have h := V.int.inj (of_decide_eq_true h)
      obtain ⟨q, eq⟩ := put_one (n := n) (b := x.b) (sp := x.sp) (.inr h)
      obtain ⟨q0, q1⟩ := hto (true, q) (by rw [eq]; exact List.mem_singleton.mpr rfl)
      have eq := hpe q eq
      have ex := s2 h
      have eY : dn2 op (ps.getD 0 0) y1 = putWM q y1.pc y1 := by
        rw [eq]
        exact if_pos h
      rw [eY] at k
      have L1 := D2.law
      obtain ⟨sv1, hd1, hz1⟩ := L1.hd
      have hp1 := D2.hp
      rw [eq] at hp1
      refine ⟨_, rfl, _, rfl, lp, _, 0, _, rfl, rfl, SqL.of hp1, atI_nat (j := 0) rfl, _, rfl, d, _, rfl, dg (k := Sum.inr "pc") hd1 oG_pc, d, oa, oe, y1, q, y1.pc, rfl, L1, O2, q0, q1, O2.pc, fun G4 F2 L2 => ?_⟩
      exact k G4 (D2.go F2 L2)
    · have h : ¬ (op : Int) = 15 := fun z => of_decide_eq_false h (congrArg V.int z)
      have eY : dn2 op (ps.getD 0 0) y1 = y1 := if_neg h
      rw [eY] at k
      exact k _ D2
  case key =>
  rintro G3 D3
  generalize hy2 : dn2 op (ps.getD 0 0) y1 = y2 at *
  obtain ⟨sv3, hd3, hz3⟩ := D3.law.hd
  refine ⟨_, rfl, d, _, rfl, dg (k := Sum.inr "sp") hd3 oG_sp, ?_⟩
  intro g0 ng0
  refine ⟨_, rfl, _, rfl, ?_⟩
  refine ⟨upd_same, spV, rfl, (by show 5 ≤ 15; decide), ?_⟩
  have em0 : mergeK [] spV = spV := by kernel_rfl
  rw [em0, upd_upd]
  have D4 := D3.same (same_upd' (o := .dK spV) ng0)
  have hd4 := same_upd' (o := .dK spV) ng0 _ _ hd3
  have hz4 := hz3.mono fun t xs e => same_upd' (o := .dK spV) ng0 _ _ e
  have hg0 : upd G3 g0 (.dK spV) g0 = some (.dK spV) := upd_same
  generalize upd G3 g0 (.dK spV) = G4 at *
  refine ⟨g0, rfl, .inl ⟨_, .inl hg0⟩, _, rfl, _, DGet.k (k := Sum.inl (op : Int)) hg0, ?_⟩
  rw [spV_at o2]
  refine ⟨_, _, rfl, rfl, _, rfl, d, _, rfl, dpO (k := Sum.inr "sp") hd4 oP_sp, ?_⟩
  have D5 := D4.put D4.law (sv := sv3) (y1 := { y2 with sp := y2.sp + spd op }) hz4 rfl rfl
  rw [dn3_eq o2] at D5
  have eo3 : owD oa oe { y2 with sp := y2.sp + spd op } sv3 = owD oa oe (dn3 op y2) sv3 := by rw [dn3_eq o2]
  rw [eo3]
  generalize upd G4 d (.dK (owD oa oe (dn3 op y2) sv3)) = G5 at *
  generalize hy3 : dn3 op y2 = y4 at *
  apply joinR (I := fun G => Dn H G d oa oe lw lp ws ps (dn5 op n x.a y4))
  case body =>
    intro k
    refine ⟨_, rfl, (by show 2 ≤ sizeLine; decide), fun l105 n105 => ?_⟩
    have D105 := D5.same (same_upd' (o := .lst [V.int 12, V.int 15]) n105)
    have e105 : upd G5 l105 (.lst [V.int 12, V.int 15]) l105 = some (.lst (([12, 15] : List Int).map V.int)) := upd_same
    generalize upd G5 l105 (.lst [V.int 12, V.int 15]) = G105 at *
    refine ⟨l105, _, rfl, .inl (SqL.of e105), rfl, flat_ints _, _, rfl, ?_⟩
    rw [if_neg Bool.false_ne_true, in_ints]
    have skip : ¬ ((op : Int) ∈ ([12, 15] : List Int) ∨ ((op : Int) = 13 ∧ y4.zero = true) ∨ ((op : Int) = 14 ∧ 32768 ≤ x.a)) → Dn H G105 d oa oe lw lp ws ps (dn5 op n x.a y4) := fun z => by
      have eY : dn5 op n x.a y4 = y4 := if_neg z
      rw [eY]
      exact D105
    have take : ((op : Int) ∈ ([12, 15] : List Int) ∨ ((op : Int) = 13 ∧ y4.zero = true) ∨ ((op : Int) = 14 ∧ 32768 ≤ x.a)) → dn5 op n x.a y4 = { y4 with pc := n } := fun z => if_pos z
    have i13 : (op : Int) = 13 → ¬ (op : Int) ∈ ([12, 15] : List Int) := fun z => by rw [z]; decide
    have L1 := D105.law
    obtain ⟨sv1, hd1, hz1⟩ := L1.hd
    refine ifB (fun h => ?_) (fun h => ?_)
    rotate_left
    · have h := of_decide_eq_false h
      refine ⟨_, rfl, rfl, _, rfl, ?_⟩
      rw [dI]
      refine ifB (fun h2 => ?_) (fun h2 => ?_)
      · have h2 := of_decide_eq_true h2
        refine ⟨_, rfl, d, _, rfl, dg (k := Sum.inr "zero") hd1 oG_zero, _, rfl, ifB (fun h3 => ?_) (fun h3 => ?_)⟩
        rotate_left
        · refine ⟨_, rfl, rfl, _, rfl, ?_⟩
          rw [dI]
          refine ifB (fun h4 => ?_) (fun h4 => ?_)
          · have h4 := of_decide_eq_true h4
            exfalso
            omega
          · exact k G105 (skip fun z => by
              rcases z with z | z | z
              · exact h z
              · rw [h3] at z
                cases z.2
              · exact of_decide_eq_false h4 z.1)
        · have eY := take (.inr (.inl ⟨h2, h3⟩))
          rw [eY] at k
          refine ⟨_, rfl, _, rfl, d, _, rfl, dpO (k := Sum.inr "pc") hd1 oP_pc, ?_⟩
          exact k _ (D105.put L1 (sv := sv1) (y1 := { y4 with pc := n }) hz1 rfl rfl)
      · have h2 := of_decide_eq_false h2
        refine ⟨_, rfl, rfl, _, rfl, ?_⟩
        rw [dI]
        refine ifB (fun h4 => ?_) (fun h4 => ?_)
        · have h4 := of_decide_eq_true h4
          refine ⟨_, rfl, _, _, rfl, rfl, _, rfl, ifB (fun h5 => ?_) (fun h5 => ?_)⟩
          · have eY := take (.inr (.inr ⟨h4, of_decide_eq_true h5⟩))
            rw [eY] at k
            refine ⟨_, rfl, _, rfl, d, _, rfl, dpO (k := Sum.inr "pc") hd1 oP_pc, ?_⟩
            exact k _ (D105.put L1 (sv := sv1) (y1 := { y4 with pc := n }) hz1 rfl rfl)
          · exact k _ (skip fun z => by
              rcases z with z | z | z
              · exact h z
              · exact h2 z.1
              · exact of_decide_eq_false h5 z.2)
        · exact k _ (skip fun z => by
            rcases z with z | z | z
            · exact h z
            · exact h2 z.1
            · exact of_decide_eq_false h4 z.1)
    · have h := of_decide_eq_true h
      have eY := take (.inl h)
      rw [eY] at k
      refine ⟨_, rfl, _, rfl, d, _, rfl, dpO (k := Sum.inr "pc") hd1 oP_pc, ?_⟩
      exact k _ (D105.put L1 (sv := sv1) (y1 := { y4 with pc := n }) hz1 rfl rfl)
  case key =>
  rintro G6 D6
  generalize hy5 : dn5 op n x.a y4 = y5 at *
  apply joinR (I := fun G => Dn H G d oa oe lw lp ws ps (dn6 op (ws.getLastD 0) y5))
  case body =>
    intro k
    refine ⟨_, rfl, (by show 2 ≤ sizeLine; decide), fun l106 n106 => ?_⟩
    have D106 := D6.same (same_upd' (o := .lst [V.int 16, V.int 21]) n106)
    have e106 : upd G6 l106 (.lst [V.int 16, V.int 21]) l106 = some (.lst (([16, 21] : List Int).map V.int)) := upd_same
    generalize upd G6 l106 (.lst [V.int 16, V.int 21]) = G106 at *
    refine ⟨l106, _, rfl, .inl (SqL.of e106), rfl, flat_ints _, _, rfl, ?_⟩
    rw [if_neg Bool.false_ne_true, in_ints]
    refine ifB (fun h => ?_) (fun h => ?_)
    rotate_left
    · have h := of_decide_eq_false h
      have eY : dn6 op (ws.getLastD 0) y5 = y5 := if_neg h
      rw [eY] at k
      exact k G106 D106
    · have h := of_decide_eq_true h
      have eY : dn6 op (ws.getLastD 0) y5 = { y5 with pc := ws.getLastD 0 } := if_pos h
      rw [eY] at k
      have L1 := D106.law
      obtain ⟨sv1, hd1, hz1⟩ := L1.hd
      have hat : atI (ws.map V.int) (-1) = some (.int (ws.getLastD 0)) := by
        have e : op = 16 ∨ op = 21 := by
          simp only [List.mem_cons, List.not_mem_nil, or_false] at h
          omega
        rcases e with e | e
        · rw [e] at hwl
          obtain ⟨v, rfl⟩ := len1 hwl
          rfl
        · rw [e] at hwl
          obtain ⟨v, v2, rfl⟩ := len2 hwl
          rfl
      refine ⟨_, rfl, _, rfl, lw, _, _, _, rfl, rfl, SqL.of D106.hw, hat, _, rfl, d, _, rfl, dpO (k := Sum.inr "pc") hd1 oP_pc, ?_⟩
      exact k _ (D106.put L1 (sv := sv1) (y1 := { y5 with pc := ws.getLastD 0 }) hz1 rfl rfl)
  case key =>
  rintro G7 D7
  generalize hy6 : dn6 op (ws.getLastD 0) y5 = y6 at *
  apply joinR (I := fun G => Dn H G d oa oe lw lp ws ps (dn7 op (ws.getD 0 0) y6))
  case body =>
    intro k
    obtain ⟨G107, eG⟩ : ∃ G107, G107 = G7 := ⟨_, rfl⟩
    have D107 := D7
    rw [← eG] at D107 ⊢
    clear eG
    refine ⟨_, rfl, rfl, _, rfl, ?_⟩
    rw [dI]
    refine ifB (fun h => ?_) (fun h => ?_)
    rotate_left
    · have h := of_decide_eq_false h
      have eY : dn7 op (ws.getD 0 0) y6 = y6 := if_neg h
      rw [eY] at k
      exact k G107 D107
    · have h := of_decide_eq_true h
      have eY : dn7 op (ws.getD 0 0) y6 = { y6 with zero := decide (ws.getD 0 0 % 2 = 1), lets := true } := if_pos h
      rw [eY] at k
      obtain ⟨v, v2, ews⟩ : ∃ v v2, ws = [v, v2] := by
        have e : op = 21 := by omega
        rw [e] at hwl
        exact len2 hwl
      have L1 := D107.law
      obtain ⟨sv1, hd1, hz1⟩ := L1.hd
      refine ⟨_, rfl, .inr (.inr (.inl ⟨rfl, .inl ⟨_, hd1⟩⟩)), ?_⟩
      intro l1 nl1
      have D1 := D107.same (same_upd' (o := .dK []) nl1)
      have hd2 := same_upd' (o := .dK []) nl1 _ _ hd1
      have hl1 : upd G107 l1 (.dK []) l1 = some (.dK []) := upd_same
      have fl1 : l1 ≠ d := fun z => by rw [z, hd1] at nl1; cases nl1
      have hz2 := hz1.mono fun t xs e => same_upd' (o := .dK []) nl1 _ _ e
      have hw2 := D1.hw
      rw [ews] at hw2
      refine ⟨_, rfl, lw, _, 0, _, rfl, rfl, SqL.of hw2, atI_nat (j := 0) rfl, _, _, rfl, rfl, (by show (0 : Int) < 2; decide), rfl, ?_⟩
      refine ⟨hl1, [(Sum.inr "zero", .bl (decide (V.int (v % 2) = V.int 1))), (Sum.inr "lets", .bl true)], rfl, (by show 2 ≤ 15; decide), ?_⟩
      have em : mergeK [] [((Sum.inr "zero" : Key), V.bl (decide (V.int (v % 2) = V.int 1))), (Sum.inr "lets", .bl true)] = [((Sum.inr "zero" : Key), V.bl (decide (V.int (v % 2) = V.int 1))), (Sum.inr "lets", .bl true)] := by kernel_rfl
      rw [em, upd_upd]
      have D2 := D107.same (same_upd' (o := .dK [((Sum.inr "zero" : Key), V.bl (decide (V.int (v % 2) = V.int 1))), (Sum.inr "lets", .bl true)]) nl1)
      have hd3 := same_upd' (o := .dK [((Sum.inr "zero" : Key), V.bl (decide (V.int (v % 2) = V.int 1))), (Sum.inr "lets", .bl true)]) nl1 _ _ hd1
      have hz3 := hz1.mono fun t xs e => same_upd' (o := .dK [((Sum.inr "zero" : Key), V.bl (decide (V.int (v % 2) = V.int 1))), (Sum.inr "lets", .bl true)]) nl1 _ _ e
      have L3 := L1.same (same_upd' (o := .dK [((Sum.inr "zero" : Key), V.bl (decide (V.int (v % 2) = V.int 1))), (Sum.inr "lets", .bl true)]) nl1)
      refine ⟨d, l1, _, _, rfl, rfl, fl1.symm, hd3, upd_same, (by show 20 + 2 ≤ sizeLine; decide), ?_⟩
      have em2 : mergeK (owD oa oe y6 sv1) [((Sum.inr "zero" : Key), V.bl (decide (V.int (v % 2) = V.int 1))), (Sum.inr "lets", .bl true)] = owD oa oe { y6 with zero := decide (V.int (v % 2) = V.int 1), lets := true } sv1 := by kernel_rfl
      rw [em2]
      have e3 : ({ y6 with zero := decide (ws.getD 0 0 % 2 = 1), lets := true } : Bd) = { y6 with zero := decide (V.int (v % 2) = V.int 1), lets := true } := by
        rw [dI, ews]
        rfl
      rw [e3] at k
      exact k _ (D2.put L3 (sv := sv1) (y1 := { y6 with zero := decide (V.int (v % 2) = V.int 1), lets := true }) hz3 rfl rfl)
  case key =>
  rintro G8 D8
  generalize hy7 : dn7 op (ws.getD 0 0) y6 = y7 at *
  apply joinR (I := fun G => Dn H G d oa oe lw lp ws ps (dn8 op y7))
  case body =>
    intro k
    obtain ⟨G108, eG⟩ : ∃ G108, G108 = G8 := ⟨_, rfl⟩
    have D108 := D8
    rw [← eG] at D108 ⊢
    clear eG
    refine ⟨_, rfl, rfl, _, rfl, ?_⟩
    rw [dI]
    refine ifB (fun h => ?_) (fun h => ?_)
    rotate_left
    · have h := of_decide_eq_false h
      have eY : dn8 op y7 = y7 := if_neg h
      rw [eY] at k
      exact k G108 D108
    · have h := of_decide_eq_true h
      have eY : dn8 op y7 = { y7 with asleep := true } := if_pos h
      rw [eY] at k
      have L1 := D108.law
      obtain ⟨sv1, hd1, hz1⟩ := L1.hd
      refine ⟨_, rfl, d, _, rfl, dpO (k := Sum.inr "asleep") hd1 oP_asleep, ?_⟩
      exact k _ (D108.put L1 (sv := sv1) (y1 := { y7 with asleep := true }) hz1 rfl rfl)
  case key =>
  rintro G9 D9
  generalize hy8 : dn8 op y7 = y8 at *
  apply joinR (I := fun G => Dn H G d oa oe lw lp ws ps (dn9 op n y8))
  case body =>
    intro k
    obtain ⟨G109, eG⟩ : ∃ G109, G109 = G9 := ⟨_, rfl⟩
    have D109 := D9
    rw [← eG] at D109 ⊢
    clear eG
    refine ⟨_, rfl, rfl, _, rfl, ?_⟩
    rw [dI]
    refine ifB (fun h => ?_) (fun h => ?_)
    rotate_left
    · have h := of_decide_eq_false h
      have eY : dn9 op n y8 = y8 := if_neg h
      rw [eY] at k
      exact k G109 D109
    · have h := of_decide_eq_true h
      have eY : dn9 op n y8 = { y8 with lets := decide (n % 2 = 1) } := if_pos h
      rw [eY] at k
      have L1 := D109.law
      obtain ⟨sv1, hd1, hz1⟩ := L1.hd
      refine ⟨_, rfl, _, _, rfl, rfl, (by show (0 : Int) < 2; decide), rfl, _, rfl, d, _, rfl, dpO (k := Sum.inr "lets") hd1 oP_lets, ?_⟩
      rw [dI]
      exact k _ (D109.put L1 (sv := sv1) (y1 := { y8 with lets := decide (n % 2 = 1) }) hz1 rfl rfl)
  case key =>
  rintro G10 D10
  generalize hy9 : dn9 op n y8 = y9 at *
  have eb9 : y9.b = x.b := by
    have e := dn_b (op := op) (n := n) (a := x.a) (p0 := ps.getD 0 0) (w0 := ws.getD 0 0) (l := ws.getLastD 0) (x := x)
    rw [hy1, hy2, hy3, hy5, hy6, hy7, hy8, hy9] at e
    exact e
  have fin : ∀ G, Dn H G d oa oe lw lp ws ps (dn11 (gvM op n x.a x.b ws) (dn10 op x.a y9)) → Q .non G := fun G D => by
    exact kk _ D.fr D.law
  obtain ⟨svG, hdG, hzG⟩ := D10.law.hd
  intro g1 ng1
  have hdG1 := same_upd' (o := .dK []) ng1 _ _ hdG
  refine ⟨_, rfl, _, rfl, d, _, rfl, dg (k := Sum.inr "b") hdG1 oG_b, _, rfl, _, _, rfl, rfl, ⟨by decide, by decide⟩, ?_⟩
  rw [eb9]
  refine ⟨upd_same, gv1 n x.a x.b, rfl, (by show 3 ≤ 15; decide), ?_⟩
  have em : mergeK [] (gv1 n x.a x.b) = gv1 n x.a x.b := by kernel_rfl
  rw [em, upd_upd]
  have Dg := D10.same (same_upd' (o := .dK (gv1 n x.a x.b)) ng1)
  have hg : upd G10 g1 (.dK (gv1 n x.a x.b)) g1 = some (.dK (gv1 n x.a x.b)) := upd_same
  have nd : g1 ≠ d := fun z => by rw [z, hdG] at ng1; cases ng1
  have hnew : ∀ o, H g1 = some o → False := fun o e => by
    by_cases z1 : g1 = oa.m
    · have := D10.law.hm
      rw [← z1, ng1] at this
      cases this
    · have := D10.fr _ _ nd z1 e
      rw [ng1] at this
      cases this
  have goff : ∀ b, FtO d oa b → b ≠ g1 := fun b hb z => by
    obtain ⟨o, e, _⟩ := D10.law.solid b hb
    rw [z, ng1] at e
    cases e
  have glw : lw ≠ g1 := ne_of_none D10.hw ng1
  have glp : lp ≠ g1 := ne_of_none D10.hp ng1
  clear hdG hzG hdG1
  generalize upd G10 g1 (.dK (gv1 n x.a x.b)) = Gg at *
  refine ⟨_, rfl, Nat.zero_le _, fun e0 ne0 => ?_⟩
  have De := Dg.same (same_upd' (o := .lst []) ne0)
  have hge := same_upd' (o := .lst []) ne0 _ _ hg
  have he0 : upd Gg e0 (.lst []) e0 = some (.lst []) := upd_same
  clear hg Dg
  generalize upd Gg e0 (.lst []) = Gz at *
  refine ⟨_, _, .lst (SqL.of De.hw) (dp_ints ws), .lst (SqL.of he0) .nil, shaped_ints ws, shaped_ints [], _, rfl, ?_⟩
  apply joinR (I := fun G => Dn H G d oa oe lw lp ws ps y9 ∧ ∃ kv, G g1 = some (.dK kv) ∧ valV kv (Sum.inl (op : Int)) = (gvM op n x.a x.b ws).map V.int)
  case body =>
    intro k
    have eq0 : (PyData.eqv (.list (ws.map PyData.int)) (.list ([].map PyData.int))) = ws.isEmpty := by cases ws <;> rfl
    show if (!(PyData.eqv (.list (ws.map PyData.int)) (.list ([].map PyData.int)))) = true then _ else _
    rw [eq0]
    rcases Classical.em (ws = []) with ew | ew
    · rw [show ws.isEmpty = true by rw [ew]; rfl]
      refine ifB (fun h => by cases h) (fun _ => ?_)
      obtain ⟨Gw, eGw⟩ : ∃ Gw, Gw = Gz := ⟨_, rfl⟩
      rw [← eGw] at De hge ⊢
      exact k Gw ⟨De, _, hge, by rw [ew]; exact gv1_at o2 (hwn ew)⟩
    · rw [show ws.isEmpty = false from List.isEmpty_eq_false_iff.mpr ew]
      obtain ⟨w0, wr, ew2⟩ : ∃ w0 wr, ws = w0 :: wr := List.exists_cons_of_ne_nil ew
      refine ifB (fun _ => ?_) (fun h => by cases h)
      have hwz := De.hw
      rw [ew2] at hwz
      refine ⟨_, rfl, lw, _, 0, _, rfl, rfl, SqL.of hwz, atI_nat (j := 0) rfl, ?_⟩
      refine ⟨_, rfl, .inr (.inr (.inl ⟨rfl, .inl ⟨_, hge⟩⟩)), ?_⟩
      intro u1 nu1
      refine ⟨_, rfl, _, rfl, _, rfl, _, rfl, _, rfl, _, _, rfl, rfl, _, _, rfl, rfl, (by show (0 : Int) < 65536; decide), _, rfl, _, rfl, _, _, rfl, rfl, _, _, rfl, rfl, (by show (0 : Int) < 65536; decide), _, rfl, _, rfl, _, _, rfl, rfl, _, rfl, _, rfl, _, _, rfl, rfl, ?_⟩
      refine ⟨upd_same, [(Sum.inl 2, .int w0), (Sum.inl 8, .int w0), (Sum.inl 18, .int w0), (Sum.inl 4, .int ((x.a + w0) % 65536)), (Sum.inl 5, .int ((x.a - w0) % 65536)), (Sum.inl 6, .int (Builtin.bitAnd x.a w0)), (Sum.inl 7, .int (Builtin.bitXor x.a w0))], rfl, (by show 7 ≤ 15; decide), ?_⟩
      have em7 : mergeK [] [((Sum.inl 2 : Key), V.int w0), (Sum.inl 8, .int w0), (Sum.inl 18, .int w0), (Sum.inl 4, .int ((x.a + w0) % 65536)), (Sum.inl 5, .int ((x.a - w0) % 65536)), (Sum.inl 6, .int (Builtin.bitAnd x.a w0)), (Sum.inl 7, .int (Builtin.bitXor x.a w0))] = [((Sum.inl 2 : Key), V.int w0), (Sum.inl 8, .int w0), (Sum.inl 18, .int w0), (Sum.inl 4, .int ((x.a + w0) % 65536)), (Sum.inl 5, .int ((x.a - w0) % 65536)), (Sum.inl 6, .int (Builtin.bitAnd x.a w0)), (Sum.inl 7, .int (Builtin.bitXor x.a w0))] := by kernel_rfl
      rw [em7, upd_upd]
      generalize eu : ([((Sum.inl 2 : Key), V.int w0), (Sum.inl 8, .int w0), (Sum.inl 18, .int w0), (Sum.inl 4, .int ((x.a + w0) % 65536)), (Sum.inl 5, .int ((x.a - w0) % 65536)), (Sum.inl 6, .int (Builtin.bitAnd x.a w0)), (Sum.inl 7, .int (Builtin.bitXor x.a w0))] : List (Key × V)) = kv7
      have Du := De.same (same_upd' (o := .dK kv7) nu1)
      have hgu := same_upd' (o := .dK kv7) nu1 _ _ hge
      have hu1 : upd Gz u1 (.dK kv7) u1 = some (.dK kv7) := upd_same
      have gu : g1 ≠ u1 := ne_of_none hge nu1
      generalize upd Gz u1 (.dK kv7) = Gu at *
      refine ⟨g1, u1, _, _, rfl, rfl, gu, hgu, hu1, (by rw [← eu]; show 3 + 7 ≤ sizeLine; decide), ?_⟩
      have em8 : mergeK (gv1 n x.a x.b) kv7 = gv2 n x.a x.b w0 := by rw [← eu]; kernel_rfl
      rw [em8]
      have kl : ∀ b o, b ≠ g1 → Gu b = some o → upd Gu g1 (.dK (gv2 n x.a x.b w0)) b = some o := fun b o hb e => by rw [upd_ne hb]; exact e
      have nH : H g1 = none := by
        cases eH : H g1 with
        | none => rfl
        | some o => exact (hnew o eH).elim
      have Dz : Dn H (upd Gu g1 (.dK (gv2 n x.a x.b w0))) d oa oe lw lp ws ps y9 := {
        fr := fun b o a1 a2 e => kl b o (fun z => by rw [z, nH] at e; cases e) (Du.fr b o a1 a2 e)
        law := Du.law.keep (fun b o hb e => kl b o (goff b hb) e) (fun t xs e => kl _ _ (ne_of e hgu (by intro z; cases z)) e)
        hw := kl _ _ glw Du.hw
        hp := kl _ _ glp Du.hp
        n1 := Du.n1
        n3 := Du.n3 }
      exact k _ ⟨Dz, _, upd_same, by rw [ew2]; exact gv2_at o2⟩
  case key =>
  rintro G11 ⟨D11, kv, hkv, ekv⟩
  apply joinR (I := fun G => Dn H G d oa oe lw lp ws ps (dn10 op x.a y9) ∧ G g1 = some (.dK kv))
  case body =>
    intro k
    refine ⟨_, rfl, (by show 2 ≤ sizeLine; decide), fun l110 n110 => ?_⟩
    have D110 := D11.same (same_upd' (o := .lst [V.int 10, V.int 11]) n110)
    have e110 : upd G11 l110 (.lst [V.int 10, V.int 11]) l110 = some (.lst (([10, 11] : List Int).map V.int)) := upd_same
    have hkv := same_upd' (o := .lst [V.int 10, V.int 11]) n110 _ _ hkv
    generalize upd G11 l110 (.lst [V.int 10, V.int 11]) = G110 at *
    refine ⟨l110, _, rfl, .inl (SqL.of e110), rfl, flat_ints _, _, rfl, ?_⟩
    rw [if_neg Bool.false_ne_true, in_ints]
    refine ifB (fun h => ?_) (fun h => ?_)
    rotate_left
    · have h := of_decide_eq_false h
      have eY : dn10 op x.a y9 = y9 := if_neg h
      rw [eY] at k
      exact k G110 ⟨D110, hkv⟩
    · have h := of_decide_eq_true h
      have eY : dn10 op x.a y9 = { y9 with b := x.a } := if_pos h
      rw [eY] at k
      obtain ⟨sv1, hd1, hz1⟩ := D110.law.hd
      refine ⟨_, rfl, _, rfl, d, _, rfl, dpO (k := Sum.inr "b") hd1 oP_b, ?_⟩
      exact k _ ⟨D110.put D110.law (sv := sv1) (y1 := { y9 with b := x.a }) hz1 rfl rfl, by rw [upd_ne nd]; exact hkv⟩
  case key =>
  rintro G12 ⟨D12, hkv⟩
  generalize dn10 op x.a y9 = y10 at *
  refine ⟨_, rfl, _, rfl, g1, _, rfl, DGet.k (k := Sum.inl (op : Int)) hkv, _, rfl, ?_⟩
  obtain ⟨sv1, hd1, hz1⟩ := D12.law.hd
  rw [ekv]
  cases eg : gvM op n x.a x.b ws with
  | none =>
    rw [eg] at fin
    exact fin _ D12
  | some v =>
    rw [eg] at fin ekv
    refine ⟨_, rfl, _, rfl, g1, _, rfl, dg (k := Sum.inl (op : Int)) hkv ekv, _, rfl, d, _, rfl, dpO (k := Sum.inr "a") hd1 oP_a, ?_⟩
    have D2 := D12.put D12.law (sv := sv1) (y1 := { y10 with a := v }) hz1 rfl rfl
    have hg2 : upd G12 d (.dK (owD oa oe { y10 with a := v } sv1)) g1 = some (.dK kv) := by
      rw [upd_ne nd]
      exact hkv
    generalize upd G12 d (.dK (owD oa oe { y10 with a := v } sv1)) = Gy at *
    obtain ⟨sv2, hd2, hz2⟩ := D2.law.hd
    refine ⟨_, rfl, _, rfl, g1, _, rfl, dg (k := Sum.inl (op : Int)) hg2 ekv, rfl, _, rfl, d, _, rfl, dpO (k := Sum.inr "zero") hd2 oP_zero, ?_⟩
    rw [dI]
    exact fin _ (D2.put D2.law (sv := sv2) (y1 := giveM v y10) hz2 rfl rfl)
end
end Bh

/-! The law's own board: what is touched, deeds. -/
namespace Bh
open PySem PySem.Spec PyProof.Rows L2
def by13 (t2 t3 t4 t5 t6 t7 t8 t9 t15 t16 t17 t18 t21 : Addr) : List (Key × V) := [(Sum.inl 2, .ref t2), (Sum.inl 3, .ref t3), (Sum.inl 4, .ref t4), (Sum.inl 5, .ref t5), (Sum.inl 6, .ref t6), (Sum.inl 7, .ref t7), (Sum.inl 8, .ref t8), (Sum.inl 9, .ref t9), (Sum.inl 15, .ref t15), (Sum.inl 16, .ref t16), (Sum.inl 17, .ref t17), (Sum.inl 18, .ref t18), (Sum.inl 21, .ref t21)]
theorem by13_at {op : Nat} (h : op < 23) (h21 : op ≠ 21) {G : Hp} {n b sp : Int} {t2 t3 t4 t5 t6 t7 t8 t9 t15 t16 t17 t18 t21 : Addr} (h2 : G t2 = some (.tup [.str "r", .int n])) (h3 : G t3 = some (.tup [.str "w", .int n])) (h4 : G t4 = some (.tup [.str "r", .int n])) (h5 : G t5 = some (.tup [.str "r", .int n])) (h6 : G t6 = some (.tup [.str "r", .int n])) (h7 : G t7 = some (.tup [.str "r", .int n])) (h8 : G t8 = some (.tup [.str "r", .int (n + b)])) (h9 : G t9 = some (.tup [.str "w", .int (n + b)])) (h15 : G t15 = some (.tup [.str "w", .int sp])) (h16 : G t16 = some (.tup [.str "r", .int (sp + 1)])) (h17 : G t17 = some (.tup [.str "w", .int sp])) (h18 : G t18 = some (.tup [.str "r", .int (sp + 1)])) (h21 : G t21 = some (.tup [.str "r", .int (sp + 1)])) :
    (valV (by13 t2 t3 t4 t5 t6 t7 t8 t9 t15 t16 t17 t18 t21) (Sum.inl (op : Int)) = none ∧ touM op n b sp = []) ∨ ∃ t u, valV (by13 t2 t3 t4 t5 t6 t7 t8 t9 t15 t16 t17 t18 t21) (Sum.inl (op : Int)) = some (.ref t) ∧ touM op n b sp = [u] ∧ G t = some (.tup [.str (kS u.1), .int u.2]) := by
  match op, h with
  | 0, _ => exact .inl ⟨by kernel_rfl, rfl⟩
  | 1, _ => exact .inl ⟨by kernel_rfl, rfl⟩
  | 2, _ => exact .inr ⟨t2, (false, n), by kernel_rfl, rfl, h2⟩
  | 3, _ => exact .inr ⟨t3, (true, n), by kernel_rfl, rfl, h3⟩
  | 4, _ => exact .inr ⟨t4, (false, n), by kernel_rfl, rfl, h4⟩
  | 5, _ => exact .inr ⟨t5, (false, n), by kernel_rfl, rfl, h5⟩
  | 6, _ => exact .inr ⟨t6, (false, n), by kernel_rfl, rfl, h6⟩
  | 7, _ => exact .inr ⟨t7, (false, n), by kernel_rfl, rfl, h7⟩
  | 8, _ => exact .inr ⟨t8, (false, (n + b)), by kernel_rfl, rfl, h8⟩
  | 9, _ => exact .inr ⟨t9, (true, (n + b)), by kernel_rfl, rfl, h9⟩
  | 10, _ => exact .inl ⟨by kernel_rfl, rfl⟩
  | 11, _ => exact .inl ⟨by kernel_rfl, rfl⟩
  | 12, _ => exact .inl ⟨by kernel_rfl, rfl⟩
  | 13, _ => exact .inl ⟨by kernel_rfl, rfl⟩
  | 14, _ => exact .inl ⟨by kernel_rfl, rfl⟩
  | 15, _ => exact .inr ⟨t15, (true, sp), by kernel_rfl, rfl, h15⟩
  | 16, _ => exact .inr ⟨t16, (false, (sp + 1)), by kernel_rfl, rfl, h16⟩
  | 17, _ => exact .inr ⟨t17, (true, sp), by kernel_rfl, rfl, h17⟩
  | 18, _ => exact .inr ⟨t18, (false, (sp + 1)), by kernel_rfl, rfl, h18⟩
  | 19, _ => exact .inl ⟨by kernel_rfl, rfl⟩
  | 20, _ => exact .inl ⟨by kernel_rfl, rfl⟩
  | 21, _ => exact absurd rfl h21
  | 22, _ => exact .inl ⟨by kernel_rfl, rfl⟩
  | n + 23, h => omega
theorem kS_w (b : Bool) : decide (V.str (kS b) = V.str "w") = b := by cases b <;> decide +kernel
theorem kMN {p q : Addr} (c : Bool) : atI [V.ref p, V.ref q] (if c = true then 1 else 0) = some (.ref (if c = true then q else p)) := by cases c <;> rfl
section
variable {H : Hp} {d l : Addr} {oa : Oa} {oe : Oe} {x : Bd}
/-- what is touched told anew, in a list of its own -/
theorem Ow.tou (L : Ow H d oa oe x) {y : Bd} {sv ov : V} {ts : List V} {tu : List (Bool × Int)} (hz : StopAt H sv y.stop) (em : y.mem = x.mem) (el : y.line = x.line) (hl : H l = some (.lst ts)) (ht : TouAt H ts tu) (nl : ¬ FtO d oa l) :
    Ow (upd H d (.dK (owD { oa with to := l } { oe with ov := ov } y sv))) d { oa with to := l } { oe with ov := ov, tu := tu } y := by
  obtain ⟨t, ko, _⟩ := L.kOwn (l := [0]) (H1 := upd H d (.dK (owD { oa with to := l } { oe with ov := ov } y sv))) (fun b o n q => by rw [upd_ne (fun z => n 0 (by decide) (by rw [z]; rfl))]; exact q)
  obtain ⟨us, hf, hf2⟩ := L.hf
  obtain ⟨hs, hr, hr2⟩ := L.hr
  obtain ⟨kd, hh, hh2⟩ := L.hh
  have nd : l ≠ d := fun z => nl (by rw [z]; exact List.mem_cons_self ..)
  exact {
    hd := ⟨sv, upd_same, hz.mono t⟩
    hm := by rw [em]; exact ko 1 _ _ (by decide) rfl L.hm
    hl := by rw [el]; exact ko 2 _ _ (by decide) rfl L.hl
    ht := ⟨ts, by rw [upd_ne nd]; exact hl, ht.mono t⟩
    hf := ⟨us, ko 4 _ _ (by decide) rfl hf, hf2.mono t⟩
    hr := ⟨hs, ko 5 _ _ (by decide) rfl hr, hr2.mono t⟩
    hi := ko 6 _ _ (by decide) rfl L.hi
    hh := ⟨kd, ko 7 _ _ (by decide) rfl hh, hh2.mono t⟩
    lm := by rw [em]; exact L.lm
    nd := by
      have h := L.nd
      have nl : l ∉ [d, oa.m, oa.ln, oa.to, oa.fl, oa.rg, oa.ins, oa.th] := nl
      show [d, oa.m, oa.ln, l, oa.fl, oa.rg, oa.ins, oa.th].Nodup
      have h : [d, oa.m, oa.ln, oa.to, oa.fl, oa.rg, oa.ins, oa.th].Nodup := h
      simp only [List.nodup_cons, List.mem_cons, List.not_mem_nil, or_false, not_or] at h nl ⊢
      obtain ⟨⟨a1, a2, a3, a4, a5, a6, a7⟩, ⟨b1, b2, b3, b4, b5, b6⟩, ⟨c1, c2, c3, c4, c5⟩, ⟨d1, d2, d3, d4⟩, r⟩ := h
      obtain ⟨n1, n2, n3, n4, n5, n6, n7, n8⟩ := nl
      exact ⟨⟨a1, a2, fun z => n1 z.symm, a4, a5, a6, a7⟩, ⟨b1, fun z => n2 z.symm, b3, b4, b5, b6⟩, ⟨fun z => n3 z.symm, c2, c3, c4, c5⟩, ⟨n5, n6, n7, n8⟩, r⟩ }
theorem Fr.tou {H' : Hp} (k : ∀ b q, b ≠ d → H b = some q → H' b = some q) (nl : H l = none) : Fr (FtO d oa) H (FtO d { oa with to := l }) H' := ⟨fun b q n e => k b q (fun z => n (by rw [z]; exact List.mem_cons_self ..)) e, fun b z => by
  have z : b ∈ [d, oa.m, oa.ln, l, oa.fl, oa.rg, oa.ins, oa.th] := z
  simp only [List.mem_cons, List.not_mem_nil, or_false] at z
  rcases z with z | z | z | z | z | z | z | z
  · exact .inl (List.mem_of_getElem? (i := 0) (by rw [z]; rfl))
  · exact .inl (List.mem_of_getElem? (i := 1) (by rw [z]; rfl))
  · exact .inl (List.mem_of_getElem? (i := 2) (by rw [z]; rfl))
  · exact .inr (by rw [z]; exact nl)
  · exact .inl (List.mem_of_getElem? (i := 4) (by rw [z]; rfl))
  · exact .inl (List.mem_of_getElem? (i := 5) (by rw [z]; rfl))
  · exact .inl (List.mem_of_getElem? (i := 6) (by rw [z]; rfl))
  · exact .inl (List.mem_of_getElem? (i := 7) (by rw [z]; rfl))⟩
end
def opV (x : Bd) : V := if (turnM x).1 = "deed" then .int (opM x : Int) else .non
def spOTou : Sp := fun vs H Q _ => ∃ (d : Addr) (oa : Oa) (oe : Oe) (x : Bd) (op : Nat) (n : Int), vs = [.ref d, .int (op : Int), .int n] ∧ Ow H d oa oe x ∧ 1 ≤ op ∧ op < 23 ∧ ∀ H' l ts, Same H H' → H l = none → H' l = some (.lst ts) → TouAt H' ts (touM op n x.b x.sp) → Q (.ref l) H'
def spODeed : Sp := fun vs H Q _ => ∃ (d : Addr) (oa : Oa) (oe : Oe) (x : Bd), vs = [.ref d] ∧ Ow H d oa oe x ∧ Ok x ∧
  (∀ s, deedM x = (("stopped" : Str), { x with stop := some s }) → ∀ H', Fo d oa.m H H' → Ow H' d oa oe { x with stop := some s } → Q (.str "stopped") H') ∧
  (deedM x = (("deed" : Str), doneM x) → ∀ H' l, Fr (FtO d oa) H (FtO d { oa with to := l }) H' → Ow H' d { oa with to := l } { oe with ov := .int (opM x : Int), tu := toM x } (doneM x) → Q (.str "deed") H')
section
variable {P : Program} {w : World} {K : PySem.W.Frag} {mg : Str → Option Value} {base : Heap} {CB CM : Addr}
abbrev sLtou : Stmt := topS 111
def scLtouN : List Str := ["_law_s", "_law_op", "_law_x", "_law_by", "_law_k"]
theorem scLtou : FnScope scLtouN ["_law_s", "_law_op", "_law_x"] (defScope sLtou) := ⟨rfl, rfl, rfl, by decide +kernel, rfl, by decide +kernel, by decide +kernel⟩
theorem ok_Ltou {f : Addr} {fd : FuncData} (F : Fun K "_law_touches" "_law_touches" sLtou f fd) (T : Tx K mg CB CM) : FnOk P w K mg base CX0 1 f fd ["_law_s", "_law_op", "_law_x"] (spOTou) := by
  refine F.ok scLtou (fun vs H Q E h => by obtain ⟨_, _, _, _, _, _, rfl, _⟩ := h; rfl) (fun cdv A outer s H vs Q E hr h => ?_)
  have hu := hu_of hr
  have z_int := T.z_int
  have z_range := T.z_range
  obtain ⟨d, oa, oe, x, op, n, rfl, L, o1, o2, k⟩ := h
  refine ⟨_, (pss_cons (ps_set (i := 3) scLtou.nd rfl (.inr rfl) (pe_disp (pps_cons pe_int (pe_tup (pa_cons pe_str (pa_cons (pv 2) pa_nil))) (pps_cons pe_int (pe_tup (pa_cons pe_str (pa_cons (pv 2) pa_nil))) (pps_cons pe_int (pe_tup (pa_cons pe_str (pa_cons (pv 2) pa_nil))) (pps_cons pe_int (pe_tup (pa_cons pe_str (pa_cons (pv 2) pa_nil))) (pps_cons pe_int (pe_tup (pa_cons pe_str (pa_cons (pv 2) pa_nil))) (pps_cons pe_int (pe_tup (pa_cons pe_str (pa_cons (pv 2) pa_nil))) (pps_cons pe_int (pe_tup (pa_cons pe_str (pa_cons (pe_op op_add (pv 2) (pe_dget hu (pv 0) pe_str (fun _ _ => rfl))) pa_nil))) pps_nil))))))) rfl rfl (by intro h; cases h) (by decide)))
    (pss_cons (ps_expr (pe_bm PySem.F.plainAttrs_dict PySem.F.slot_dict_update PySem.F.type_dict_update mtd_update (pv 3) (pa_cons (pe_disp (pps_cons pe_int (pe_tup (pa_cons pe_str (pa_cons (pe_op op_add (pv 2) (pe_dget hu (pv 0) pe_str (fun _ _ => rfl))) pa_nil))) (pps_cons pe_int (pe_tup (pa_cons pe_str (pa_cons (pe_dget hu (pv 0) pe_str (fun _ _ => rfl)) pa_nil))) (pps_cons pe_int (pe_tup (pa_cons pe_str (pa_cons (pe_op op_add (pe_dget hu (pv 0) pe_str (fun _ _ => rfl)) pe_int) pa_nil))) (pps_cons pe_int (pe_tup (pa_cons pe_str (pa_cons (pe_dget hu (pv 0) pe_str (fun _ _ => rfl)) pa_nil))) pps_nil)))) rfl rfl (by intro h; cases h) (by decide)) pa_nil)))
    (pss_cons (ps_expr (pe_bm PySem.F.plainAttrs_dict PySem.F.slot_dict_update PySem.F.type_dict_update mtd_update (pv 3) (pa_cons (pe_disp (pps_cons pe_int (pe_tup (pa_cons pe_str (pa_cons (pe_op op_add (pe_dget hu (pv 0) pe_str (fun _ _ => rfl)) pe_int) pa_nil))) (pps_cons pe_int (pe_tup (pa_cons pe_str (pa_cons (pe_op op_add (pe_dget hu (pv 0) pe_str (fun _ _ => rfl)) pe_int) pa_nil))) pps_nil)) rfl rfl (by intro h; cases h) (by decide)) pa_nil)))
    (pss_cons (ps_if (pt_cmpR op_eq (pv 1) pe_int (nomark _)) (pss_one (ps_ret (pe_lst (pa_cons (pe_dget hu (pv 3) pe_int (fun _ _ => rfl)) (pa_cons (pe_tup (pa_cons pe_str (pa_cons (pe_op op_add (pe_dget hu (pv 0) pe_str (fun _ _ => rfl)) pe_int) pa_nil))) pa_nil))))) pss_nil)
    (pss_one (ps_ret (pe_lc (own := [("_law_k", 4)]) (g := gName 4) (tt := tYes) (by rfl) scLtou.nd (pi_range1 (by rfl) z_range (pa_cons (pe_callTy call_int1 (by rfl) z_int (by decide +kernel) (pa_cons (pe_cmp (pc_din hu (pv 1) (pv 3))) pa_nil)) pa_nil)) (blkOk_by (own := [("_law_k", 4)]) (N := scLtouN) (sc := defScope sLtou) (by decide +kernel)) (fun _ _ _ _ _ => (pg_name (i := 4) scLtou.nd rfl (.inl rfl))) (fun _ _ _ _ _ => pts_nil) (fun _ _ _ _ _ => (pe_dget hu (pv 3) (pv 1) (fun _ _ => rfl)))))))))), ?_⟩
  obtain ⟨G0, eG0⟩ : ∃ G0, G0 = H := ⟨_, rfl⟩
  have s0 : Same H G0 := by rw [eG0]; exact Same.refl _
  rw [← eG0]
  clear eG0
  intro g1 ng1
  have f_g1 : H g1 = none := s0.free ng1
  have s1 := s0.trans (same_upd' (o := .dK []) ng1)
  have hg : upd G0 g1 (.dK []) g1 = some (.dK []) := upd_same
  generalize upd G0 g1 (.dK []) = G1 at *
  refine ⟨_, rfl, (by show 2 ≤ sizeLine; decide), fun t2 nt2 => ?_⟩
  have r2 := same_upd' (o := .tup [V.str "r", V.int n]) nt2
  have h2 : upd G1 t2 (.tup [V.str "r", V.int n]) t2 = some (.tup [V.str "r", V.int n]) := upd_same
  have s2 := s1.trans r2
  have hg := r2 _ _ hg
  generalize upd G1 t2 (.tup [V.str "r", V.int n]) = G2 at *
  refine ⟨_, rfl, (by show 2 ≤ sizeLine; decide), fun t3 nt3 => ?_⟩
  have r3 := same_upd' (o := .tup [V.str "w", V.int n]) nt3
  have h3 : upd G2 t3 (.tup [V.str "w", V.int n]) t3 = some (.tup [V.str "w", V.int n]) := upd_same
  have s3 := s2.trans r3
  have hg := r3 _ _ hg
  have h2 := r3 _ _ h2
  generalize upd G2 t3 (.tup [V.str "w", V.int n]) = G3 at *
  refine ⟨_, rfl, (by show 2 ≤ sizeLine; decide), fun t4 nt4 => ?_⟩
  have r4 := same_upd' (o := .tup [V.str "r", V.int n]) nt4
  have h4 : upd G3 t4 (.tup [V.str "r", V.int n]) t4 = some (.tup [V.str "r", V.int n]) := upd_same
  have s4 := s3.trans r4
  have hg := r4 _ _ hg
  have h2 := r4 _ _ h2
  have h3 := r4 _ _ h3
  generalize upd G3 t4 (.tup [V.str "r", V.int n]) = G4 at *
  refine ⟨_, rfl, (by show 2 ≤ sizeLine; decide), fun t5 nt5 => ?_⟩
  have r5 := same_upd' (o := .tup [V.str "r", V.int n]) nt5
  have h5 : upd G4 t5 (.tup [V.str "r", V.int n]) t5 = some (.tup [V.str "r", V.int n]) := upd_same
  have s5 := s4.trans r5
  have hg := r5 _ _ hg
  have h2 := r5 _ _ h2
  have h3 := r5 _ _ h3
  have h4 := r5 _ _ h4
  generalize upd G4 t5 (.tup [V.str "r", V.int n]) = G5 at *
  refine ⟨_, rfl, (by show 2 ≤ sizeLine; decide), fun t6 nt6 => ?_⟩
  have r6 := same_upd' (o := .tup [V.str "r", V.int n]) nt6
  have h6 : upd G5 t6 (.tup [V.str "r", V.int n]) t6 = some (.tup [V.str "r", V.int n]) := upd_same
  have s6 := s5.trans r6
  have hg := r6 _ _ hg
  have h2 := r6 _ _ h2
  have h3 := r6 _ _ h3
  have h4 := r6 _ _ h4
  have h5 := r6 _ _ h5
  generalize upd G5 t6 (.tup [V.str "r", V.int n]) = G6 at *
  refine ⟨_, rfl, (by show 2 ≤ sizeLine; decide), fun t7 nt7 => ?_⟩
  have r7 := same_upd' (o := .tup [V.str "r", V.int n]) nt7
  have h7 : upd G6 t7 (.tup [V.str "r", V.int n]) t7 = some (.tup [V.str "r", V.int n]) := upd_same
  have s7 := s6.trans r7
  have hg := r7 _ _ hg
  have h2 := r7 _ _ h2
  have h3 := r7 _ _ h3
  have h4 := r7 _ _ h4
  have h5 := r7 _ _ h5
  have h6 := r7 _ _ h6
  generalize upd G6 t7 (.tup [V.str "r", V.int n]) = G7 at *
  obtain ⟨sv8, hd8, hz8⟩ := (L.same s7).hd
  refine ⟨_, rfl, _, rfl, d, _, rfl, dg (k := Sum.inr "b") hd8 oG_b, _, _, rfl, rfl, (by show 2 ≤ sizeLine; decide), fun t8 nt8 => ?_⟩
  have r8 := same_upd' (o := .tup [V.str "r", V.int (n + x.b)]) nt8
  have h8 : upd G7 t8 (.tup [V.str "r", V.int (n + x.b)]) t8 = some (.tup [V.str "r", V.int (n + x.b)]) := upd_same
  have s8 := s7.trans r8
  have hg := r8 _ _ hg
  have h2 := r8 _ _ h2
  have h3 := r8 _ _ h3
  have h4 := r8 _ _ h4
  have h5 := r8 _ _ h5
  have h6 := r8 _ _ h6
  have h7 := r8 _ _ h7
  generalize upd G7 t8 (.tup [V.str "r", V.int (n + x.b)]) = G8 at *
  refine ⟨hg, [((Sum.inl 2 : Key), V.ref t2), ((Sum.inl 3 : Key), V.ref t3), ((Sum.inl 4 : Key), V.ref t4), ((Sum.inl 5 : Key), V.ref t5), ((Sum.inl 6 : Key), V.ref t6), ((Sum.inl 7 : Key), V.ref t7), ((Sum.inl 8 : Key), V.ref t8)], rfl, (by show 7 ≤ 15; decide), ?_⟩
  have em9 : mergeK [] ([((Sum.inl 2 : Key), V.ref t2), ((Sum.inl 3 : Key), V.ref t3), ((Sum.inl 4 : Key), V.ref t4), ((Sum.inl 5 : Key), V.ref t5), ((Sum.inl 6 : Key), V.ref t6), ((Sum.inl 7 : Key), V.ref t7), ((Sum.inl 8 : Key), V.ref t8)]) = [((Sum.inl 2 : Key), V.ref t2), ((Sum.inl 3 : Key), V.ref t3), ((Sum.inl 4 : Key), V.ref t4), ((Sum.inl 5 : Key), V.ref t5), ((Sum.inl 6 : Key), V.ref t6), ((Sum.inl 7 : Key), V.ref t7), ((Sum.inl 8 : Key), V.ref t8)] := by kernel_rfl
  rw [em9]
  obtain ⟨G9, eG9, s9, r9, hgn⟩ : ∃ G : Hp, upd G8 g1 (.dK ([((Sum.inl 2 : Key), V.ref t2), ((Sum.inl 3 : Key), V.ref t3), ((Sum.inl 4 : Key), V.ref t4), ((Sum.inl 5 : Key), V.ref t5), ((Sum.inl 6 : Key), V.ref t6), ((Sum.inl 7 : Key), V.ref t7), ((Sum.inl 8 : Key), V.ref t8)])) = G ∧ Same H G ∧ (∀ z o, z ≠ g1 → G8 z = some o → G z = some o) ∧ G g1 = some (.dK ([((Sum.inl 2 : Key), V.ref t2), ((Sum.inl 3 : Key), V.ref t3), ((Sum.inl 4 : Key), V.ref t4), ((Sum.inl 5 : Key), V.ref t5), ((Sum.inl 6 : Key), V.ref t6), ((Sum.inl 7 : Key), V.ref t7), ((Sum.inl 8 : Key), V.ref t8)])) := ⟨_, rfl, same_of s8 f_g1, fun z o hz e => by rw [upd_ne hz]; exact e, upd_same⟩
  rw [eG9]
  have h2 := r9 _ _ (fun z => by rw [z, hg] at h2; cases h2) h2
  have h3 := r9 _ _ (fun z => by rw [z, hg] at h3; cases h3) h3
  have h4 := r9 _ _ (fun z => by rw [z, hg] at h4; cases h4) h4
  have h5 := r9 _ _ (fun z => by rw [z, hg] at h5; cases h5) h5
  have h6 := r9 _ _ (fun z => by rw [z, hg] at h6; cases h6) h6
  have h7 := r9 _ _ (fun z => by rw [z, hg] at h7; cases h7) h7
  have h8 := r9 _ _ (fun z => by rw [z, hg] at h8; cases h8) h8
  have hg := hgn
  clear hgn eG9 em9
  refine ⟨_, rfl, .inr (.inr (.inl ⟨rfl, .inl ⟨_, hg⟩⟩)), ?_⟩
  intro u1 nu1
  have f_u1 : H u1 = none := s9.free nu1
  have ne_hg : g1 ≠ u1 := ne_of_none hg nu1
  have r10 := same_upd' (o := .dK []) nu1
  have h_u1 : upd G9 u1 (.dK []) u1 = some (.dK []) := upd_same
  have s10 := s9.trans r10
  have hg := r10 _ _ hg
  have h2 := r10 _ _ h2
  have h3 := r10 _ _ h3
  have h4 := r10 _ _ h4
  have h5 := r10 _ _ h5
  have h6 := r10 _ _ h6
  have h7 := r10 _ _ h7
  have h8 := r10 _ _ h8
  generalize upd G9 u1 (.dK []) = G10 at *
  obtain ⟨sv9, hd9, hz9⟩ := (L.same s10).hd
  refine ⟨_, rfl, _, rfl, d, _, rfl, dg (k := Sum.inr "b") hd9 oG_b, _, _, rfl, rfl, (by show 2 ≤ sizeLine; decide), fun t9 nt9 => ?_⟩
  have r11 := same_upd' (o := .tup [V.str "w", V.int (n + x.b)]) nt9
  have h9 : upd G10 t9 (.tup [V.str "w", V.int (n + x.b)]) t9 = some (.tup [V.str "w", V.int (n + x.b)]) := upd_same
  have s11 := s10.trans r11
  have hg := r11 _ _ hg
  have h2 := r11 _ _ h2
  have h3 := r11 _ _ h3
  have h4 := r11 _ _ h4
  have h5 := r11 _ _ h5
  have h6 := r11 _ _ h6
  have h7 := r11 _ _ h7
  have h8 := r11 _ _ h8
  have h_u1 := r11 _ _ h_u1
  generalize upd G10 t9 (.tup [V.str "w", V.int (n + x.b)]) = G11 at *
  obtain ⟨sv15, hd15, hz15⟩ := (L.same s11).hd
  refine ⟨_, rfl, d, _, rfl, dg (k := Sum.inr "sp") hd15 oG_sp, (by show 2 ≤ sizeLine; decide), fun t15 nt15 => ?_⟩
  have r12 := same_upd' (o := .tup [V.str "w", V.int x.sp]) nt15
  have h15 : upd G11 t15 (.tup [V.str "w", V.int x.sp]) t15 = some (.tup [V.str "w", V.int x.sp]) := upd_same
  have s12 := s11.trans r12
  have hg := r12 _ _ hg
  have h2 := r12 _ _ h2
  have h3 := r12 _ _ h3
  have h4 := r12 _ _ h4
  have h5 := r12 _ _ h5
  have h6 := r12 _ _ h6
  have h7 := r12 _ _ h7
  have h8 := r12 _ _ h8
  have h_u1 := r12 _ _ h_u1
  have h9 := r12 _ _ h9
  generalize upd G11 t15 (.tup [V.str "w", V.int x.sp]) = G12 at *
  obtain ⟨sv16, hd16, hz16⟩ := (L.same s12).hd
  refine ⟨_, rfl, d, _, rfl, dg (k := Sum.inr "sp") hd16 oG_sp, _, _, rfl, rfl, (by show 2 ≤ sizeLine; decide), fun t16 nt16 => ?_⟩
  have r13 := same_upd' (o := .tup [V.str "r", V.int (x.sp + 1)]) nt16
  have h16 : upd G12 t16 (.tup [V.str "r", V.int (x.sp + 1)]) t16 = some (.tup [V.str "r", V.int (x.sp + 1)]) := upd_same
  have s13 := s12.trans r13
  have hg := r13 _ _ hg
  have h2 := r13 _ _ h2
  have h3 := r13 _ _ h3
  have h4 := r13 _ _ h4
  have h5 := r13 _ _ h5
  have h6 := r13 _ _ h6
  have h7 := r13 _ _ h7
  have h8 := r13 _ _ h8
  have h_u1 := r13 _ _ h_u1
  have h9 := r13 _ _ h9
  have h15 := r13 _ _ h15
  generalize upd G12 t16 (.tup [V.str "r", V.int (x.sp + 1)]) = G13 at *
  obtain ⟨sv17, hd17, hz17⟩ := (L.same s13).hd
  refine ⟨_, rfl, d, _, rfl, dg (k := Sum.inr "sp") hd17 oG_sp, (by show 2 ≤ sizeLine; decide), fun t17 nt17 => ?_⟩
  have r14 := same_upd' (o := .tup [V.str "w", V.int x.sp]) nt17
  have h17 : upd G13 t17 (.tup [V.str "w", V.int x.sp]) t17 = some (.tup [V.str "w", V.int x.sp]) := upd_same
  have s14 := s13.trans r14
  have hg := r14 _ _ hg
  have h2 := r14 _ _ h2
  have h3 := r14 _ _ h3
  have h4 := r14 _ _ h4
  have h5 := r14 _ _ h5
  have h6 := r14 _ _ h6
  have h7 := r14 _ _ h7
  have h8 := r14 _ _ h8
  have h_u1 := r14 _ _ h_u1
  have h9 := r14 _ _ h9
  have h15 := r14 _ _ h15
  have h16 := r14 _ _ h16
  generalize upd G13 t17 (.tup [V.str "w", V.int x.sp]) = G14 at *
  refine ⟨h_u1, [((Sum.inl 9 : Key), V.ref t9), ((Sum.inl 15 : Key), V.ref t15), ((Sum.inl 16 : Key), V.ref t16), ((Sum.inl 17 : Key), V.ref t17)], rfl, (by show 4 ≤ 15; decide), ?_⟩
  have em15 : mergeK [] ([((Sum.inl 9 : Key), V.ref t9), ((Sum.inl 15 : Key), V.ref t15), ((Sum.inl 16 : Key), V.ref t16), ((Sum.inl 17 : Key), V.ref t17)]) = [((Sum.inl 9 : Key), V.ref t9), ((Sum.inl 15 : Key), V.ref t15), ((Sum.inl 16 : Key), V.ref t16), ((Sum.inl 17 : Key), V.ref t17)] := by kernel_rfl
  rw [em15]
  obtain ⟨G15, eG15, s15, r15, h_u1n⟩ : ∃ G : Hp, upd G14 u1 (.dK ([((Sum.inl 9 : Key), V.ref t9), ((Sum.inl 15 : Key), V.ref t15), ((Sum.inl 16 : Key), V.ref t16), ((Sum.inl 17 : Key), V.ref t17)])) = G ∧ Same H G ∧ (∀ z o, z ≠ u1 → G14 z = some o → G z = some o) ∧ G u1 = some (.dK ([((Sum.inl 9 : Key), V.ref t9), ((Sum.inl 15 : Key), V.ref t15), ((Sum.inl 16 : Key), V.ref t16), ((Sum.inl 17 : Key), V.ref t17)])) := ⟨_, rfl, same_of s14 f_u1, fun z o hz e => by rw [upd_ne hz]; exact e, upd_same⟩
  rw [eG15]
  have hg := r15 _ _ (ne_hg) hg
  have h2 := r15 _ _ (fun z => by rw [z, h_u1] at h2; cases h2) h2
  have h3 := r15 _ _ (fun z => by rw [z, h_u1] at h3; cases h3) h3
  have h4 := r15 _ _ (fun z => by rw [z, h_u1] at h4; cases h4) h4
  have h5 := r15 _ _ (fun z => by rw [z, h_u1] at h5; cases h5) h5
  have h6 := r15 _ _ (fun z => by rw [z, h_u1] at h6; cases h6) h6
  have h7 := r15 _ _ (fun z => by rw [z, h_u1] at h7; cases h7) h7
  have h8 := r15 _ _ (fun z => by rw [z, h_u1] at h8; cases h8) h8
  have h9 := r15 _ _ (fun z => by rw [z, h_u1] at h9; cases h9) h9
  have h15 := r15 _ _ (fun z => by rw [z, h_u1] at h15; cases h15) h15
  have h16 := r15 _ _ (fun z => by rw [z, h_u1] at h16; cases h16) h16
  have h17 := r15 _ _ (fun z => by rw [z, h_u1] at h17; cases h17) h17
  have h_u1 := h_u1n
  clear h_u1n eG15 em15
  refine ⟨g1, u1, _, _, rfl, rfl, ne_hg, hg, h_u1, (by show 7 + 4 ≤ sizeLine; decide), ?_⟩
  have em16 : mergeK ([((Sum.inl 2 : Key), V.ref t2), ((Sum.inl 3 : Key), V.ref t3), ((Sum.inl 4 : Key), V.ref t4), ((Sum.inl 5 : Key), V.ref t5), ((Sum.inl 6 : Key), V.ref t6), ((Sum.inl 7 : Key), V.ref t7), ((Sum.inl 8 : Key), V.ref t8)]) ([((Sum.inl 9 : Key), V.ref t9), ((Sum.inl 15 : Key), V.ref t15), ((Sum.inl 16 : Key), V.ref t16), ((Sum.inl 17 : Key), V.ref t17)]) = [((Sum.inl 2 : Key), V.ref t2), ((Sum.inl 3 : Key), V.ref t3), ((Sum.inl 4 : Key), V.ref t4), ((Sum.inl 5 : Key), V.ref t5), ((Sum.inl 6 : Key), V.ref t6), ((Sum.inl 7 : Key), V.ref t7), ((Sum.inl 8 : Key), V.ref t8), ((Sum.inl 9 : Key), V.ref t9), ((Sum.inl 15 : Key), V.ref t15), ((Sum.inl 16 : Key), V.ref t16), ((Sum.inl 17 : Key), V.ref t17)] := by kernel_rfl
  rw [em16]
  obtain ⟨G16, eG16, s16, r16, hgn⟩ : ∃ G : Hp, upd G15 g1 (.dK ([((Sum.inl 2 : Key), V.ref t2), ((Sum.inl 3 : Key), V.ref t3), ((Sum.inl 4 : Key), V.ref t4), ((Sum.inl 5 : Key), V.ref t5), ((Sum.inl 6 : Key), V.ref t6), ((Sum.inl 7 : Key), V.ref t7), ((Sum.inl 8 : Key), V.ref t8), ((Sum.inl 9 : Key), V.ref t9), ((Sum.inl 15 : Key), V.ref t15), ((Sum.inl 16 : Key), V.ref t16), ((Sum.inl 17 : Key), V.ref t17)])) = G ∧ Same H G ∧ (∀ z o, z ≠ g1 → G15 z = some o → G z = some o) ∧ G g1 = some (.dK ([((Sum.inl 2 : Key), V.ref t2), ((Sum.inl 3 : Key), V.ref t3), ((Sum.inl 4 : Key), V.ref t4), ((Sum.inl 5 : Key), V.ref t5), ((Sum.inl 6 : Key), V.ref t6), ((Sum.inl 7 : Key), V.ref t7), ((Sum.inl 8 : Key), V.ref t8), ((Sum.inl 9 : Key), V.ref t9), ((Sum.inl 15 : Key), V.ref t15), ((Sum.inl 16 : Key), V.ref t16), ((Sum.inl 17 : Key), V.ref t17)])) := ⟨_, rfl, same_of s15 f_g1, fun z o hz e => by rw [upd_ne hz]; exact e, upd_same⟩
  rw [eG16]
  have h2 := r16 _ _ (fun z => by rw [z, hg] at h2; cases h2) h2
  have h3 := r16 _ _ (fun z => by rw [z, hg] at h3; cases h3) h3
  have h4 := r16 _ _ (fun z => by rw [z, hg] at h4; cases h4) h4
  have h5 := r16 _ _ (fun z => by rw [z, hg] at h5; cases h5) h5
  have h6 := r16 _ _ (fun z => by rw [z, hg] at h6; cases h6) h6
  have h7 := r16 _ _ (fun z => by rw [z, hg] at h7; cases h7) h7
  have h8 := r16 _ _ (fun z => by rw [z, hg] at h8; cases h8) h8
  have h9 := r16 _ _ (fun z => by rw [z, hg] at h9; cases h9) h9
  have h15 := r16 _ _ (fun z => by rw [z, hg] at h15; cases h15) h15
  have h16 := r16 _ _ (fun z => by rw [z, hg] at h16; cases h16) h16
  have h17 := r16 _ _ (fun z => by rw [z, hg] at h17; cases h17) h17
  have hg := hgn
  clear hgn eG16 em16 h_u1 ne_hg
  refine ⟨_, rfl, .inr (.inr (.inl ⟨rfl, .inl ⟨_, hg⟩⟩)), ?_⟩
  intro u2 nu2
  have f_u2 : H u2 = none := s16.free nu2
  have ne_hg : g1 ≠ u2 := ne_of_none hg nu2
  have r17 := same_upd' (o := .dK []) nu2
  have h_u2 : upd G16 u2 (.dK []) u2 = some (.dK []) := upd_same
  have s17 := s16.trans r17
  have hg := r17 _ _ hg
  have h2 := r17 _ _ h2
  have h3 := r17 _ _ h3
  have h4 := r17 _ _ h4
  have h5 := r17 _ _ h5
  have h6 := r17 _ _ h6
  have h7 := r17 _ _ h7
  have h8 := r17 _ _ h8
  have h9 := r17 _ _ h9
  have h15 := r17 _ _ h15
  have h16 := r17 _ _ h16
  have h17 := r17 _ _ h17
  generalize upd G16 u2 (.dK []) = G17 at *
  obtain ⟨sv18, hd18, hz18⟩ := (L.same s17).hd
  refine ⟨_, rfl, d, _, rfl, dg (k := Sum.inr "sp") hd18 oG_sp, _, _, rfl, rfl, (by show 2 ≤ sizeLine; decide), fun t18 nt18 => ?_⟩
  have r18 := same_upd' (o := .tup [V.str "r", V.int (x.sp + 1)]) nt18
  have h18 : upd G17 t18 (.tup [V.str "r", V.int (x.sp + 1)]) t18 = some (.tup [V.str "r", V.int (x.sp + 1)]) := upd_same
  have s18 := s17.trans r18
  have hg := r18 _ _ hg
  have h2 := r18 _ _ h2
  have h3 := r18 _ _ h3
  have h4 := r18 _ _ h4
  have h5 := r18 _ _ h5
  have h6 := r18 _ _ h6
  have h7 := r18 _ _ h7
  have h8 := r18 _ _ h8
  have h9 := r18 _ _ h9
  have h15 := r18 _ _ h15
  have h16 := r18 _ _ h16
  have h17 := r18 _ _ h17
  have h_u2 := r18 _ _ h_u2
  generalize upd G17 t18 (.tup [V.str "r", V.int (x.sp + 1)]) = G18 at *
  obtain ⟨sv21, hd21, hz21⟩ := (L.same s18).hd
  refine ⟨_, rfl, d, _, rfl, dg (k := Sum.inr "sp") hd21 oG_sp, _, _, rfl, rfl, (by show 2 ≤ sizeLine; decide), fun t21 nt21 => ?_⟩
  have r19 := same_upd' (o := .tup [V.str "r", V.int (x.sp + 1)]) nt21
  have h21 : upd G18 t21 (.tup [V.str "r", V.int (x.sp + 1)]) t21 = some (.tup [V.str "r", V.int (x.sp + 1)]) := upd_same
  have s19 := s18.trans r19
  have hg := r19 _ _ hg
  have h2 := r19 _ _ h2
  have h3 := r19 _ _ h3
  have h4 := r19 _ _ h4
  have h5 := r19 _ _ h5
  have h6 := r19 _ _ h6
  have h7 := r19 _ _ h7
  have h8 := r19 _ _ h8
  have h9 := r19 _ _ h9
  have h15 := r19 _ _ h15
  have h16 := r19 _ _ h16
  have h17 := r19 _ _ h17
  have h_u2 := r19 _ _ h_u2
  have h18 := r19 _ _ h18
  generalize upd G18 t21 (.tup [V.str "r", V.int (x.sp + 1)]) = G19 at *
  refine ⟨h_u2, [((Sum.inl 18 : Key), V.ref t18), ((Sum.inl 21 : Key), V.ref t21)], rfl, (by show 2 ≤ 15; decide), ?_⟩
  have em20 : mergeK [] ([((Sum.inl 18 : Key), V.ref t18), ((Sum.inl 21 : Key), V.ref t21)]) = [((Sum.inl 18 : Key), V.ref t18), ((Sum.inl 21 : Key), V.ref t21)] := by kernel_rfl
  rw [em20]
  obtain ⟨G20, eG20, s20, r20, h_u2n⟩ : ∃ G : Hp, upd G19 u2 (.dK ([((Sum.inl 18 : Key), V.ref t18), ((Sum.inl 21 : Key), V.ref t21)])) = G ∧ Same H G ∧ (∀ z o, z ≠ u2 → G19 z = some o → G z = some o) ∧ G u2 = some (.dK ([((Sum.inl 18 : Key), V.ref t18), ((Sum.inl 21 : Key), V.ref t21)])) := ⟨_, rfl, same_of s19 f_u2, fun z o hz e => by rw [upd_ne hz]; exact e, upd_same⟩
  rw [eG20]
  have hg := r20 _ _ (ne_hg) hg
  have h2 := r20 _ _ (fun z => by rw [z, h_u2] at h2; cases h2) h2
  have h3 := r20 _ _ (fun z => by rw [z, h_u2] at h3; cases h3) h3
  have h4 := r20 _ _ (fun z => by rw [z, h_u2] at h4; cases h4) h4
  have h5 := r20 _ _ (fun z => by rw [z, h_u2] at h5; cases h5) h5
  have h6 := r20 _ _ (fun z => by rw [z, h_u2] at h6; cases h6) h6
  have h7 := r20 _ _ (fun z => by rw [z, h_u2] at h7; cases h7) h7
  have h8 := r20 _ _ (fun z => by rw [z, h_u2] at h8; cases h8) h8
  have h9 := r20 _ _ (fun z => by rw [z, h_u2] at h9; cases h9) h9
  have h15 := r20 _ _ (fun z => by rw [z, h_u2] at h15; cases h15) h15
  have h16 := r20 _ _ (fun z => by rw [z, h_u2] at h16; cases h16) h16
  have h17 := r20 _ _ (fun z => by rw [z, h_u2] at h17; cases h17) h17
  have h18 := r20 _ _ (fun z => by rw [z, h_u2] at h18; cases h18) h18
  have h21 := r20 _ _ (fun z => by rw [z, h_u2] at h21; cases h21) h21
  have h_u2 := h_u2n
  clear h_u2n eG20 em20
  refine ⟨g1, u2, _, _, rfl, rfl, ne_hg, hg, h_u2, (by show 11 + 2 ≤ sizeLine; decide), ?_⟩
  have em21 : mergeK ([((Sum.inl 2 : Key), V.ref t2), ((Sum.inl 3 : Key), V.ref t3), ((Sum.inl 4 : Key), V.ref t4), ((Sum.inl 5 : Key), V.ref t5), ((Sum.inl 6 : Key), V.ref t6), ((Sum.inl 7 : Key), V.ref t7), ((Sum.inl 8 : Key), V.ref t8), ((Sum.inl 9 : Key), V.ref t9), ((Sum.inl 15 : Key), V.ref t15), ((Sum.inl 16 : Key), V.ref t16), ((Sum.inl 17 : Key), V.ref t17)]) ([((Sum.inl 18 : Key), V.ref t18), ((Sum.inl 21 : Key), V.ref t21)]) = [((Sum.inl 2 : Key), V.ref t2), ((Sum.inl 3 : Key), V.ref t3), ((Sum.inl 4 : Key), V.ref t4), ((Sum.inl 5 : Key), V.ref t5), ((Sum.inl 6 : Key), V.ref t6), ((Sum.inl 7 : Key), V.ref t7), ((Sum.inl 8 : Key), V.ref t8), ((Sum.inl 9 : Key), V.ref t9), ((Sum.inl 15 : Key), V.ref t15), ((Sum.inl 16 : Key), V.ref t16), ((Sum.inl 17 : Key), V.ref t17), ((Sum.inl 18 : Key), V.ref t18), ((Sum.inl 21 : Key), V.ref t21)] := by kernel_rfl
  rw [em21]
  obtain ⟨G21, eG21, s21, r21, hgn⟩ : ∃ G : Hp, upd G20 g1 (.dK ([((Sum.inl 2 : Key), V.ref t2), ((Sum.inl 3 : Key), V.ref t3), ((Sum.inl 4 : Key), V.ref t4), ((Sum.inl 5 : Key), V.ref t5), ((Sum.inl 6 : Key), V.ref t6), ((Sum.inl 7 : Key), V.ref t7), ((Sum.inl 8 : Key), V.ref t8), ((Sum.inl 9 : Key), V.ref t9), ((Sum.inl 15 : Key), V.ref t15), ((Sum.inl 16 : Key), V.ref t16), ((Sum.inl 17 : Key), V.ref t17), ((Sum.inl 18 : Key), V.ref t18), ((Sum.inl 21 : Key), V.ref t21)])) = G ∧ Same H G ∧ (∀ z o, z ≠ g1 → G20 z = some o → G z = some o) ∧ G g1 = some (.dK ([((Sum.inl 2 : Key), V.ref t2), ((Sum.inl 3 : Key), V.ref t3), ((Sum.inl 4 : Key), V.ref t4), ((Sum.inl 5 : Key), V.ref t5), ((Sum.inl 6 : Key), V.ref t6), ((Sum.inl 7 : Key), V.ref t7), ((Sum.inl 8 : Key), V.ref t8), ((Sum.inl 9 : Key), V.ref t9), ((Sum.inl 15 : Key), V.ref t15), ((Sum.inl 16 : Key), V.ref t16), ((Sum.inl 17 : Key), V.ref t17), ((Sum.inl 18 : Key), V.ref t18), ((Sum.inl 21 : Key), V.ref t21)])) := ⟨_, rfl, same_of s20 f_g1, fun z o hz e => by rw [upd_ne hz]; exact e, upd_same⟩
  rw [eG21]
  have h2 := r21 _ _ (fun z => by rw [z, hg] at h2; cases h2) h2
  have h3 := r21 _ _ (fun z => by rw [z, hg] at h3; cases h3) h3
  have h4 := r21 _ _ (fun z => by rw [z, hg] at h4; cases h4) h4
  have h5 := r21 _ _ (fun z => by rw [z, hg] at h5; cases h5) h5
  have h6 := r21 _ _ (fun z => by rw [z, hg] at h6; cases h6) h6
  have h7 := r21 _ _ (fun z => by rw [z, hg] at h7; cases h7) h7
  have h8 := r21 _ _ (fun z => by rw [z, hg] at h8; cases h8) h8
  have h9 := r21 _ _ (fun z => by rw [z, hg] at h9; cases h9) h9
  have h15 := r21 _ _ (fun z => by rw [z, hg] at h15; cases h15) h15
  have h16 := r21 _ _ (fun z => by rw [z, hg] at h16; cases h16) h16
  have h17 := r21 _ _ (fun z => by rw [z, hg] at h17; cases h17) h17
  have h18 := r21 _ _ (fun z => by rw [z, hg] at h18; cases h18) h18
  have h21 := r21 _ _ (fun z => by rw [z, hg] at h21; cases h21) h21
  have hg := hgn
  clear hgn eG21 em21 h_u2 ne_hg
  refine ⟨_, rfl, rfl, _, rfl, ?_⟩
  rw [dI]
  refine ifB (fun h => ?_) (fun h => ?_)
  · have h : op = 21 := by have := of_decide_eq_true h; omega
    subst h
    refine ⟨_, rfl, g1, _, rfl, dg (k := Sum.inl 21) (v := .ref t21) hg (by kernel_rfl), ?_⟩
    obtain ⟨sv22, hd22, hz22⟩ := (L.same s21).hd
    refine ⟨_, rfl, d, _, rfl, dg (k := Sum.inr "sp") hd22 oG_sp, _, _, rfl, rfl, (by show 2 ≤ sizeLine; decide), fun t22 nt22 => ?_⟩
    have r22 := same_upd' (o := .tup [V.str "r", V.int (x.sp + 2)]) nt22
    have h22 : upd G21 t22 (.tup [V.str "r", V.int (x.sp + 2)]) t22 = some (.tup [V.str "r", V.int (x.sp + 2)]) := upd_same
    have s22 := s21.trans r22
    have hg := r22 _ _ hg
    have h2 := r22 _ _ h2
    have h3 := r22 _ _ h3
    have h4 := r22 _ _ h4
    have h5 := r22 _ _ h5
    have h6 := r22 _ _ h6
    have h7 := r22 _ _ h7
    have h8 := r22 _ _ h8
    have h9 := r22 _ _ h9
    have h15 := r22 _ _ h15
    have h16 := r22 _ _ h16
    have h17 := r22 _ _ h17
    have h18 := r22 _ _ h18
    have h21 := r22 _ _ h21
    generalize upd G21 t22 (.tup [V.str "r", V.int (x.sp + 2)]) = G22 at *
    refine ⟨(by show 2 ≤ sizeLine; decide), fun l nl => ?_⟩
    have rl := same_upd' (o := .lst [V.ref t21, V.ref t22]) nl
    exact k _ l _ (s22.trans rl) (s22.free nl) upd_same (.cons ⟨t21, rfl, rl _ _ h21⟩ (.cons ⟨t22, rfl, rl _ _ h22⟩ .nil))
  · have h21' : op ≠ 21 := fun z => of_decide_eq_false h (by omega)
    have hat := by13_at o2 h21' (n := n) (b := x.b) (sp := x.sp) h2 h3 h4 h5 h6 h7 h8 h9 h15 h16 h17 h18 h21
    have hgB : G21 g1 = some (.dK (by13 t2 t3 t4 t5 t6 t7 t8 t9 t15 t16 t17 t18 t21)) := hg
    refine ⟨_, rfl, _, rfl, g1, _, rfl, DGet.k (k := Sum.inl (op : Int)) hgB, ?_⟩
    rcases hat with ⟨e1, e2⟩ | ⟨t, u, e1, e2, e3⟩
    · rw [e1]
      refine .inr ⟨_, rfl, _, rfl, by decide, by decide, fun D nD => ?_⟩
      refine lc_range (lo := 0) (n := 0) (fun i H' => H' = upd G21 D (.lst [])) rfl (fun i H' hi _ => absurd hi (Nat.not_lt_zero _)) ?_
      rintro H' rfl
      exact k _ D [] (s21.trans (same_upd' nD)) (s21.free nD) upd_same (by rw [e2]; exact .nil)
    · rw [e1]
      refine .inr ⟨_, rfl, _, rfl, (by show -(2 : Int) ^ 62 ≤ 1; decide), (by show (1 : Int) < 2 ^ 62; decide), fun D nD => ?_⟩
      refine lc_range (lo := 0) (n := 1) (fun i H' => Same G21 H' ∧ H' D = some (.lst (([V.ref t] : List V).take i))) ⟨same_upd' nD, upd_same⟩ ?_ ?_
      · rintro i H' hi ⟨sm, hD⟩
        obtain rfl : i = 0 := by omega
        refine ⟨rfl, ?_⟩
        refine ⟨_, rfl, _, rfl, g1, _, rfl, dg (k := Sum.inl (op : Int)) (sm _ _ hgB) e1, ?_⟩
        exact ⟨_, hD, (by show 0 < sizeLine; decide), same_of sm nD, upd_same⟩
      rintro H' ⟨sm, hD⟩
      exact k _ D [.ref t] (s21.trans sm) (s21.free nD) hD (by rw [e2]; exact .cons ⟨t, rfl, sm _ _ e3⟩ .nil)
abbrev sLdeed : Stmt := topS 112
def scLdeedN : List Str := ["_law_s", "_law_pc", "_law_op", "_law_x", "_law_touched", "_law_way", "_law_address"]
theorem scLdeed : FnScope scLdeedN ["_law_s"] (defScope sLdeed) := ⟨rfl, rfl, rfl, by decide +kernel, rfl, by decide +kernel, by decide +kernel⟩
theorem ok_Ldeed {f : Addr} {fd : FuncData} {fL_bar : Addr} {dL_bar : FuncData} {fL_do : Addr} {dL_do : FuncData} {fL_halt : Addr} {dL_halt : FuncData} {fL_pass : Addr} {dL_pass : FuncData} {fL_tou : Addr} {dL_tou : FuncData} (F : Fun K "_law_deed" "_law_deed" sLdeed f fd) (T : Tx K mg CB CM)
    (L_bar : CalF P w K mg base 1 "_law_bar" ["_law_address", "_law_puts"] (spOBar) fL_bar dL_bar)
    (L_do : CalF P w K mg base 2 "_law_do" ["_law_s", "_law_op", "_law_x", "_law_spots"] (spODo) fL_do dL_do)
    (L_halt : CalF P w K mg base 1 "_law_halt" ["_law_s", "_law_cause"] (spOHalt) fL_halt dL_halt)
    (L_pass : CalF P w K mg base 1 "_law_pass" ["_law_s", "_law_many"] (spOPass) fL_pass dL_pass)
    (L_tou : CalF P w K mg base 1 "_law_touches" ["_law_s", "_law_op", "_law_x"] (spOTou) fL_tou dL_tou) : FnOk P w K mg base CX0 3 f fd ["_law_s"] (spODeed) := by
  refine F.ok scLdeed (fun vs H Q E h => by obtain ⟨_, _, _, _, rfl, _⟩ := h; rfl) (fun cdv A outer s H vs Q E hr h => ?_)
  have hu := hu_of hr
  have z_int := T.z_int
  have z_len := T.z_len
  obtain ⟨d, oa, oe, x, rfl, L, O, ks, kd⟩ := h
  obtain ⟨sv, hd, hz⟩ := L.hd
  refine ⟨_, (pss_cons (ps_set (i := 1) scLdeed.nd rfl (.inl rfl) (pe_dget hu (pv 0) pe_str (fun _ _ => rfl)))
    (pss_cons (ps_if (pt_cmpR op_gt (pv 1) pe_int (nomark _)) (pss_one (ps_ret (pe_call L_halt.G (hr.mono (by decide)) (by rfl) L_halt.g L_halt.kp L_halt.b .nil pass0 (pa_cons (pv 0) (pa_cons (pe_tup (pa_cons pe_str (pa_cons (pv 1) (pa_cons (pv 1) pa_nil)))) pa_nil))))) pss_nil)
    (pss_cons (ps_par (i := 2) (j := 3) (by rfl) scLdeed.nd rfl rfl (by decide) rfl rfl (pa_cons (pe_op op_fdiv (pe_ix ix_list (pe_dget hu (pv 0) pe_str (fun _ _ => rfl)) (pv 1) (fun _ _ => rfl)) pe_int) (pa_cons (pe_op op_mod (pe_ix ix_list (pe_dget hu (pv 0) pe_str (fun _ _ => rfl)) (pv 1) (fun _ _ => rfl)) pe_int) pa_nil)) (by rfl))
    (pss_cons (ps_if (PW.pt (pw_or (pt_cmpR op_eq (pv 2) pe_int (nomark _)) (pw_or1 (pt_cmpR op_gt (pv 2) pe_int (nomark _))))) (pss_one (ps_ret (pe_call L_halt.G (hr.mono (by decide)) (by rfl) L_halt.g L_halt.kp L_halt.b .nil pass0 (pa_cons (pv 0) (pa_cons (pe_ix ix_list (pe_lst (pa_cons (pe_tup (pa_cons pe_str (pa_cons (pv 1) pa_nil))) (pa_cons (pe_tup (pa_cons pe_str (pa_cons (pv 1) pa_nil))) pa_nil))) (pe_callTy call_int1 (by rfl) z_int (by decide +kernel) (pa_cons (pe_cmpR op_gt (pv 2) pe_int (nomark _)) pa_nil)) (fun _ _ => rfl)) pa_nil))))) pss_nil)
    (pss_cons (ps_set (i := 4) scLdeed.nd rfl (.inl rfl) (pe_call L_tou.G (hr.mono (by decide)) (by rfl) L_tou.g L_tou.kp L_tou.b .nil pass0 (pa_cons (pv 0) (pa_cons (pv 2) (pa_cons (pv 3) pa_nil)))))
    (pss_cons (ps_for PassesOwn.never rfl (pi_list (pv 4)) (pg_tup rfl (pgs_cons (pg_name (i := 5) scLdeed.nd rfl (.inl rfl)) (pgs_cons (pg_name (i := 6) scLdeed.nd rfl (.inl rfl)) pgs_nil)))
      (pss_one (ps_if (pt_cmp (pc_notN (pe_call L_bar.G (hr.mono (by decide)) (by rfl) L_bar.g L_bar.kp L_bar.b .nil pass0 (pa_cons (pv 6) (pa_cons (pe_cmpR op_eq (pv 5) pe_str (nomark _)) pa_nil))))) (pss_one (ps_ret (pe_call L_halt.G (hr.mono (by decide)) (by rfl) L_halt.g L_halt.kp L_halt.b .nil pass0 (pa_cons (pv 0) (pa_cons (pe_tup (pa_cons (pe_call L_bar.G (hr.mono (by decide)) (by rfl) L_bar.g L_bar.kp L_bar.b .nil pass0 (pa_cons (pv 6) (pa_cons (pe_cmpR op_eq (pv 5) pe_str (nomark _)) pa_nil))) (pa_cons (pv 1) (pa_cons (pv 6) pa_nil)))) pa_nil))))) pss_nil)))
    (pss_cons (ps_expr (pe_bm PySem.F.plainAttrs_dict PySem.F.slot_dict_update PySem.F.type_dict_update mtd_update (pv 0) (pa_cons (pe_disp (pps_cons pe_str (pv 2) (pps_cons pe_str (pv 4) (pps_cons pe_str (pe_op op_add (pv 1) pe_int) pps_nil))) rfl rfl (by intro h; cases h) (by decide)) pa_nil)))
    (pss_cons (ps_expr (pe_call L_do.G (hr.mono (by decide)) (by rfl) L_do.g L_do.kp L_do.b .nil pass0 (pa_cons (pv 0) (pa_cons (pv 2) (pa_cons (pv 3) (pa_cons (pe_lc (own := [("_law_way", 5), ("_law_address", 6)]) (g := gTup K 2 (gCons (gName 5) (gCons (gName 6) gNil))) (tt := tYes) (by rfl) scLdeed.nd (pi_list (pv 4)) (blkOk_by (own := [("_law_way", 5), ("_law_address", 6)]) (N := scLdeedN) (sc := defScope sLdeed) (by decide +kernel)) (fun _ _ _ _ _ => (gtK (K := K) (n := 2) (by rfl) (by rfl) (pgs_cons (pg_name (i := 5) scLdeed.nd rfl (.inl rfl)) (pgs_cons (pg_name (i := 6) scLdeed.nd rfl (.inl rfl)) pgs_nil)) (by rfl) (by rfl))) (fun _ _ _ _ _ => pts_nil) (fun _ _ _ _ _ => (pv 6))) pa_nil))))))
    (pss_cons (ps_expr (pe_call L_pass.G (hr.mono (by decide)) (by rfl) L_pass.g L_pass.kp L_pass.b .nil pass0 (pa_cons (pv 0) (pa_cons (pe_op op_add pe_int (pe_callB call_len_seq (by rfl) z_len PySem.boot_len (pa_cons (pv 4) pa_nil))) pa_nil))))
    (pss_one (ps_ret pe_str))))))))))), ?_⟩
  have p0 := O.pc.1
  refine ⟨_, rfl, d, _, rfl, dg (k := Sum.inr "pc") hd oG_pc, ?_⟩
  refine ⟨_, rfl, _, _, rfl, rfl, _, rfl, ifB (fun h => ?_) (fun h => ?_)⟩
  · have h := of_decide_eq_true h
    have ed : deedM x = (("stopped" : Str), { x with stop := some ("far", [x.pc, x.pc]) }) := by
      unfold deedM stopAt
      rw [if_pos (fun z => by omega)]
    refine ⟨_, rfl, _, rfl, _, rfl, (by show 3 ≤ sizeLine; decide), fun q nq => ?_⟩
    exact ⟨d, oa, oe, x, .ref q, ("far", [x.pc, x.pc]), rfl, L.same (same_upd' nq), ⟨q, rfl, upd_same⟩, fun H2 F2 L2 => ks _ ed H2 ((Fo.of (same_upd' nq)).trans F2) L2⟩
  have p1 : x.pc < 768 := by have := of_decide_eq_false h; omega
  have hw0 := O.w.rd x.pc
  refine ⟨_, rfl, d, _, rfl, dg (k := Sum.inr "m") hd oG_m, _, rfl, oa.m, _, _, _, rfl, rfl, SqL.of L.hm, atI_rd p0 (by rw [L.lm]; omega), _, _, rfl, rfl, ⟨by decide, by decide⟩, _, rfl, d, _, rfl, dg (k := Sum.inr "m") hd oG_m, _, rfl, oa.m, _, _, _, rfl, rfl, SqL.of L.hm, atI_rd p0 (by rw [L.lm]; omega), _, _, rfl, rfl, (by show (0 : Int) < 1024; decide), .int (rd x.mem x.pc / 1024), .int (rd x.mem x.pc % 1024), rfl, ?_⟩
  have eop0 : rd x.mem x.pc / 1024 = ((opM x : Nat) : Int) := by
    unfold opM
    have := Int.ediv_nonneg hw0.1 (show (0 : Int) ≤ 1024 by decide)
    omega
  have x0 : 0 ≤ xM x := Int.emod_nonneg _ (by decide)
  have x1 : xM x < 1024 := Int.emod_lt_of_pos _ (by decide)
  rw [eop0]
  have exm : rd x.mem x.pc % 1024 = xM x := rfl
  rw [exm]
  have etm : toM x = touM (opM x) (xM x) x.b x.sp := rfl
  have edn : doneM x = passM (1 + (toM x).length) (doM (opM x) (xM x) (readsM x.mem (toM x)) { x with pc := x.pc + 1 }) := rfl
  generalize eo : opM x = op at *
  generalize ex : xM x = n at *
  have bad : (op = 0 ∨ 23 ≤ op) → deedM x = (("stopped" : Str), { x with stop := some ((if 23 ≤ op then ("none" : Str) else "mark"), [x.pc]) }) := fun hb => by
    unfold deedM stopAt
    rw [if_neg (fun z => z ⟨p0, p1⟩), eo]
    by_cases c : 23 ≤ op
    · rw [if_pos c, if_pos c]
    · rw [if_neg c, if_pos (by omega), if_neg c]
  refine ⟨_, rfl, rfl, _, rfl, ?_⟩
  rw [dI]
  refine ifB (fun h => ?_) (fun h => ?_)
  · have h := of_decide_eq_true h
    have eb := bad (by omega)
    refine ⟨_, rfl, _, rfl, (by show 2 ≤ sizeLine; decide), fun l1 n1 => ?_⟩
    have r1 := same_upd' (o := .tup [V.str "mark", V.int x.pc]) n1
    have h1' : upd H l1 (.tup [V.str "mark", V.int x.pc]) l1 = some (.tup [V.str "mark", V.int x.pc]) := upd_same
    generalize upd H l1 (.tup [V.str "mark", V.int x.pc]) = G1 at *
    refine ⟨_, rfl, (by show 2 ≤ sizeLine; decide), fun l2 n2 => ?_⟩
    have r2 := r1.trans (same_upd' (o := .tup [V.str "none", V.int x.pc]) n2)
    have h1' := same_upd' (o := .tup [V.str "none", V.int x.pc]) n2 _ _ h1'
    have h2' : upd G1 l2 (.tup [V.str "none", V.int x.pc]) l2 = some (.tup [V.str "none", V.int x.pc]) := upd_same
    generalize upd G1 l2 (.tup [V.str "none", V.int x.pc]) = G2 at *
    refine ⟨(by show 2 ≤ sizeLine; decide), fun l3 n3 => ?_⟩
    have r3 := r2.trans (same_upd' (o := .lst [V.ref l1, V.ref l2]) n3)
    have h1' := same_upd' (o := .lst [V.ref l1, V.ref l2]) n3 _ _ h1'
    have h2' := same_upd' (o := .lst [V.ref l1, V.ref l2]) n3 _ _ h2'
    have h3' : upd G2 l3 (.lst [V.ref l1, V.ref l2]) l3 = some (.lst [V.ref l1, V.ref l2]) := upd_same
    generalize upd G2 l3 (.lst [V.ref l1, V.ref l2]) = G3 at *
    refine ⟨_, rfl, _, _, rfl, rfl, .inr ⟨_, rfl, l3, _, _, _, rfl, rfl, SqL.of h3', kMN _, ?_⟩⟩
    refine ⟨d, oa, oe, x, .ref (if decide ((22 : Int) < (op : Int)) = true then l2 else l1), ((if 23 ≤ op then ("none" : Str) else "mark"), [x.pc]), rfl, L.same r3, ?_, fun H2 F2 L2 => ks _ eb H2 ((Fo.of r3).trans F2) L2⟩
    by_cases c : 23 ≤ op
    · rw [if_pos (decide_eq_true (by omega)), if_pos c]
      exact ⟨l2, rfl, h2'⟩
    · rw [if_neg (fun z => by have := of_decide_eq_true z; omega), if_neg c]
      exact ⟨l1, rfl, h1'⟩
  have hop0 := of_decide_eq_false h
  refine ⟨_, rfl, _, _, rfl, rfl, _, rfl, ifB (fun h => ?_) (fun h => ?_)⟩
  · have h := of_decide_eq_true h
    have eb := bad (by omega)
    refine ⟨_, rfl, _, rfl, (by show 2 ≤ sizeLine; decide), fun l1 n1 => ?_⟩
    have r1 := same_upd' (o := .tup [V.str "mark", V.int x.pc]) n1
    have h1' : upd H l1 (.tup [V.str "mark", V.int x.pc]) l1 = some (.tup [V.str "mark", V.int x.pc]) := upd_same
    generalize upd H l1 (.tup [V.str "mark", V.int x.pc]) = G1 at *
    refine ⟨_, rfl, (by show 2 ≤ sizeLine; decide), fun l2 n2 => ?_⟩
    have r2 := r1.trans (same_upd' (o := .tup [V.str "none", V.int x.pc]) n2)
    have h1' := same_upd' (o := .tup [V.str "none", V.int x.pc]) n2 _ _ h1'
    have h2' : upd G1 l2 (.tup [V.str "none", V.int x.pc]) l2 = some (.tup [V.str "none", V.int x.pc]) := upd_same
    generalize upd G1 l2 (.tup [V.str "none", V.int x.pc]) = G2 at *
    refine ⟨(by show 2 ≤ sizeLine; decide), fun l3 n3 => ?_⟩
    have r3 := r2.trans (same_upd' (o := .lst [V.ref l1, V.ref l2]) n3)
    have h1' := same_upd' (o := .lst [V.ref l1, V.ref l2]) n3 _ _ h1'
    have h2' := same_upd' (o := .lst [V.ref l1, V.ref l2]) n3 _ _ h2'
    have h3' : upd G2 l3 (.lst [V.ref l1, V.ref l2]) l3 = some (.lst [V.ref l1, V.ref l2]) := upd_same
    generalize upd G2 l3 (.lst [V.ref l1, V.ref l2]) = G3 at *
    refine ⟨_, rfl, _, _, rfl, rfl, .inr ⟨_, rfl, l3, _, _, _, rfl, rfl, SqL.of h3', kMN _, ?_⟩⟩
    refine ⟨d, oa, oe, x, .ref (if decide ((22 : Int) < (op : Int)) = true then l2 else l1), ((if 23 ≤ op then ("none" : Str) else "mark"), [x.pc]), rfl, L.same r3, ?_, fun H2 F2 L2 => ks _ eb H2 ((Fo.of r3).trans F2) L2⟩
    by_cases c : 23 ≤ op
    · rw [if_pos (decide_eq_true (by omega)), if_pos c]
      exact ⟨l2, rfl, h2'⟩
    · rw [if_neg (fun z => by have := of_decide_eq_true z; omega), if_neg c]
      exact ⟨l1, rfl, h1'⟩
  have hop1 := of_decide_eq_false h
  have o1 : 1 ≤ op := by omega
  have o2 : op < 23 := by omega
  clear bad
  refine ⟨_, rfl, _, rfl, _, rfl, d, oa, oe, x, op, n, rfl, L, o1, o2, fun G1 l ts s1 nl hl ht => ?_⟩
  rw [← etm] at ht
  refine ⟨_, rfl, l, rfl, ⟨_, SqL.of hl⟩, ?_⟩
  refine for_list (K := K) (a := l) (xs := ts) (fun i σ H' => Same G1 H' ∧ firstBad ((toM x).drop i) = firstBad (toM x) ∧ ∃ y5 y6, σ = [some (.ref d), some (.int x.pc), some (.int (op : Int)), some (.int n), some (.ref l), y5, y6]) ⟨Same.refl _, rfl, none, none, rfl⟩ (fun i σ H' _ h => SqL.of (h.1 _ _ hl)) ?_ ?_
  · rintro i v σ H' hv ⟨sm, hf, y5, y6, rfl⟩
    obtain ⟨q, t, rfl, e1, e2⟩ := TouAt.get ht hv
    have hil : i < (toM x).length := (List.getElem?_eq_some_iff.mp e1).1
    have hdr : (toM x).drop i = t :: (toM x).drop (i + 1) := by
      rw [List.drop_eq_getElem_cons hil]
      have : (toM x)[i] = t := Option.some.inj ((List.getElem?_eq_getElem hil).symm.trans e1)
      rw [this]
    rw [hdr, firstBad_cons] at hf
    refine ⟨q, _, rfl, SqT.of (sm _ _ e2), rfl, _, _, rfl, _, _, rfl, rfl, ?_⟩
    refine ⟨_, rfl, _, rfl, rfl, t.2, t.1, (by rw [kS_w]; rfl), fun G2 v s2 hv2 => ⟨_, rfl, ?_⟩⟩
    cases e : barM t with
    | none =>
      rw [show ((t.1, t.2) : Bool × Int) = t from rfl, e] at hv2
      obtain rfl : v = .non := hv2
      rw [e] at hf
      refine ifN (fun h => absurd rfl (of_decide_eq_false h)) (fun _ => ?_)
      exact ⟨sm.trans s2, hf, _, _, rfl⟩
    | some wy =>
      rw [show ((t.1, t.2) : Bool × Int) = t from rfl, e] at hv2
      obtain rfl : v = .str wy := hv2
      rw [e] at hf
      refine ifN (fun _ => ?_) (fun h => by cases (of_decide_eq_true h))
      have ed : deedM x = (("stopped" : Str), { x with stop := some (wy, [x.pc, t.2]) }) := by
        unfold deedM
        rw [if_neg (fun z => z ⟨p0, p1⟩), eo, if_neg (by omega), if_neg (by omega), ← hf]
        rfl
      refine ⟨_, rfl, _, rfl, _, rfl, rfl, t.2, t.1, (by rw [kS_w]; rfl), fun G3 v3 s3 hv3 => ?_⟩
      rw [show ((t.1, t.2) : Bool × Int) = t from rfl, e] at hv3
      obtain rfl : v3 = .str wy := hv3
      have sall := ((s1.trans sm).trans s2).trans s3
      refine ⟨_, rfl, _, rfl, (by show 3 ≤ sizeLine; decide), fun q2 nq => ?_⟩
      exact ⟨d, oa, oe, x, .ref q2, (wy, [x.pc, t.2]), rfl, (L.same sall).same (same_upd' nq), ⟨q2, rfl, upd_same⟩, fun H2 F2 L2 => ks _ ed H2 ((Fo.of (sall.trans (same_upd' nq))).trans F2) L2⟩
  rintro σ H2 ⟨sm, hf, y5, y6, rfl⟩
  rw [TouAt.len ht, List.drop_length] at hf
  have efb : firstBad (toM x) = none := hf.symm
  have ed : deedM x = (("deed" : Str), doneM x) := by
    unfold deedM
    rw [if_neg (fun z => z ⟨p0, p1⟩), eo, if_neg (by omega), if_neg (by omega), efb]
  have kd := kd ed
  have tok := firstBad_ok efb
  have s2 := s1.trans sm
  have hl := sm _ _ hl
  have ht := ht.mono (fun t xs e => sm _ _ e)
  have L2 := L.same s2
  have nlO : ¬ FtO d oa l := fun z => by
    obtain ⟨o, e, _⟩ := L.solid l z
    rw [nl] at e
    cases e
  clear s1 sm hf ks ed efb
  obtain ⟨sv2, hd2, hz2⟩ := L2.hd
  refine ⟨_, rfl, .inr (.inr (.inl ⟨rfl, .inl ⟨_, hd2⟩⟩)), ?_⟩
  intro u nu
  refine ⟨_, rfl, _, rfl, _, rfl, _, _, rfl, rfl, ?_⟩
  generalize eU : ([((Sum.inr "op" : Key), V.int (op : Int)), (Sum.inr "touched", .ref l), (Sum.inr "pc", .int (x.pc + 1))] : List (Key × V)) = U
  have hU : mergeK [] U = U := by rw [← eU]; kernel_rfl
  refine ⟨upd_same, U, (by rw [← eU]; rfl), (by rw [← eU]; show 3 ≤ 15; decide), ?_⟩
  rw [hU, upd_upd]
  have r3 := same_upd' (o := .dK U) nu
  have hU3 : upd H2 u (.dK U) u = some (.dK U) := upd_same
  have ud : d ≠ u := ne_of_none hd2 nu
  have L3 := L2.same r3
  have hd3 := r3 _ _ hd2
  have hl3 := r3 _ _ hl
  have ht3 := ht.mono (fun t xs e => r3 _ _ e)
  have hz3 := hz2.mono (fun t xs e => r3 _ _ e)
  have s3 := s2.trans r3
  generalize upd H2 u (.dK U) = G3 at *
  refine ⟨d, u, _, _, rfl, rfl, ud, hd3, hU3, (by rw [← eU]; show 20 + 3 ≤ sizeLine; decide), ?_⟩
  have em2 : mergeK (owD oa oe x sv2) U = owD { oa with to := l } { oe with ov := .int (op : Int) } { x with pc := x.pc + 1 } sv2 := by rw [← eU]; kernel_rfl
  rw [em2]
  have L4 : Ow _ d _ _ { x with pc := x.pc + 1 } := L3.tou (y := { x with pc := x.pc + 1 }) (ov := .int (op : Int)) hz3 rfl rfl hl3 ht3 nlO
  have F4 : Fr (FtO d oa) H (FtO d { oa with to := l }) (upd G3 d (.dK (owD { oa with to := l } { oe with ov := .int (op : Int) } { x with pc := x.pc + 1 } sv2))) := Fr.tou (fun b q n e => by rw [upd_ne n]; exact s3 _ _ e) nl
  have hl4 := (upd_ne (H := G3) (o := .dK (owD { oa with to := l } { oe with ov := .int (op : Int) } { x with pc := x.pc + 1 } sv2)) (ne_of hl3 hd3 (by intro z; cases z))).trans hl3
  have ht4 : TouAt (upd G3 d (.dK (owD { oa with to := l } { oe with ov := .int (op : Int) } { x with pc := x.pc + 1 } sv2))) ts (toM x) := ht3.mono (fun t xs e => by rw [upd_ne (ne_of e hd3 (by intro z; cases z))]; exact e)
  clear L3 hd3 hl3 ht3 hz3 hU3 L2 hd2 hz2 hl ht s2 r3
  generalize upd G3 d (.dK (owD { oa with to := l } { oe with ov := .int (op : Int) } { x with pc := x.pc + 1 } sv2)) = G4 at *
  have O4 : Ok { x with pc := x.pc + 1 } := ⟨O.lm, O.w, O.a, O.b, ⟨by show 0 ≤ x.pc + 1; omega, by show x.pc + 1 ≤ 65535; omega⟩, O.ln⟩
  refine ⟨_, rfl, _, rfl, _, rfl, _, rfl, l, rfl, ⟨_, SqL.of hl4⟩, fun D nD => ?_⟩
  refine lc_list (K := K) (a := l) (xs := ts) (fun i H' => Same G4 H' ∧ H' D = some (.lst (((toM x).take i).map fun t => V.int t.2))) ⟨same_upd' nD, upd_same⟩ (fun i H' _ h => SqL.of (h.1 _ _ hl4)) ?_ ?_
  · rintro j v H' hv ⟨sm, hD⟩
    obtain ⟨q, t, rfl, e1, e2⟩ := TouAt.get ht4 hv
    refine ⟨q, _, rfl, SqT.of (sm _ _ e2), rfl, _, _, rfl, _, _, rfl, rfl, ?_⟩
    refine ⟨rfl, _, rfl, ?_⟩
    refine ⟨_, hD, ?_, same_of sm nD, ?_⟩
    · rw [List.length_map]
      refine small1000 ?_
      rw [List.length_take]
      have h3 : (toM x).length ≤ 2 := touM_len _ _ _ _
      omega
    · rw [upd_same, List.take_add_one, e1, List.map_append]
      rfl
  rintro H5 ⟨sm5, hD⟩
  rw [TouAt.len ht4, List.take_length, etm] at hD
  have L5 := L4.same sm5
  have F5 := F4.trans (Fr.of_same sm5)
  have hl5 := sm5 _ _ hl4
  have nDm : D ≠ oa.m := (ne_of_none L4.hm nD).symm
  refine ⟨d, D, { oa with to := l }, { oe with ov := .int (op : Int), tu := toM x }, { x with pc := x.pc + 1 }, op, n, rfl, L5, O4, hD, o1, o2, x0, x1, (fun t h => barM_ok (tok t (by rw [etm]; exact h))), nDm, fun H6 F6 L6 => ?_⟩
  have hl6 := F6 _ _ (by
    obtain ⟨_, hd5, _⟩ := L5.hd
    exact ne_of hl5 hd5 (by intro z; cases z)) (fun z => nlO (List.mem_of_getElem? (i := 1) (by rw [z]; rfl))) hl5
  have e6 : (1 : Int) + (ts.length : Int) = ((1 + (toM x).length : Nat) : Int) := by rw [TouAt.len ht4]; omega
  refine ⟨_, rfl, _, rfl, l, ts, rfl, .inl (SqL.of hl6), _, _, rfl, rfl, d, { oa with to := l }, { oe with ov := .int (op : Int), tu := toM x }, _, 1 + (toM x).length, (by rw [← e6]; rfl), L6, O4.doM x0 x1 (reads16 O.w _) o2, ?_, fun H7 F7 L7 => ?_⟩
  · have hlen : (toM x).length ≤ 2 := touM_len _ _ _ _
    omega
  rw [edn] at kd
  refine kd H7 l ((F5.trans F6.fr).trans F7.fr) ?_
  have L7 : Ow H7 d { oa with to := l } { oe with ov := .int (op : Int), tu := toM x } (passM (1 + (toM x).length) (doM op n (readsM x.mem (touM op n x.b x.sp)) { x with pc := x.pc + 1 })) := L7
  rw [← etm] at L7
  exact L7
end
end Bh

/-! The law's own board: turns. -/
namespace Bh
open PySem PySem.Spec PyProof.Rows L2
section
variable {H : Hp} {d : Addr} {oa : Oa} {oe : Oe} {x : Bd}
/-- what is told alone changed -/
theorem Ow.ext (L : Ow H d oa oe x) {oe' : Oe} {y : Bd} {sv : V} (hz : StopAt H sv y.stop) (em : y.mem = x.mem) (el : y.line = x.line) (e1 : oe'.tu = oe.tu) (e2 : oe'.rows = oe.rows) (e3 : oe'.ring = oe.ring) (e4 : oe'.spent = oe.spent) (e5 : oe'.deeds = oe.deeds) :
    Ow (upd H d (.dK (owD oa oe' y sv))) d oa oe' y := by
  obtain ⟨t, ko, _⟩ := L.kOwn (l := [0]) (H1 := upd H d (.dK (owD oa oe' y sv))) (fun b o n q => by rw [upd_ne (fun z => n 0 (by decide) (by rw [z]; rfl))]; exact q)
  obtain ⟨ts, ht, ht2⟩ := L.ht
  obtain ⟨us, hf, hf2⟩ := L.hf
  obtain ⟨hs, hr, hr2⟩ := L.hr
  obtain ⟨kd, hh, hh2⟩ := L.hh
  exact {
    hd := ⟨sv, upd_same, hz.mono t⟩
    hm := by rw [em]; exact ko 1 _ _ (by decide) rfl L.hm
    hl := by rw [el]; exact ko 2 _ _ (by decide) rfl L.hl
    ht := ⟨ts, ko 3 _ _ (by decide) rfl ht, by rw [e1]; exact ht2.mono t⟩
    hf := ⟨us, ko 4 _ _ (by decide) rfl hf, by rw [e2]; exact hf2.mono t⟩
    hr := ⟨hs, ko 5 _ _ (by decide) rfl hr, by rw [e3]; exact hr2.mono t⟩
    hi := by rw [e4]; exact ko 6 _ _ (by decide) rfl L.hi
    hh := ⟨kd, ko 7 _ _ (by decide) rfl hh, by rw [e5]; exact hh2.mono t⟩
    lm := by rw [em]; exact L.lm
    nd := L.nd }
end
theorem Fr.tou_same {H H' : Hp} {F F' : Addr → Prop} (f : Fr F H F' H') {H'' : Hp} (s : Same H' H'') : Fr F H F' H'' := f.trans (Fr.of_same s)
def spOTurn : Sp := fun vs H Q _ => ∃ (d : Addr) (oa : Oa) (oe : Oe) (x : Bd), vs = [.ref d] ∧ Ow H d oa oe x ∧ Ok x ∧ ∀ H' oa', Fr (FtO d oa) H (FtO d oa') H' → Ow H' d oa' { oe with ov := opV x, tu := touT x } (turnM x).2 → Q (.str (turnM x).1) H'
theorem called_pc {x : Bd} (O : Ok x) : (2 : Int) - calledM x % 2 = if Builtin.bitAnd (calledM x) 1 ≠ 0 then 1 else 2 := by
  have h : W16 (calledM x) := and16 (O.w.rd 770) (O.w.rd 771)
  rw [and1_mod h]
  have h0 := Int.emod_nonneg (calledM x) (show (2 : Int) ≠ 0 by decide)
  have h1 := Int.emod_lt_of_pos (calledM x) (show (0 : Int) < 2 by decide)
  split <;> omega
section
variable {P : Program} {w : World} {K : PySem.W.Frag} {mg : Str → Option Value} {base : Heap} {CB CM : Addr}
abbrev sLturn : Stmt := topS 110
def scLturnN : List Str := ["_law_s", "_law_due", "_law_address"]
theorem scLturn : FnScope scLturnN ["_law_s"] (defScope sLturn) := ⟨rfl, rfl, rfl, by decide +kernel, rfl, by decide +kernel, by decide +kernel⟩
theorem ok_Lturn {f : Addr} {fd : FuncData} {fL_bar : Addr} {dL_bar : FuncData} {fL_deed : Addr} {dL_deed : FuncData} {fL_halt : Addr} {dL_halt : FuncData} {fL_lay : Addr} {dL_lay : FuncData} {fL_pass : Addr} {dL_pass : FuncData} (F : Fun K "_law_turn" "_law_turn" sLturn f fd) (T : Tx K mg CB CM)
    (L_bar : CalF P w K mg base 1 "_law_bar" ["_law_address", "_law_puts"] (spOBar) fL_bar dL_bar)
    (L_deed : CalF P w K mg base 3 "_law_deed" ["_law_s"] (spODeed) fL_deed dL_deed)
    (L_halt : CalF P w K mg base 1 "_law_halt" ["_law_s", "_law_cause"] (spOHalt) fL_halt dL_halt)
    (L_lay : CalF P w K mg base 1 "_law_lay" ["_law_s", "_law_address", "_law_word"] (spOLay) fL_lay dL_lay)
    (L_pass : CalF P w K mg base 1 "_law_pass" ["_law_s", "_law_many"] (spOPass) fL_pass dL_pass) : FnOk P w K mg base CX0 4 f fd ["_law_s"] (spOTurn) := by
  refine F.ok scLturn (fun vs H Q E h => by obtain ⟨_, _, _, _, rfl, _⟩ := h; rfl) (fun cdv A outer s H vs Q E hr h => ?_)
  have hu := hu_of hr
  have z_int := T.z_int
  obtain ⟨d, oa, oe, x, rfl, L, O, k⟩ := h
  obtain ⟨sv, hd, hz⟩ := L.hd
  refine ⟨_, (pss_cons (ps_dput hu (pv 0) pe_str pe_non rfl)
    (pss_cons (ps_dput hu (pv 0) pe_str (pe_lst pa_nil) rfl)
    (pss_cons (ps_if (pt_cmp (pc_notN (pe_dget hu (pv 0) pe_str (fun _ _ => rfl)))) (pss_one (ps_ret pe_str)) pss_nil)
    (pss_cons (ps_set (i := 1) scLturn.nd rfl (.inl rfl) (pe_op op_and (pe_ix ix_list (pe_dget hu (pv 0) pe_str (fun _ _ => rfl)) pe_int (fun _ _ => rfl)) (pe_ix ix_list (pe_dget hu (pv 0) pe_str (fun _ _ => rfl)) pe_int (fun _ _ => rfl))))
    (pss_cons (ps_if (PW.pt (pw_and (pt_val (pe_dget hu (pv 0) pe_str (fun _ _ => rfl))) (pw_and1 (pt_cmpR op_eq (pv 1) pe_int (nomark _))))) (pss_cons (ps_expr (pe_call L_pass.G (hr.mono (by decide)) (by rfl) L_pass.g L_pass.kp L_pass.b .nil pass0 (pa_cons (pv 0) (pa_cons pe_int pa_nil))))
    (pss_one (ps_ret pe_str))) pss_nil)
    (pss_cons (ps_dput hu (pv 0) pe_str pe_bl rfl)
    (pss_cons (ps_if (PW.pt (pw_or (pt_not (pt_val (pe_dget hu (pv 0) pe_str (fun _ _ => rfl)))) (pw_or1 (pt_cmpR op_eq (pv 1) pe_int (nomark _))))) (pss_one (ps_ret (pe_call L_deed.G (hr.mono (by decide)) (by rfl) L_deed.g L_deed.kp L_deed.b .nil pass0 (pa_cons (pv 0) pa_nil)))) pss_nil)
    (pss_cons (ps_for PassesOwn.never rfl (pi_list (pe_lst (pa_cons (pe_dget hu (pv 0) pe_str (fun _ _ => rfl)) (pa_cons (pe_op op_sub (pe_dget hu (pv 0) pe_str (fun _ _ => rfl)) pe_int) pa_nil)))) (pg_name (i := 2) scLturn.nd rfl (.inl rfl))
      (pss_one (ps_if (pt_cmp (pc_notN (pe_call L_bar.G (hr.mono (by decide)) (by rfl) L_bar.g L_bar.kp L_bar.b .nil pass0 (pa_cons (pv 2) (pa_cons pe_bl pa_nil))))) (pss_one (ps_ret (pe_call L_halt.G (hr.mono (by decide)) (by rfl) L_halt.g L_halt.kp L_halt.b .nil pass0 (pa_cons (pv 0) (pa_cons (pe_tup (pa_cons (pe_call L_bar.G (hr.mono (by decide)) (by rfl) L_bar.g L_bar.kp L_bar.b .nil pass0 (pa_cons (pv 2) (pa_cons pe_bl pa_nil))) (pa_cons (pe_dget hu (pv 0) pe_str (fun _ _ => rfl)) (pa_cons (pv 2) pa_nil)))) pa_nil))))) pss_nil)))
    (pss_cons (ps_dput hu (pv 0) pe_str (pe_lst (pa_cons (pe_tup (pa_cons pe_str (pa_cons (pe_dget hu (pv 0) pe_str (fun _ _ => rfl)) pa_nil))) (pa_cons (pe_tup (pa_cons pe_str (pa_cons (pe_op op_sub (pe_dget hu (pv 0) pe_str (fun _ _ => rfl)) pe_int) pa_nil))) pa_nil))) rfl)
    (pss_cons (ps_expr (pe_call L_lay.G (hr.mono (by decide)) (by rfl) L_lay.g L_lay.kp L_lay.b .nil pass0 (pa_cons (pv 0) (pa_cons (pe_dget hu (pv 0) pe_str (fun _ _ => rfl)) (pa_cons (pe_dget hu (pv 0) pe_str (fun _ _ => rfl)) pa_nil)))))
    (pss_cons (ps_expr (pe_call L_lay.G (hr.mono (by decide)) (by rfl) L_lay.g L_lay.kp L_lay.b .nil pass0 (pa_cons (pv 0) (pa_cons (pe_op op_sub (pe_dget hu (pv 0) pe_str (fun _ _ => rfl)) pe_int) (pa_cons (pe_callTy call_int1 (by rfl) z_int (by decide +kernel) (pa_cons (pe_dget hu (pv 0) pe_str (fun _ _ => rfl)) pa_nil)) pa_nil)))))
    (pss_cons (ps_expr (pe_bm PySem.F.plainAttrs_dict PySem.F.slot_dict_update PySem.F.type_dict_update mtd_update (pv 0) (pa_cons (pe_disp (pps_cons pe_str (pe_op op_sub (pe_dget hu (pv 0) pe_str (fun _ _ => rfl)) pe_int) (pps_cons pe_str pe_bl (pps_cons pe_str (pe_op op_sub pe_int (pe_op op_mod (pv 1) pe_int)) pps_nil))) rfl rfl (by intro h; cases h) (by decide)) pa_nil)))
    (pss_cons (ps_expr (pe_call L_pass.G (hr.mono (by decide)) (by rfl) L_pass.g L_pass.kp L_pass.b .nil pass0 (pa_cons (pv 0) (pa_cons pe_int pa_nil))))
    (pss_one (ps_ret pe_str))))))))))))))), ?_⟩
  refine ⟨_, rfl, d, _, rfl, dpO (k := Sum.inr "op") hd oP_op, ?_⟩
  have L1 : Ow _ d oa { oe with ov := .non } x := L.ext (oe' := { oe with ov := .non }) hz rfl rfl rfl rfl rfl rfl rfl
  have f1 : Fo d oa.m H (upd H d (.dK (owD oa { oe with ov := .non } x sv))) := Fo.ud
  have sol : ∀ b, H b = none → ¬ FtO d oa b := fun b h z => by
    obtain ⟨o, e, _⟩ := L.solid b z
    rw [h] at e; cases e
  have none1 : ∀ b, upd H d (.dK (owD oa { oe with ov := .non } x sv)) b = none → H b = none := fun b h => by
    by_cases z : b = d
    · rw [z, upd_same] at h; cases h
    · rwa [upd_ne z] at h
  generalize upd H d (.dK (owD oa { oe with ov := .non } x sv)) = H1 at *
  refine ⟨Nat.zero_le _, fun l nl => ?_⟩
  have r2 := same_upd' (o := .lst []) nl
  have hl : upd H1 l (.lst []) l = some (.lst []) := upd_same
  have L2 := L1.same r2
  have f2 := f1.trans (Fo.of r2)
  generalize upd H1 l (.lst []) = H2 at *
  clear L1 hd hz
  obtain ⟨sv2, hd2, hz2⟩ := L2.hd
  refine ⟨_, rfl, d, _, rfl, dpO (k := Sum.inr "touched") hd2 oP_touched, ?_⟩
  have L3 : Ow _ d { oa with to := l } { oe with ov := .non, tu := [] } x := L2.tou (y := x) (ov := .non) (tu := []) hz2 rfl rfl hl .nil (sol l (none1 l nl))
  have f3 : Fr (FtO d oa) H (FtO d { oa with to := l }) (upd H2 d (.dK (owD { oa with to := l } { oe with ov := .non } x sv2))) := ⟨fun b q n e => by
      rw [upd_ne (fun z => n (by rw [z]; exact List.mem_cons_self ..))]
      exact f2 b q (fun z => n (by rw [z]; exact List.mem_cons_self ..)) (fun z => n (List.mem_of_getElem? (i := 1) (by rw [z]; rfl))) e, (Fr.tou (oa := oa) (H' := H) (fun _ _ _ e => e) (none1 l nl)).new⟩
  clear L2 f2 f1 hd2 hl sol r2
  generalize upd H2 d (.dK (owD { oa with to := l } { oe with ov := .non } x sv2)) = H3 at *
  generalize { oa with to := l } = oa1 at *
  clear none1 L nl hz2
  have L := L3
  clear L3
  obtain ⟨sv, hd, hz⟩ := L.hd
  refine ⟨_, rfl, d, _, rfl, dg (k := Sum.inr "stop") hd oG_stop, _, rfl, ?_⟩
  unfold touT opV at k
  cases es : x.stop with
  | some s =>
    rw [es] at hz
    obtain ⟨q9, rfl, _⟩ := hz
    have et : turnM x = (("stopped" : Str), x) := by
      unfold turnM
      rw [if_pos (by rw [es]; intro z; cases z)]
    rw [et] at k
    dsimp only at k
    rw [if_neg (show ¬ ("stopped" : Str) = "deed" by decide +kernel), if_neg (show ¬ ("stopped" : Str) = "deed" by decide +kernel), if_neg (show ¬ ("stopped" : Str) = "interrupt" by decide +kernel)] at k
    refine ifN (fun _ => ?_) (fun h => by cases of_decide_eq_true h)
    exact k H3 oa1 f3 L
  | none =>
  rw [es] at hz
  obtain rfl : sv = .non := hz
  refine ifN (fun h => absurd rfl (of_decide_eq_false h)) (fun _ => ?_)
  have ns : ¬ x.stop ≠ none := fun z => z es
  refine ⟨_, rfl, d, _, rfl, dg (k := Sum.inr "m") hd oG_m, oa1.m, _, _, _, rfl, rfl, SqL.of L.hm, atI_rd (by decide) (by rw [L.lm]; decide), _, rfl, d, _, rfl, dg (k := Sum.inr "m") hd oG_m, oa1.m, _, _, _, rfl, rfl, SqL.of L.hm, atI_rd (by decide) (by rw [L.lm]; decide), _, _, rfl, rfl, ?_⟩
  have deed : ∀ (Y : Bd), turnM x = deedM Y → opM Y = opM x → toM Y = toM x → ∀ H4, Fr (FtO d oa1) H3 (FtO d oa1) H4 → Ow H4 d oa1 { oe with ov := .non, tu := [] } Y → Ok Y → spODeed [.ref d] H4 Q E := fun Y eY e1 e2 H4 F4 L4 O4 => by
    rw [eY] at k
    refine ⟨d, oa1, _, Y, rfl, L4, O4, fun s ed H5 F5 L5 => ?_, fun ed H5 l5 F5 L5 => ?_⟩
    · rw [ed] at k
      dsimp only at k
      rw [if_neg (show ¬ ("stopped" : Str) = "deed" by decide +kernel), if_neg (show ¬ ("stopped" : Str) = "deed" by decide +kernel), if_neg (show ¬ ("stopped" : Str) = "interrupt" by decide +kernel)] at k
      exact k H5 oa1 ((f3.trans F4).trans F5.fr) L5
    · rw [ed] at k
      dsimp only at k
      rw [if_pos rfl, if_pos rfl] at k
      rw [e1, e2] at L5
      exact k H5 _ ((f3.trans F4).trans F5) L5
  refine ⟨_, rfl, d, _, rfl, dg (k := Sum.inr "asleep") hd oG_asleep, _, rfl, ?_⟩
  cases ea : x.asleep with
  | false =>
    refine ifB (fun h => by cases h) (fun _ => ?_)
    refine ⟨_, rfl, d, _, rfl, dpO (k := Sum.inr "asleep") hd oP_asleep, ?_⟩
    have L4 : Ow _ d oa1 { oe with ov := .non, tu := [] } { x with asleep := false } := L.dict (y := { x with asleep := false }) (sv := .non) (by rw [show ({ x with asleep := false } : Bd).stop = x.stop from rfl, es]; rfl) rfl rfl
    have F4 : Fr (FtO d oa1) H3 (FtO d oa1) (upd H3 d (.dK (owD oa1 { oe with ov := .non, tu := [] } { x with asleep := false } .non))) := (Fo.ud (m := oa1.m)).fr
    have O4 : Ok { x with asleep := false } := ⟨O.lm, O.w, O.a, O.b, O.pc, O.ln⟩
    have eo : owD oa1 { oe with ov := .non } { x with asleep := false } .non = owD oa1 { oe with ov := .non, tu := [] } { x with asleep := false } .non := rfl
    clear eo
    generalize upd H3 d _ = H4 at *
    obtain ⟨sv4, hd4, hz4⟩ := L4.hd
    refine ⟨_, rfl, d, _, rfl, dg (k := Sum.inr "lets") hd4 oG_lets, _, rfl, ?_⟩
    cases el : x.lets with
    | false =>
      have et : turnM x = deedM { x with asleep := false } := by
        unfold turnM
        rw [if_neg ns, if_neg (fun z => by rw [ea] at z; cases z.1), if_neg (fun z => by rw [el] at z; cases z.1)]
      refine ifN (fun _ => ?_) (fun h => by cases h)
      refine ⟨_, rfl, ?_⟩
      exact deed _ et rfl rfl H4 F4 L4 O4
    | true =>
      refine ifN (fun h => by cases h) (fun _ => ?_)
      by_cases hc2 : calledM x = 0
      · have et : turnM x = deedM { x with asleep := false } := by
          unfold turnM
          rw [if_neg ns, if_neg (fun z => by rw [ea] at z; cases z.1), if_neg (fun z => z.2 hc2)]
        refine ⟨_, rfl, rfl, _, rfl, ifB (fun _ => ?_) (fun h => absurd (congrArg V.int hc2) (of_decide_eq_false h))⟩
        refine ⟨_, rfl, ?_⟩
        exact deed _ et rfl rfl H4 F4 L4 O4
      have et : turnM x = intM { x with asleep := false } := by
        unfold turnM
        rw [if_neg ns, if_neg (fun z => by rw [ea] at z; cases z.1), if_pos ⟨el, hc2⟩]
      refine ⟨_, rfl, rfl, _, rfl, ifB (fun h => absurd (V.int.inj (of_decide_eq_true h)) hc2) (fun _ => ?_)⟩
      have ey := et
      have Ly := L4
      have Fy := F4
      have Oy := O4
      have ecl : calledM ({ x with asleep := false } : Bd) = calledM x := rfl
      have tsp : ∀ (b : Bd), b = { x with asleep := false } → True := fun _ _ => trivial
      obtain ⟨y, hy⟩ : ∃ y : Bd, y = { x with asleep := false } := ⟨_, rfl⟩
      have eti : (if (turnM x).1 = "interrupt" then [(true, x.sp), (true, x.sp - 1)] else []) = if (turnM x).1 = "interrupt" then [(true, y.sp), (true, y.sp - 1)] else [] := by rw [hy]
      rw [eti] at k
      rw [← hy] at ey Ly Oy ecl
      clear eti tsp hd4 hz4 L4 F4 O4 hd
      obtain ⟨tl, etl⟩ : ∃ tl : List (Bool × Int), tl = [(true, y.sp), (true, y.sp - 1)] := ⟨_, rfl⟩
      obtain ⟨svy, hdy, hzy⟩ := Ly.hd
      refine ⟨_, rfl, d, _, rfl, dg (k := Sum.inr "sp") hdy oG_sp, _, rfl, d, _, rfl, dg (k := Sum.inr "sp") hdy oG_sp, _, _, rfl, rfl, (by show 2 ≤ sizeLine; decide), fun l5 n5 => ?_⟩
      have r5 := same_upd' (o := .lst [V.int y.sp, V.int (y.sp - 1)]) n5
      have h5 : upd H4 l5 (.lst [V.int y.sp, V.int (y.sp - 1)]) l5 = some (.lst (tl.map fun t => V.int t.2)) := by rw [etl]; exact upd_same
      have L5 := Ly.same r5
      have F5 := Fy.trans (Fr.of_same r5)
      generalize upd H4 l5 (.lst [V.int y.sp, V.int (y.sp - 1)]) = H5 at *
      have tr : ∀ t ∈ tl, t.1 = true := fun t ht => by
        rw [etl] at ht
        simp only [List.mem_cons, List.not_mem_nil, or_false] at ht
        rcases ht with h | h <;> rw [h]
      refine ⟨l5, rfl, ⟨_, SqL.of h5⟩, ?_⟩
      refine for_list (K := K) (a := l5) (xs := tl.map fun t => V.int t.2) (fun i σ H' => Same H5 H' ∧ firstBad (tl.drop i) = firstBad tl ∧ ∃ y2, σ = [some (.ref d), some (.int (calledM x)), y2]) ⟨Same.refl _, rfl, none, rfl⟩ (fun i σ H' _ h => SqL.of (h.1 _ _ h5)) ?_ ?_
      · rintro i v σ H' hv ⟨sm, hf, y2, rfl⟩
        rw [List.getElem?_map] at hv
        obtain ⟨t, e1, rfl⟩ : ∃ t, tl[i]? = some t ∧ v = .int t.2 := by
          cases e : tl[i]? with
          | none => rw [e] at hv; cases hv
          | some t => rw [e] at hv; exact ⟨t, rfl, (Option.some.inj hv).symm⟩
        have hil : i < tl.length := (List.getElem?_eq_some_iff.mp e1).1
        have hdr : tl.drop i = t :: tl.drop (i + 1) := by
          rw [List.drop_eq_getElem_cons hil]
          have : tl[i] = t := Option.some.inj ((List.getElem?_eq_getElem hil).symm.trans e1)
          rw [this]
        rw [hdr, firstBad_cons] at hf
        have ett : ((true, t.2) : Bool × Int) = t := by rw [← tr t (List.mem_of_getElem? e1)]
        refine ⟨_, rfl, t.2, true, rfl, fun G2 v s2 hv2 => ⟨_, rfl, ?_⟩⟩
        rw [ett] at hv2
        cases e : barM t with
        | none =>
          rw [e] at hv2 hf
          obtain rfl : v = .non := hv2
          refine ifN (fun h => absurd rfl (of_decide_eq_false h)) (fun _ => ?_)
          exact ⟨sm.trans s2, hf, _, rfl⟩
        | some wy =>
          rw [e] at hv2 hf
          obtain rfl : v = .str wy := hv2
          refine ifN (fun _ => ?_) (fun h => by cases (of_decide_eq_true h))
          have ed : intM y = (("stopped" : Str), { y with stop := some (wy, [y.pc, t.2]) }) := by
            unfold intM
            rw [← etl, ← hf]
            rfl
          rw [ey, ed] at k
          dsimp only at k
          rw [if_neg (show ¬ ("stopped" : Str) = "deed" by decide +kernel), if_neg (show ¬ ("stopped" : Str) = "deed" by decide +kernel), if_neg (show ¬ ("stopped" : Str) = "interrupt" by decide +kernel)] at k
          refine ⟨_, rfl, _, rfl, t.2, true, rfl, fun G3 v3 s3 hv3 => ?_⟩
          rw [ett, e] at hv3
          obtain rfl : v3 = .str wy := hv3
          have sall := (sm.trans s2).trans s3
          have L6 := L5.same sall
          obtain ⟨sv6, hd6, hz6⟩ := L6.hd
          refine ⟨_, rfl, d, _, rfl, dg (k := Sum.inr "pc") hd6 oG_pc, _, rfl, (by show 3 ≤ sizeLine; decide), fun q2 nq => ?_⟩
          exact ⟨d, oa1, _, y, .ref q2, (wy, [y.pc, t.2]), rfl, L6.same (same_upd' nq), ⟨q2, rfl, upd_same⟩, fun H2 F2 L2 => k H2 oa1 ((f3.trans (F5.trans (Fr.of_same (sall.trans (same_upd' nq))))).trans F2.fr) L2⟩
      rintro σ H6 ⟨sm, hf, y2, rfl⟩
      rw [List.length_map, List.drop_length] at hf
      have efb : firstBad tl = none := hf.symm
      have ed : intM y = (("interrupt" : Str), begunM y) := by
        unfold intM
        rw [← etl, efb]
      rw [ey, ed] at k
      dsimp only at k
      rw [if_neg (show ¬ ("interrupt" : Str) = "deed" by decide +kernel), if_neg (show ¬ ("interrupt" : Str) = "deed" by decide +kernel), if_pos rfl] at k
      have tok := firstBad_ok efb
      obtain ⟨i0, i1⟩ := barM_ok (tok (true, y.sp) (by rw [etl]; exact List.mem_cons_self ..))
      obtain ⟨j0, j1⟩ := barM_ok (tok (true, y.sp - 1) (by rw [etl]; exact List.mem_cons_of_mem _ (List.mem_cons_self ..)))
      have i0 : 0 ≤ y.sp := i0
      have i1 : y.sp < 774 := i1
      have j0 : 0 ≤ y.sp - 1 := j0
      have j1 : y.sp - 1 < 774 := j1
      have L6 := L5.same sm
      have F6 := F5.trans (Fr.of_same sm)
      clear L5 F5 h5 sm hf tok hdy hzy
      obtain ⟨sv6, hd6, hz6⟩ := L6.hd
      refine ⟨_, rfl, d, _, rfl, dg (k := Sum.inr "sp") hd6 oG_sp, (by show 2 ≤ sizeLine; decide), fun t1 nt1 => ?_⟩
      have r7 := same_upd' (o := .tup [V.str "w", V.int y.sp]) nt1
      have h7 : upd H6 t1 (.tup [V.str "w", V.int y.sp]) t1 = some (.tup [V.str "w", V.int y.sp]) := upd_same
      have hd7 := r7 _ _ hd6
      have s7 := r7
      generalize upd H6 t1 (.tup [V.str "w", V.int y.sp]) = H7 at *
      refine ⟨_, rfl, d, _, rfl, dg (k := Sum.inr "sp") hd7 oG_sp, _, _, rfl, rfl, (by show 2 ≤ sizeLine; decide), fun t2 nt2 => ?_⟩
      have r8 := same_upd' (o := .tup [V.str "w", V.int (y.sp - 1)]) nt2
      have h8 : upd H7 t2 (.tup [V.str "w", V.int (y.sp - 1)]) t2 = some (.tup [V.str "w", V.int (y.sp - 1)]) := upd_same
      have h7 := r8 _ _ h7
      have s8 := s7.trans r8
      generalize upd H7 t2 (.tup [V.str "w", V.int (y.sp - 1)]) = H8 at *
      refine ⟨(by show 2 ≤ sizeLine; decide), fun l9 n9 => ?_⟩
      have r9 := same_upd' (o := .lst [V.ref t1, V.ref t2]) n9
      have h9 : upd H8 l9 (.lst [V.ref t1, V.ref t2]) l9 = some (.lst [V.ref t1, V.ref t2]) := upd_same
      have h7 := r9 _ _ h7
      have h8 := r9 _ _ h8
      have n9' := s8.free n9
      have s9 := s8.trans r9
      have L9 := L6.same s9
      have nlO : ¬ FtO d oa1 l9 := fun z => by
        obtain ⟨o, e, _⟩ := L6.solid l9 z
        rw [n9'] at e
        cases e
      generalize upd H8 l9 (.lst [V.ref t1, V.ref t2]) = H9 at *
      obtain ⟨sv9, hd9, hz9⟩ := L9.hd
      refine ⟨_, rfl, d, _, rfl, dpO (k := Sum.inr "touched") hd9 oP_touched, ?_⟩
      have L10 : Ow _ d { oa1 with to := l9 } { oe with ov := .non, tu := tl } y := L9.tou (y := y) (ov := .non) (tu := tl) hz9 rfl rfl h9 (by rw [etl]; exact .cons ⟨t1, rfl, h7⟩ (.cons ⟨t2, rfl, h8⟩ .nil)) nlO
      have F10 : Fr (FtO d oa1) H3 (FtO d { oa1 with to := l9 }) (upd H9 d (.dK (owD { oa1 with to := l9 } { oe with ov := .non, tu := [] } y sv9))) := F6.trans (Fr.tou (fun b q n e => by rw [upd_ne n]; exact s9 _ _ e) n9')
      have F10 := f3.trans F10
      have em10 : ({ oa1 with to := l9 } : Oa).m = oa1.m := rfl
      clear L9 hd9 hz9 h7 h8 h9 s9 s8 s7 r7 r8 r9 L6 hd6 hz6 F6 hd7 nlO
      generalize upd H9 d (.dK (owD { oa1 with to := l9 } { oe with ov := .non, tu := [] } y sv9)) = H10 at *
      generalize { oa1 with to := l9 } = oa2 at *
      obtain ⟨sv10, hd10, hz10⟩ := L10.hd
      refine ⟨_, rfl, _, rfl, d, _, rfl, dg (k := Sum.inr "sp") hd10 oG_sp, _, rfl, d, _, rfl, dg (k := Sum.inr "pc") hd10 oG_pc, d, oa2, _, y, y.sp, y.pc, rfl, L10, Oy, i0, i1, Oy.pc, fun H11 F11 L11 => ?_⟩
      have O11 := Oy.putM (a := y.sp) Oy.pc
      obtain ⟨q1, q2, q3, q4, q5, q6, q7⟩ := putWM_regs y.sp y.pc y
      obtain ⟨sv11, hd11, hz11⟩ := L11.hd
      refine ⟨_, rfl, _, rfl, d, _, rfl, dg (k := Sum.inr "sp") hd11 oG_sp, _, _, rfl, rfl, _, rfl, d, _, rfl, dg (k := Sum.inr "zero") hd11 oG_zero, .inr ⟨_, rfl, ?_⟩⟩
      rw [q4, q5]
      refine ⟨d, oa2, _, putWM y.sp y.pc y, y.sp - 1, b2n y.zero, rfl, L11, O11, j0, j1, (by unfold b2n; split <;> exact ⟨by decide, by decide⟩), fun H12 F12 L12 => ?_⟩
      obtain ⟨p1, p2, p3, p4, p5, p6, p7⟩ := putWM_regs (y.sp - 1) (b2n y.zero) (putWM y.sp y.pc y)
      have O12 := O11.putM (a := y.sp - 1) (v := b2n y.zero) (by unfold b2n; split <;> exact ⟨by decide, by decide⟩)
      have ebg : begunM y = passM 3 { putWM (y.sp - 1) (b2n y.zero) (putWM y.sp y.pc y) with sp := y.sp - 2, lets := false, pc := if Builtin.bitAnd (calledM y) 1 ≠ 0 then 1 else 2 } := rfl
      rw [ebg] at k
      rw [q4] at p4
      generalize putWM (y.sp - 1) (b2n y.zero) (putWM y.sp y.pc y) = z at *
      obtain ⟨sv12, hd12, hz12⟩ := L12.hd
      refine ⟨_, rfl, .inr (.inr (.inl ⟨rfl, .inl ⟨_, hd12⟩⟩)), ?_⟩
      intro u nu
      have hdu := same_upd' (o := .dK []) nu _ _ hd12
      refine ⟨_, rfl, d, _, rfl, dg (k := Sum.inr "sp") hdu oG_sp, _, _, rfl, rfl, _, rfl, _, _, rfl, rfl, (by show (0 : Int) < 2; decide), _, _, rfl, rfl, ?_⟩
      clear hdu
      generalize eU : ([((Sum.inr "sp" : Key), V.int (z.sp - 2)), (Sum.inr "lets", .bl false), (Sum.inr "pc", .int (2 - calledM x % 2))] : List (Key × V)) = U
      have hU : mergeK [] U = U := by rw [← eU]; kernel_rfl
      refine ⟨upd_same, U, (by rw [← eU]; rfl), (by rw [← eU]; show 3 ≤ 15; decide), ?_⟩
      rw [hU, upd_upd]
      have r3 := same_upd' (o := .dK U) nu
      have hU3 : upd H12 u (.dK U) u = some (.dK U) := upd_same
      have ud : d ≠ u := ne_of_none hd12 nu
      have L13 := L12.same r3
      have hd13 := r3 _ _ hd12
      have hz13 := hz12.mono (fun t xs e => r3 _ _ e)
      generalize upd H12 u (.dK U) = H13 at *
      refine ⟨d, u, _, _, rfl, rfl, ud, hd13, hU3, (by rw [← eU]; show 20 + 3 ≤ sizeLine; decide), ?_⟩
      have em2 : mergeK (owD oa2 { oe with ov := .non, tu := tl } z sv12) U = owD oa2 { oe with ov := .non, tu := tl } { z with sp := z.sp - 2, lets := false, pc := 2 - calledM x % 2 } sv12 := by rw [← eU]; kernel_rfl
      rw [em2]
      have L14 : Ow _ d oa2 { oe with ov := .non, tu := tl } { z with sp := z.sp - 2, lets := false, pc := 2 - calledM x % 2 } := L13.dict (y := { z with sp := z.sp - 2, lets := false, pc := 2 - calledM x % 2 }) hz13 rfl rfl
      have F14 := ((F10.trans F11.fr).trans F12.fr).trans ((Fr.of_same r3).trans (Fo.ud (m := oa2.m) (o := .dK (owD oa2 { oe with ov := .non, tu := tl } { z with sp := z.sp - 2, lets := false, pc := 2 - calledM x % 2 } sv12))).fr)
      generalize upd H13 d (.dK (owD oa2 { oe with ov := .non, tu := tl } { z with sp := z.sp - 2, lets := false, pc := 2 - calledM x % 2 } sv12)) = H14 at *
      have ec : calledM y = calledM x := ecl
      have epc : (2 : Int) - calledM x % 2 = if Builtin.bitAnd (calledM y) 1 ≠ 0 then 1 else 2 := by rw [ec]; exact called_pc O
      rw [p4, epc] at L14
      refine ⟨_, rfl, d, oa2, _, _, 3, rfl, L14, ⟨O12.lm, O12.w, O12.a, O12.b, (by show W16 (if Builtin.bitAnd (calledM y) 1 ≠ 0 then 1 else 2); split <;> exact ⟨by decide, by decide⟩), O12.ln⟩, by decide, fun H15 F15 L15 => ?_⟩
      rw [etl] at L15
      exact k H15 oa2 (F14.trans F15.fr) L15
  | true =>
    refine ifB (fun _ => ?_) (fun h => by cases h)
    by_cases hc : calledM x = 0
    · have et : turnM x = (("asleep" : Str), passM 1 x) := by
        unfold turnM
        rw [if_neg ns, if_pos ⟨ea, hc⟩]
      rw [et] at k
      dsimp only at k
      rw [if_neg (show ¬ ("asleep" : Str) = "deed" by decide +kernel), if_neg (show ¬ ("asleep" : Str) = "deed" by decide +kernel), if_neg (show ¬ ("asleep" : Str) = "interrupt" by decide +kernel)] at k
      refine ⟨_, rfl, rfl, _, rfl, ifB (fun _ => ?_) (fun h => absurd (congrArg V.int hc) (of_decide_eq_false h))⟩
      refine ⟨_, rfl, d, oa1, _, x, 1, rfl, L, O, by decide, fun H4 F4 L4 => ?_⟩
      exact k H4 oa1 (f3.trans F4.fr) L4
    · refine ⟨_, rfl, rfl, _, rfl, ifB (fun h => absurd (V.int.inj (of_decide_eq_true h)) hc) (fun _ => ?_)⟩
      refine ⟨_, rfl, d, _, rfl, dpO (k := Sum.inr "asleep") hd oP_asleep, ?_⟩
      have L4 : Ow _ d oa1 { oe with ov := .non, tu := [] } { x with asleep := false } := L.dict (y := { x with asleep := false }) (sv := .non) (by rw [show ({ x with asleep := false } : Bd).stop = x.stop from rfl, es]; rfl) rfl rfl
      have F4 : Fr (FtO d oa1) H3 (FtO d oa1) (upd H3 d (.dK (owD oa1 { oe with ov := .non, tu := [] } { x with asleep := false } .non))) := (Fo.ud (m := oa1.m)).fr
      have O4 : Ok { x with asleep := false } := ⟨O.lm, O.w, O.a, O.b, O.pc, O.ln⟩
      have eo : owD oa1 { oe with ov := .non } { x with asleep := false } .non = owD oa1 { oe with ov := .non, tu := [] } { x with asleep := false } .non := rfl
      clear eo
      generalize upd H3 d _ = H4 at *
      obtain ⟨sv4, hd4, hz4⟩ := L4.hd
      refine ⟨_, rfl, d, _, rfl, dg (k := Sum.inr "lets") hd4 oG_lets, _, rfl, ?_⟩
      cases el : x.lets with
      | false =>
        have et : turnM x = deedM { x with asleep := false } := by
          unfold turnM
          rw [if_neg ns, if_neg (fun z => hc z.2), if_neg (fun z => by rw [el] at z; cases z.1)]
        refine ifN (fun _ => ?_) (fun h => by cases h)
        refine ⟨_, rfl, ?_⟩
        exact deed _ et rfl rfl H4 F4 L4 O4
      | true =>
        refine ifN (fun h => by cases h) (fun _ => ?_)
        by_cases hc2 : calledM x = 0
        · have et : turnM x = deedM { x with asleep := false } := by
            unfold turnM
            rw [if_neg ns, if_neg (fun z => hc z.2), if_neg (fun z => z.2 hc2)]
          refine ⟨_, rfl, rfl, _, rfl, ifB (fun _ => ?_) (fun h => absurd (congrArg V.int hc2) (of_decide_eq_false h))⟩
          refine ⟨_, rfl, ?_⟩
          exact deed _ et rfl rfl H4 F4 L4 O4
        have et : turnM x = intM { x with asleep := false } := by
          unfold turnM
          rw [if_neg ns, if_neg (fun z => hc z.2), if_pos ⟨el, hc2⟩]
        refine ⟨_, rfl, rfl, _, rfl, ifB (fun h => absurd (V.int.inj (of_decide_eq_true h)) hc2) (fun _ => ?_)⟩
        have ey := et
        have Ly := L4
        have Fy := F4
        have Oy := O4
        have ecl : calledM ({ x with asleep := false } : Bd) = calledM x := rfl
        have tsp : ∀ (b : Bd), b = { x with asleep := false } → True := fun _ _ => trivial
        obtain ⟨y, hy⟩ : ∃ y : Bd, y = { x with asleep := false } := ⟨_, rfl⟩
        have eti : (if (turnM x).1 = "interrupt" then [(true, x.sp), (true, x.sp - 1)] else []) = if (turnM x).1 = "interrupt" then [(true, y.sp), (true, y.sp - 1)] else [] := by rw [hy]
        rw [eti] at k
        rw [← hy] at ey Ly Oy ecl
        clear eti tsp hd4 hz4 L4 F4 O4 hd
        obtain ⟨tl, etl⟩ : ∃ tl : List (Bool × Int), tl = [(true, y.sp), (true, y.sp - 1)] := ⟨_, rfl⟩
        obtain ⟨svy, hdy, hzy⟩ := Ly.hd
        refine ⟨_, rfl, d, _, rfl, dg (k := Sum.inr "sp") hdy oG_sp, _, rfl, d, _, rfl, dg (k := Sum.inr "sp") hdy oG_sp, _, _, rfl, rfl, (by show 2 ≤ sizeLine; decide), fun l5 n5 => ?_⟩
        have r5 := same_upd' (o := .lst [V.int y.sp, V.int (y.sp - 1)]) n5
        have h5 : upd H4 l5 (.lst [V.int y.sp, V.int (y.sp - 1)]) l5 = some (.lst (tl.map fun t => V.int t.2)) := by rw [etl]; exact upd_same
        have L5 := Ly.same r5
        have F5 := Fy.trans (Fr.of_same r5)
        generalize upd H4 l5 (.lst [V.int y.sp, V.int (y.sp - 1)]) = H5 at *
        have tr : ∀ t ∈ tl, t.1 = true := fun t ht => by
          rw [etl] at ht
          simp only [List.mem_cons, List.not_mem_nil, or_false] at ht
          rcases ht with h | h <;> rw [h]
        refine ⟨l5, rfl, ⟨_, SqL.of h5⟩, ?_⟩
        refine for_list (K := K) (a := l5) (xs := tl.map fun t => V.int t.2) (fun i σ H' => Same H5 H' ∧ firstBad (tl.drop i) = firstBad tl ∧ ∃ y2, σ = [some (.ref d), some (.int (calledM x)), y2]) ⟨Same.refl _, rfl, none, rfl⟩ (fun i σ H' _ h => SqL.of (h.1 _ _ h5)) ?_ ?_
        · rintro i v σ H' hv ⟨sm, hf, y2, rfl⟩
          rw [List.getElem?_map] at hv
          obtain ⟨t, e1, rfl⟩ : ∃ t, tl[i]? = some t ∧ v = .int t.2 := by
            cases e : tl[i]? with
            | none => rw [e] at hv; cases hv
            | some t => rw [e] at hv; exact ⟨t, rfl, (Option.some.inj hv).symm⟩
          have hil : i < tl.length := (List.getElem?_eq_some_iff.mp e1).1
          have hdr : tl.drop i = t :: tl.drop (i + 1) := by
            rw [List.drop_eq_getElem_cons hil]
            have : tl[i] = t := Option.some.inj ((List.getElem?_eq_getElem hil).symm.trans e1)
            rw [this]
          rw [hdr, firstBad_cons] at hf
          have ett : ((true, t.2) : Bool × Int) = t := by rw [← tr t (List.mem_of_getElem? e1)]
          refine ⟨_, rfl, t.2, true, rfl, fun G2 v s2 hv2 => ⟨_, rfl, ?_⟩⟩
          rw [ett] at hv2
          cases e : barM t with
          | none =>
            rw [e] at hv2 hf
            obtain rfl : v = .non := hv2
            refine ifN (fun h => absurd rfl (of_decide_eq_false h)) (fun _ => ?_)
            exact ⟨sm.trans s2, hf, _, rfl⟩
          | some wy =>
            rw [e] at hv2 hf
            obtain rfl : v = .str wy := hv2
            refine ifN (fun _ => ?_) (fun h => by cases (of_decide_eq_true h))
            have ed : intM y = (("stopped" : Str), { y with stop := some (wy, [y.pc, t.2]) }) := by
              unfold intM
              rw [← etl, ← hf]
              rfl
            rw [ey, ed] at k
            dsimp only at k
            rw [if_neg (show ¬ ("stopped" : Str) = "deed" by decide +kernel), if_neg (show ¬ ("stopped" : Str) = "deed" by decide +kernel), if_neg (show ¬ ("stopped" : Str) = "interrupt" by decide +kernel)] at k
            refine ⟨_, rfl, _, rfl, t.2, true, rfl, fun G3 v3 s3 hv3 => ?_⟩
            rw [ett, e] at hv3
            obtain rfl : v3 = .str wy := hv3
            have sall := (sm.trans s2).trans s3
            have L6 := L5.same sall
            obtain ⟨sv6, hd6, hz6⟩ := L6.hd
            refine ⟨_, rfl, d, _, rfl, dg (k := Sum.inr "pc") hd6 oG_pc, _, rfl, (by show 3 ≤ sizeLine; decide), fun q2 nq => ?_⟩
            exact ⟨d, oa1, _, y, .ref q2, (wy, [y.pc, t.2]), rfl, L6.same (same_upd' nq), ⟨q2, rfl, upd_same⟩, fun H2 F2 L2 => k H2 oa1 ((f3.trans (F5.trans (Fr.of_same (sall.trans (same_upd' nq))))).trans F2.fr) L2⟩
        rintro σ H6 ⟨sm, hf, y2, rfl⟩
        rw [List.length_map, List.drop_length] at hf
        have efb : firstBad tl = none := hf.symm
        have ed : intM y = (("interrupt" : Str), begunM y) := by
          unfold intM
          rw [← etl, efb]
        rw [ey, ed] at k
        dsimp only at k
        rw [if_neg (show ¬ ("interrupt" : Str) = "deed" by decide +kernel), if_neg (show ¬ ("interrupt" : Str) = "deed" by decide +kernel), if_pos rfl] at k
        have tok := firstBad_ok efb
        obtain ⟨i0, i1⟩ := barM_ok (tok (true, y.sp) (by rw [etl]; exact List.mem_cons_self ..))
        obtain ⟨j0, j1⟩ := barM_ok (tok (true, y.sp - 1) (by rw [etl]; exact List.mem_cons_of_mem _ (List.mem_cons_self ..)))
        have i0 : 0 ≤ y.sp := i0
        have i1 : y.sp < 774 := i1
        have j0 : 0 ≤ y.sp - 1 := j0
        have j1 : y.sp - 1 < 774 := j1
        have L6 := L5.same sm
        have F6 := F5.trans (Fr.of_same sm)
        clear L5 F5 h5 sm hf tok hdy hzy
        obtain ⟨sv6, hd6, hz6⟩ := L6.hd
        refine ⟨_, rfl, d, _, rfl, dg (k := Sum.inr "sp") hd6 oG_sp, (by show 2 ≤ sizeLine; decide), fun t1 nt1 => ?_⟩
        have r7 := same_upd' (o := .tup [V.str "w", V.int y.sp]) nt1
        have h7 : upd H6 t1 (.tup [V.str "w", V.int y.sp]) t1 = some (.tup [V.str "w", V.int y.sp]) := upd_same
        have hd7 := r7 _ _ hd6
        have s7 := r7
        generalize upd H6 t1 (.tup [V.str "w", V.int y.sp]) = H7 at *
        refine ⟨_, rfl, d, _, rfl, dg (k := Sum.inr "sp") hd7 oG_sp, _, _, rfl, rfl, (by show 2 ≤ sizeLine; decide), fun t2 nt2 => ?_⟩
        have r8 := same_upd' (o := .tup [V.str "w", V.int (y.sp - 1)]) nt2
        have h8 : upd H7 t2 (.tup [V.str "w", V.int (y.sp - 1)]) t2 = some (.tup [V.str "w", V.int (y.sp - 1)]) := upd_same
        have h7 := r8 _ _ h7
        have s8 := s7.trans r8
        generalize upd H7 t2 (.tup [V.str "w", V.int (y.sp - 1)]) = H8 at *
        refine ⟨(by show 2 ≤ sizeLine; decide), fun l9 n9 => ?_⟩
        have r9 := same_upd' (o := .lst [V.ref t1, V.ref t2]) n9
        have h9 : upd H8 l9 (.lst [V.ref t1, V.ref t2]) l9 = some (.lst [V.ref t1, V.ref t2]) := upd_same
        have h7 := r9 _ _ h7
        have h8 := r9 _ _ h8
        have n9' := s8.free n9
        have s9 := s8.trans r9
        have L9 := L6.same s9
        have nlO : ¬ FtO d oa1 l9 := fun z => by
          obtain ⟨o, e, _⟩ := L6.solid l9 z
          rw [n9'] at e
          cases e
        generalize upd H8 l9 (.lst [V.ref t1, V.ref t2]) = H9 at *
        obtain ⟨sv9, hd9, hz9⟩ := L9.hd
        refine ⟨_, rfl, d, _, rfl, dpO (k := Sum.inr "touched") hd9 oP_touched, ?_⟩
        have L10 : Ow _ d { oa1 with to := l9 } { oe with ov := .non, tu := tl } y := L9.tou (y := y) (ov := .non) (tu := tl) hz9 rfl rfl h9 (by rw [etl]; exact .cons ⟨t1, rfl, h7⟩ (.cons ⟨t2, rfl, h8⟩ .nil)) nlO
        have F10 : Fr (FtO d oa1) H3 (FtO d { oa1 with to := l9 }) (upd H9 d (.dK (owD { oa1 with to := l9 } { oe with ov := .non, tu := [] } y sv9))) := F6.trans (Fr.tou (fun b q n e => by rw [upd_ne n]; exact s9 _ _ e) n9')
        have F10 := f3.trans F10
        have em10 : ({ oa1 with to := l9 } : Oa).m = oa1.m := rfl
        clear L9 hd9 hz9 h7 h8 h9 s9 s8 s7 r7 r8 r9 L6 hd6 hz6 F6 hd7 nlO
        generalize upd H9 d (.dK (owD { oa1 with to := l9 } { oe with ov := .non, tu := [] } y sv9)) = H10 at *
        generalize { oa1 with to := l9 } = oa2 at *
        obtain ⟨sv10, hd10, hz10⟩ := L10.hd
        refine ⟨_, rfl, _, rfl, d, _, rfl, dg (k := Sum.inr "sp") hd10 oG_sp, _, rfl, d, _, rfl, dg (k := Sum.inr "pc") hd10 oG_pc, d, oa2, _, y, y.sp, y.pc, rfl, L10, Oy, i0, i1, Oy.pc, fun H11 F11 L11 => ?_⟩
        have O11 := Oy.putM (a := y.sp) Oy.pc
        obtain ⟨q1, q2, q3, q4, q5, q6, q7⟩ := putWM_regs y.sp y.pc y
        obtain ⟨sv11, hd11, hz11⟩ := L11.hd
        refine ⟨_, rfl, _, rfl, d, _, rfl, dg (k := Sum.inr "sp") hd11 oG_sp, _, _, rfl, rfl, _, rfl, d, _, rfl, dg (k := Sum.inr "zero") hd11 oG_zero, .inr ⟨_, rfl, ?_⟩⟩
        rw [q4, q5]
        refine ⟨d, oa2, _, putWM y.sp y.pc y, y.sp - 1, b2n y.zero, rfl, L11, O11, j0, j1, (by unfold b2n; split <;> exact ⟨by decide, by decide⟩), fun H12 F12 L12 => ?_⟩
        obtain ⟨p1, p2, p3, p4, p5, p6, p7⟩ := putWM_regs (y.sp - 1) (b2n y.zero) (putWM y.sp y.pc y)
        have O12 := O11.putM (a := y.sp - 1) (v := b2n y.zero) (by unfold b2n; split <;> exact ⟨by decide, by decide⟩)
        have ebg : begunM y = passM 3 { putWM (y.sp - 1) (b2n y.zero) (putWM y.sp y.pc y) with sp := y.sp - 2, lets := false, pc := if Builtin.bitAnd (calledM y) 1 ≠ 0 then 1 else 2 } := rfl
        rw [ebg] at k
        rw [q4] at p4
        generalize putWM (y.sp - 1) (b2n y.zero) (putWM y.sp y.pc y) = z at *
        obtain ⟨sv12, hd12, hz12⟩ := L12.hd
        refine ⟨_, rfl, .inr (.inr (.inl ⟨rfl, .inl ⟨_, hd12⟩⟩)), ?_⟩
        intro u nu
        have hdu := same_upd' (o := .dK []) nu _ _ hd12
        refine ⟨_, rfl, d, _, rfl, dg (k := Sum.inr "sp") hdu oG_sp, _, _, rfl, rfl, _, rfl, _, _, rfl, rfl, (by show (0 : Int) < 2; decide), _, _, rfl, rfl, ?_⟩
        clear hdu
        generalize eU : ([((Sum.inr "sp" : Key), V.int (z.sp - 2)), (Sum.inr "lets", .bl false), (Sum.inr "pc", .int (2 - calledM x % 2))] : List (Key × V)) = U
        have hU : mergeK [] U = U := by rw [← eU]; kernel_rfl
        refine ⟨upd_same, U, (by rw [← eU]; rfl), (by rw [← eU]; show 3 ≤ 15; decide), ?_⟩
        rw [hU, upd_upd]
        have r3 := same_upd' (o := .dK U) nu
        have hU3 : upd H12 u (.dK U) u = some (.dK U) := upd_same
        have ud : d ≠ u := ne_of_none hd12 nu
        have L13 := L12.same r3
        have hd13 := r3 _ _ hd12
        have hz13 := hz12.mono (fun t xs e => r3 _ _ e)
        generalize upd H12 u (.dK U) = H13 at *
        refine ⟨d, u, _, _, rfl, rfl, ud, hd13, hU3, (by rw [← eU]; show 20 + 3 ≤ sizeLine; decide), ?_⟩
        have em2 : mergeK (owD oa2 { oe with ov := .non, tu := tl } z sv12) U = owD oa2 { oe with ov := .non, tu := tl } { z with sp := z.sp - 2, lets := false, pc := 2 - calledM x % 2 } sv12 := by rw [← eU]; kernel_rfl
        rw [em2]
        have L14 : Ow _ d oa2 { oe with ov := .non, tu := tl } { z with sp := z.sp - 2, lets := false, pc := 2 - calledM x % 2 } := L13.dict (y := { z with sp := z.sp - 2, lets := false, pc := 2 - calledM x % 2 }) hz13 rfl rfl
        have F14 := ((F10.trans F11.fr).trans F12.fr).trans ((Fr.of_same r3).trans (Fo.ud (m := oa2.m) (o := .dK (owD oa2 { oe with ov := .non, tu := tl } { z with sp := z.sp - 2, lets := false, pc := 2 - calledM x % 2 } sv12))).fr)
        generalize upd H13 d (.dK (owD oa2 { oe with ov := .non, tu := tl } { z with sp := z.sp - 2, lets := false, pc := 2 - calledM x % 2 } sv12)) = H14 at *
        have ec : calledM y = calledM x := ecl
        have epc : (2 : Int) - calledM x % 2 = if Builtin.bitAnd (calledM y) 1 ≠ 0 then 1 else 2 := by rw [ec]; exact called_pc O
        rw [p4, epc] at L14
        refine ⟨_, rfl, d, oa2, _, _, 3, rfl, L14, ⟨O12.lm, O12.w, O12.a, O12.b, (by show W16 (if Builtin.bitAnd (calledM y) 1 ≠ 0 then 1 else 2); split <;> exact ⟨by decide, by decide⟩), O12.ln⟩, by decide, fun H15 F15 L15 => ?_⟩
        rw [etl] at L15
        exact k H15 oa2 (F14.trans F15.fr) L15
end
end Bh

/-! The law's own board: frames followed, turns seen. -/
namespace Bh
open PySem PySem.Spec PyProof.Rows L2
section
variable {H : Hp} {d l : Addr} {oa : Oa} {oe : Oe} {x : Bd}
theorem Ow.addRing (L : Ow H d oa oe x) {hs : List V} {t9 : Addr} {u : Int × Str × Int} (h0 : H oa.rg = some (.lst hs)) (h1 : HtAt H hs oe.ring) (h2 : H t9 = some (.tup [.int u.1, .str u.2.1, .int u.2.2])) : Ow (upd H oa.rg (.lst (hs ++ [.ref t9]))) d oa { oe with ring := oe.ring ++ [u] } x := by
  obtain ⟨t, ko, _⟩ := L.kOwn (l := [5]) (H1 := upd H oa.rg (.lst (hs ++ [.ref t9]))) (fun b o n q => by rw [upd_ne (fun z => n 5 (by decide) (by rw [z]; rfl))]; exact q)
  obtain ⟨sv0, hd, hz0⟩ := L.hd
  obtain ⟨ts, ht, ht2⟩ := L.ht
  obtain ⟨us, hf, hf2⟩ := L.hf
  obtain ⟨hs0, hr, hr2⟩ := L.hr
  obtain ⟨kd0, hh, hh2⟩ := L.hh
  exact {
    hd := ⟨sv0, ko 0 _ _ (by decide) rfl hd, hz0.mono t⟩
    hm := ko 1 _ _ (by decide) rfl L.hm
    hl := ko 2 _ _ (by decide) rfl L.hl
    ht := ⟨ts, ko 3 _ _ (by decide) rfl ht, ht2.mono t⟩
    hf := ⟨us, ko 4 _ _ (by decide) rfl hf, hf2.mono t⟩
    hr := ⟨_, upd_same, HtAt.snoc (t _ _ h2) (h1.mono t)⟩
    hi := ko 6 _ _ (by decide) rfl L.hi
    hh := ⟨kd0, ko 7 _ _ (by decide) rfl hh, hh2.mono t⟩
    lm := L.lm
    nd := L.nd }
theorem Ow.putIns (L : Ow H d oa oe x) {sp : List (Int × Int)} : Ow (upd H oa.ins (.dK (spD sp))) d oa { oe with spent := sp } x := by
  obtain ⟨t, ko, _⟩ := L.kOwn (l := [6]) (H1 := upd H oa.ins (.dK (spD sp))) (fun b o n q => by rw [upd_ne (fun z => n 6 (by decide) (by rw [z]; rfl))]; exact q)
  obtain ⟨sv0, hd, hz0⟩ := L.hd
  obtain ⟨ts, ht, ht2⟩ := L.ht
  obtain ⟨us, hf, hf2⟩ := L.hf
  obtain ⟨hs0, hr, hr2⟩ := L.hr
  obtain ⟨kd0, hh, hh2⟩ := L.hh
  exact {
    hd := ⟨sv0, ko 0 _ _ (by decide) rfl hd, hz0.mono t⟩
    hm := ko 1 _ _ (by decide) rfl L.hm
    hl := ko 2 _ _ (by decide) rfl L.hl
    ht := ⟨ts, ko 3 _ _ (by decide) rfl ht, ht2.mono t⟩
    hf := ⟨us, ko 4 _ _ (by decide) rfl hf, hf2.mono t⟩
    hr := ⟨hs0, ko 5 _ _ (by decide) rfl hr, hr2.mono t⟩
    hi := upd_same
    hh := ⟨kd0, ko 7 _ _ (by decide) rfl hh, hh2.mono t⟩
    lm := L.lm
    nd := L.nd }
theorem Ow.putTh (L : Ow H d oa oe x) {kd : List (Key × V)} {ds : List (Int × Int × Int)} (h1 : DdAt H kd ds) : Ow (upd H oa.th (.dK kd)) d oa { oe with deeds := ds } x := by
  obtain ⟨t, ko, _⟩ := L.kOwn (l := [7]) (H1 := upd H oa.th (.dK kd)) (fun b o n q => by rw [upd_ne (fun z => n 7 (by decide) (by rw [z]; rfl))]; exact q)
  obtain ⟨sv0, hd, hz0⟩ := L.hd
  obtain ⟨ts, ht, ht2⟩ := L.ht
  obtain ⟨us, hf, hf2⟩ := L.hf
  obtain ⟨hs0, hr, hr2⟩ := L.hr
  obtain ⟨kd0, hh, hh2⟩ := L.hh
  exact {
    hd := ⟨sv0, ko 0 _ _ (by decide) rfl hd, hz0.mono t⟩
    hm := ko 1 _ _ (by decide) rfl L.hm
    hl := ko 2 _ _ (by decide) rfl L.hl
    ht := ⟨ts, ko 3 _ _ (by decide) rfl ht, ht2.mono t⟩
    hf := ⟨us, ko 4 _ _ (by decide) rfl hf, hf2.mono t⟩
    hr := ⟨hs0, ko 5 _ _ (by decide) rfl hr, hr2.mono t⟩
    hi := ko 6 _ _ (by decide) rfl L.hi
    hh := ⟨_, upd_same, h1.mono t⟩
    lm := L.lm
    nd := L.nd }
theorem Ow.frm (L : Ow H d oa oe x) {sv : V} {us : List V} {rows : List (Int × Int × Str)} (hz : StopAt H sv x.stop) (hl : H l = some (.lst us)) (hu : T3At H us rows) (nl : ¬ FtO d oa l) :
    Ow (upd H d (.dK (owD { oa with fl := l } oe x sv))) d { oa with fl := l } { oe with rows := rows } x := by
  obtain ⟨t, ko, _⟩ := L.kOwn (l := [0]) (H1 := upd H d (.dK (owD { oa with fl := l } oe x sv))) (fun b o n q => by rw [upd_ne (fun z => n 0 (by decide) (by rw [z]; rfl))]; exact q)
  obtain ⟨ts, ht, ht2⟩ := L.ht
  obtain ⟨hs, hr, hr2⟩ := L.hr
  obtain ⟨kd, hh, hh2⟩ := L.hh
  have nd : l ≠ d := fun z => nl (by rw [z]; exact List.mem_cons_self ..)
  exact {
    hd := ⟨sv, upd_same, hz.mono t⟩
    hm := ko 1 _ _ (by decide) rfl L.hm
    hl := ko 2 _ _ (by decide) rfl L.hl
    ht := ⟨ts, ko 3 _ _ (by decide) rfl ht, ht2.mono t⟩
    hf := ⟨us, by rw [upd_ne nd]; exact hl, hu.mono t⟩
    hr := ⟨hs, ko 5 _ _ (by decide) rfl hr, hr2.mono t⟩
    hi := ko 6 _ _ (by decide) rfl L.hi
    hh := ⟨kd, ko 7 _ _ (by decide) rfl hh, hh2.mono t⟩
    lm := L.lm
    nd := by
      have h := L.nd
      have nl : l ∉ [d, oa.m, oa.ln, oa.to, oa.fl, oa.rg, oa.ins, oa.th] := nl
      show [d, oa.m, oa.ln, oa.to, l, oa.rg, oa.ins, oa.th].Nodup
      have h : [d, oa.m, oa.ln, oa.to, oa.fl, oa.rg, oa.ins, oa.th].Nodup := h
      simp only [List.nodup_cons, List.mem_cons, List.not_mem_nil, or_false, not_or] at h nl ⊢
      obtain ⟨⟨a1, a2, a3, a4, a5, a6, a7⟩, ⟨b1, b2, b3, b4, b5, b6⟩, ⟨c1, c2, c3, c4, c5⟩, ⟨d1, d2, d3, d4⟩, ⟨e1, e2, e3⟩, r⟩ := h
      obtain ⟨n1, n2, n3, n4, n5, n6, n7, n8⟩ := nl
      exact ⟨⟨a1, a2, a3, fun z => n1 z.symm, a5, a6, a7⟩, ⟨b1, b2, fun z => n2 z.symm, b4, b5, b6⟩, ⟨c1, fun z => n3 z.symm, c3, c4, c5⟩, ⟨fun z => n4 z.symm, d2, d3, d4⟩, ⟨n6, n7, n8⟩, r⟩ }
theorem Fr.frm {H' : Hp} (k : ∀ b q, b ≠ d → H b = some q → H' b = some q) (nl : H l = none) : Fr (FtO d oa) H (FtO d { oa with fl := l }) H' := ⟨fun b q n e => k b q (fun z => n (by rw [z]; exact List.mem_cons_self ..)) e, fun b z => by
  have z : b ∈ [d, oa.m, oa.ln, oa.to, l, oa.rg, oa.ins, oa.th] := z
  simp only [List.mem_cons, List.not_mem_nil, or_false] at z
  rcases z with z | z | z | z | z | z | z | z
  · exact .inl (List.mem_of_getElem? (i := 0) (by rw [z]; rfl))
  · exact .inl (List.mem_of_getElem? (i := 1) (by rw [z]; rfl))
  · exact .inl (List.mem_of_getElem? (i := 2) (by rw [z]; rfl))
  · exact .inl (List.mem_of_getElem? (i := 3) (by rw [z]; rfl))
  · exact .inr (by rw [z]; exact nl)
  · exact .inl (List.mem_of_getElem? (i := 5) (by rw [z]; rfl))
  · exact .inl (List.mem_of_getElem? (i := 6) (by rw [z]; rfl))
  · exact .inl (List.mem_of_getElem? (i := 7) (by rw [z]; rfl))⟩
theorem Fr.at_ {i : Nat} {b0 : Addr} {o : HO} (h : (oa.own d)[i]? = some b0) : Fr (FtO d oa) H (FtO d oa) (upd H b0 o) := ⟨fun b q n e => by rw [upd_ne (fun z => n (by rw [z]; exact List.mem_of_getElem? h))]; exact e, fun b z => .inl z⟩
end
theorem joinI {Goal : Prop} {I : Hp → Int → Prop} (R : Hp → Int → Prop) (body : (∀ G' a, I G' a → R G' a) → Goal) (key : ∀ G' a, I G' a → R G' a) : Goal := body key
theorem inner_at (rows : List (Int × Int × Str)) : atI (V.int (-1) :: rows.map fun u => V.int u.2.1) (-1) = some (.int (innerM rows)) := by
  rcases snocCases rows with rfl | ⟨r0, u, rfl⟩
  · rfl
  · have e : (V.int (-1) :: (r0 ++ [u]).map fun u => V.int u.2.1) = (V.int (-1) :: r0.map fun u => V.int u.2.1) ++ [V.int u.2.1] := by rw [List.map_append]; rfl
    have ei : innerM (r0 ++ [u]) = u.2.1 := by
      unfold innerM
      rw [List.getLast?_concat]
    rw [e, ei]
    exact atI_last _ _
theorem turn_sort (x : Bd) : (turnM x).1 = "stopped" ∨ (turnM x).1 = "asleep" ∨ (turnM x).1 = "interrupt" ∨ (turnM x).1 = "deed" := by
  unfold turnM
  split
  · exact .inl rfl
  · split
    · exact .inr (.inl rfl)
    · split
      · unfold intM
        split
        · exact .inl rfl
        · exact .inr (.inr (.inl rfl))
      · unfold deedM
        split
        · exact .inl rfl
        · split
          · exact .inl rfl
          · split
            · exact .inl rfl
            · split
              · exact .inl rfl
              · exact .inr (.inr (.inr rfl))
theorem deed_op {x : Bd} (h : (turnM x).1 = "deed") : opM x < 23 := by
  unfold turnM at h
  split at h
  · exact absurd (show ("stopped" : Str) = "deed" from h) (by decide +kernel)
  · split at h
    · exact absurd (show ("asleep" : Str) = "deed" from h) (by decide +kernel)
    · split at h
      · unfold intM at h
        split at h
        · exact absurd (show ("stopped" : Str) = "deed" from h) (by decide +kernel)
        · exact absurd (show ("interrupt" : Str) = "deed" from h) (by decide +kernel)
      · unfold deedM at h
        split at h
        · exact absurd (show ("stopped" : Str) = "deed" from h) (by decide +kernel)
        · split at h
          · exact absurd (show ("stopped" : Str) = "deed" from h) (by decide +kernel)
          · rename_i c
            exact Nat.lt_of_not_le c
/-- how a deed's op is followed -/
theorem follow_op {op : Nat} (h : op < 23) (at_ to : Int) (r : List (Int × Int × Str)) (s : Int) : followR "deed" (.str (nmOf op)) at_ to r s = if op = 15 then (r ++ [(at_, to, ("call" : Str))], s) else if op = 16 then backR "call" r s else if op = 21 then backR "interrupt" r s else (r, s) := by
  match op, h with
  | 0, _ => kernel_rfl
  | 1, _ => kernel_rfl
  | 2, _ => kernel_rfl
  | 3, _ => kernel_rfl
  | 4, _ => kernel_rfl
  | 5, _ => kernel_rfl
  | 6, _ => kernel_rfl
  | 7, _ => kernel_rfl
  | 8, _ => kernel_rfl
  | 9, _ => kernel_rfl
  | 10, _ => kernel_rfl
  | 11, _ => kernel_rfl
  | 12, _ => kernel_rfl
  | 13, _ => kernel_rfl
  | 14, _ => kernel_rfl
  | 15, _ => kernel_rfl
  | 16, _ => kernel_rfl
  | 17, _ => kernel_rfl
  | 18, _ => kernel_rfl
  | 19, _ => kernel_rfl
  | 20, _ => kernel_rfl
  | 21, _ => kernel_rfl
  | 22, _ => kernel_rfl
  | n + 23, h => omega
theorem follow_no (at_ to : Int) (r : List (Int × Int × Str)) (s : Int) : followR "asleep" .non at_ to r s = (r, s) := by kernel_rfl
theorem follow_int (dv : V) (at_ to : Int) (r : List (Int × Int × Str)) (s : Int) : followR "interrupt" dv at_ to r s = (r ++ [(at_, to, ("interrupt" : Str))], s) := if_pos rfl
def spOInner : Sp := fun vs H Q _ => ∃ (d : Addr) (oa : Oa) (oe : Oe) (x : Bd), vs = [.ref d] ∧ Ow H d oa oe x ∧ oe.rows.length ≤ 100000 ∧ ∀ H', Same H H' → Q (.int (innerM oe.rows)) H'
def spOClosed : Sp := fun vs H Q _ => ∃ (d : Addr) (oa : Oa) (oe : Oe) (x : Bd) (k : Str), vs = [.ref d, .str k] ∧ Ow H d oa oe x ∧ oe.rows.length ≤ 100000 ∧ ∀ H' l, Fr (FtO d oa) H (FtO d { oa with fl := l }) H' → Ow H' d { oa with fl := l } { oe with rows := (backR k oe.rows oe.strays).1, strays := (backR k oe.rows oe.strays).2 } x → Q .non H'
structure Om (H : Hp) (d : Addr) (oa : Oa) (oe : Oe) (x : Pm) : Prop where
  w : Ow H d oa oe x.b
  o : Ok x.b
  rows : oe.rows = x.rows
  st : oe.strays = x.strays
  sp : oe.spent = x.spent
  de : oe.deeds = x.deeds
  pk : oe.peeked = x.peeked
  gn : oe.gone = x.gone
  rg : oe.ring.length ≤ x.n
def spOSeen : Sp := fun vs H Q _ => ∃ (d : Addr) (oa : Oa) (oe : Oe) (x : Pm), vs = [.ref d] ∧ Om H d oa oe x ∧ PrN x ∧ x.n < 90000 ∧
  ∀ H' oa' oe', Fr (FtO d oa) H (FtO d oa') H' → Om H' d oa' oe' (noteTM x).2 → oe'.ov = opV x.b → oe'.tu = touT x.b → oe'.ring = (if (noteTM x).1 = "stopped" then oe.ring else oe.ring ++ [(x.b.beat, (noteTM x).1, x.b.pc)]) → Q (.str (noteTM x).1) H'
section
variable {P : Program} {w : World} {K : PySem.W.Frag} {mg : Str → Option Value} {base : Heap} {CB CM : Addr}
abbrev sLinn : Stmt := topS 115
def scLinnN : List Str := ["_law_s", "_law_at", "_law_goes", "_law_kind"]
theorem scLinn : FnScope scLinnN ["_law_s"] (defScope sLinn) := ⟨rfl, rfl, rfl, by decide +kernel, rfl, by decide +kernel, by decide +kernel⟩
theorem ok_Linn {f : Addr} {fd : FuncData} (F : Fun K "_law_inner" "_law_inner" sLinn f fd) (T : Tx K mg CB CM) : FnOk P w K mg base CX0 1 f fd ["_law_s"] (spOInner) := by
  refine F.ok scLinn (fun vs H Q E h => by obtain ⟨_, _, _, _, rfl, _⟩ := h; rfl) (fun cdv A outer s H vs Q E hr h => ?_)
  have hu := hu_of hr
  obtain ⟨d, oa, oe, x, rfl, L, hn, k⟩ := h
  obtain ⟨sv, hd, hz⟩ := L.hd
  obtain ⟨us, hf, hf2⟩ := L.hf
  refine ⟨_, (pss_one (ps_ret (pe_ix ix_list (pe_op op_cat (pe_lst (pa_cons (pe_un un_neg pe_int) pa_nil)) (pe_lc (own := [("_law_at", 1), ("_law_goes", 2), ("_law_kind", 3)]) (g := gTup K 3 (gCons (gName 1) (gCons (gName 2) (gCons (gName 3) gNil)))) (tt := tYes) (by rfl) scLinn.nd (pi_list (pe_dget hu (pv 0) pe_str (fun _ _ => rfl))) (blkOk_by (own := [("_law_at", 1), ("_law_goes", 2), ("_law_kind", 3)]) (N := scLinnN) (sc := defScope sLinn) (by decide +kernel)) (fun _ _ _ _ _ => (gtK (K := K) (n := 3) (by rfl) (by rfl) (pgs_cons (pg_name (i := 1) scLinn.nd rfl (.inl rfl)) (pgs_cons (pg_name (i := 2) scLinn.nd rfl (.inl rfl)) (pgs_cons (pg_name (i := 3) scLinn.nd rfl (.inl rfl)) pgs_nil))) (by rfl) (by rfl))) (fun _ _ _ _ _ => pts_nil) (fun _ _ _ _ _ => (pv 2)))) (pe_un un_neg pe_int) (fun _ _ => rfl)))), ?_⟩
  refine ⟨_, rfl, (by show 1 ≤ sizeLine; decide), fun l1 n1 => ?_⟩
  have r1 := same_upd' (o := .lst [V.int (-1)]) n1
  have h1 : upd H l1 (.lst [V.int (-1)]) l1 = some (.lst [V.int (-1)]) := upd_same
  have hd1 := r1 _ _ hd
  have hf1 := r1 _ _ hf
  have hu1 := hf2.mono (fun t xs e => r1 _ _ e)
  generalize upd H l1 (.lst [V.int (-1)]) = H1 at *
  refine ⟨_, rfl, d, _, rfl, dg (k := Sum.inr "frames") hd1 oG_frames, oa.fl, rfl, ⟨_, SqL.of hf1⟩, fun D nD => ?_⟩
  refine lc_list (K := K) (a := oa.fl) (xs := us) (fun i H' => Same H1 H' ∧ H' D = some (.lst ((oe.rows.take i).map fun u => V.int u.2.1))) ⟨same_upd' nD, upd_same⟩ (fun i H' _ h => SqL.of (h.1 _ _ hf1)) ?_ ?_
  · rintro j v H' hv ⟨sm, hD⟩
    obtain ⟨q, u, rfl, e1, e2⟩ := T3At.get hu1 hv
    refine ⟨q, _, rfl, SqT.of (sm _ _ e2), rfl, _, _, rfl, _, _, rfl, _, _, rfl, rfl, ?_⟩
    refine ⟨rfl, _, rfl, ?_⟩
    refine ⟨_, hD, ?_, same_of sm nD, ?_⟩
    · rw [List.length_map]
      have h3 : ((oe.rows.take j).length) ≤ oe.rows.length := by rw [List.length_take]; exact Nat.min_le_right _ _
      exact Nat.lt_of_le_of_lt (Nat.le_trans h3 hn) (by decide)
    · rw [upd_same, List.take_add_one, e1, List.map_append]
      rfl
  rintro H2 ⟨s2, hD⟩
  rw [hu1.len, List.take_length] at hD
  have h1 := s2 _ _ h1
  refine ⟨l1, D, _, _, rfl, rfl, h1, hD, (by rw [List.length_map]; exact Nat.le_trans (Nat.add_le_add_left hn 1) (by decide)), fun z nz => ?_⟩
  refine ⟨_, rfl, z, _, _, _, rfl, rfl, SqL.of upd_same, inner_at oe.rows, ?_⟩
  exact k _ ((r1.trans s2).trans (same_upd' nz))
abbrev sLclo : Stmt := topS 114
def scLcloN : List Str := ["_law_s", "_law_kind"]
theorem scLclo : FnScope scLcloN ["_law_s", "_law_kind"] (defScope sLclo) := ⟨rfl, rfl, rfl, by decide +kernel, rfl, by decide +kernel, by decide +kernel⟩
theorem ok_Lclo {f : Addr} {fd : FuncData} (F : Fun K "_law_closed" "_law_closed" sLclo f fd) (T : Tx K mg CB CM) : FnOk P w K mg base CX0 1 f fd ["_law_s", "_law_kind"] (spOClosed) := by
  refine F.ok scLclo (fun vs H Q E h => by obtain ⟨_, _, _, _, _, rfl, _⟩ := h; rfl) (fun cdv A outer s H vs Q E hr h => ?_)
  have hu := hu_of hr
  obtain ⟨d, oa, oe, x, kk, rfl, L, hn, k⟩ := h
  have hu64 := hr.units
  obtain ⟨sv, hd, hz⟩ := L.hd
  obtain ⟨us, hf, hf2⟩ := L.hf
  refine ⟨_, (pss_one (ps_if (PW.pt (pw_and (pt_cmpR (op_neP hu64) (pe_dget hu (pv 0) pe_str (fun _ _ => rfl)) (pe_lst pa_nil) (nomark _)) (pw_and1 (pt_cmpR op_eq (pe_ix ix_tup (pe_ix ix_list (pe_dget hu (pv 0) pe_str (fun _ _ => rfl)) (pe_un un_neg pe_int) (fun _ _ => rfl)) pe_int (fun _ _ => rfl)) (pv 1) (nomark _))))) (pss_one (ps_dput hu (pv 0) pe_str (pe_slice sl_list (pe_dget hu (pv 0) pe_str (fun _ _ => rfl)) po_none (po_some (pe_un un_neg pe_int))) rfl)) (pss_one (ps_dput hu (pv 0) pe_str (pe_op op_add (pe_dget hu (pv 0) pe_str (fun _ _ => rfl)) pe_int) rfl)))), ?_⟩
  refine ⟨_, rfl, d, _, rfl, dg (k := Sum.inr "frames") hd oG_frames, Nat.zero_le _, fun l0 n0 => ?_⟩
  have r1 := same_upd' (o := .lst []) n0
  have h0 : upd H l0 (.lst []) l0 = some (.lst []) := upd_same
  have L1 := L.same r1
  have hd1 := r1 _ _ hd
  have hz1 := hz.mono (fun t xs e => r1 _ _ e)
  have hf1 := r1 _ _ hf
  have hu1 := hf2.mono (fun t xs e => r1 _ _ e)
  have F1 : Fr (FtO d oa) H (FtO d oa) (upd H l0 (.lst [])) := Fr.of_same r1
  generalize upd H l0 (.lst []) = H1 at *
  have eoa : ({ oa with fl := oa.fl } : Oa) = oa := rfl
  have stray : backR kk oe.rows oe.strays = (oe.rows, oe.strays + 1) → Q .non (upd H1 d (.dK (owD oa { oe with strays := oe.strays + 1 } x sv))) := fun eb => by
    rw [eb] at k
    exact k _ oa.fl (F1.trans (Fr.at_ (i := 0) rfl)) (L1.ext (oe' := { oe with strays := oe.strays + 1 }) hz1 rfl rfl rfl rfl rfl rfl rfl)
  refine ⟨_, _, .lst (SqL.of hf1) (dp_t3 hu1), .lst (SqL.of h0) .nil, pl_L (pl_t3 _), rfl, Nat.le_trans (dep_L (dep_t3 _)) (by decide), _, rfl, ?_⟩
  rw [rows_eqv]
  rcases snocCases oe.rows with er | ⟨r0, u, er⟩
  · rw [show oe.rows.isEmpty = true by rw [er]; rfl]
    refine ifB (fun h => by cases h) (fun _ => ?_)
    refine ⟨_, rfl, d, _, rfl, dg (k := Sum.inr "strays") hd1 oG_strays, _, _, rfl, rfl, _, rfl, d, _, rfl, dpO (k := Sum.inr "strays") hd1 oP_strays, ?_⟩
    exact stray (by unfold backR; rw [er]; rfl)
  · rw [show oe.rows.isEmpty = false by rw [er]; exact List.isEmpty_eq_false_iff.mpr (by simp)]
    refine ifB (fun _ => ?_) (fun h => by cases h)
    rw [er] at hu1
    obtain ⟨us', t, eu, ht', e3⟩ := hu1.last
    have el : backR kk oe.rows oe.strays = if u.2.2 = kk then (r0, oe.strays) else (oe.rows, oe.strays + 1) := by
      unfold backR
      rw [er, List.getLast?_concat]
      dsimp only
      rw [List.dropLast_concat]
    refine ⟨_, rfl, d, _, rfl, dg (k := Sum.inr "frames") hd1 oG_frames, _, rfl, oa.fl, _, _, _, rfl, rfl, SqL.of hf1, (by rw [eu]; exact atI_last us' _), t, _, 2, _, rfl, rfl, SqT.of e3, atI_nat (j := 2) rfl, _, rfl, rfl, _, rfl, ifB (fun h => ?_) (fun h => ?_)⟩
    · rw [if_pos (V.str.inj (of_decide_eq_true h))] at el
      rw [el] at k
      refine ⟨_, rfl, d, _, rfl, dg (k := Sum.inr "frames") hd1 oG_frames, _, rfl, _, rfl, oa.fl, _, rfl, SqL.of hf1, fun l2 n2 => ?_⟩
      have r2 := same_upd' (o := .lst us') n2
      have ecut : cutV us none (some (-1)) = us' := by
        rw [eu]
        exact cut_last us' _
      rw [ecut]
      have h2 : upd H1 l2 (.lst us') l2 = some (.lst us') := upd_same
      have nlO : ¬ FtO d oa l2 := fun z => by
        obtain ⟨o, e, _⟩ := L1.solid l2 z
        rw [n2] at e; cases e
      have L2 := L1.same r2
      have hd2 := r2 _ _ hd1
      have hz2 := hz1.mono (fun t xs e => r2 _ _ e)
      have ht2 := ht'.mono (fun t xs e => r2 _ _ e)
      generalize upd H1 l2 (.lst us') = H2 at *
      refine ⟨_, rfl, d, _, rfl, dpO (k := Sum.inr "frames") hd2 oP_frames, ?_⟩
      exact k _ l2 (F1.trans (Fr.frm (fun b q n e => by rw [upd_ne n]; exact r2 _ _ e) n2)) (L2.frm hz2 h2 ht2 nlO)
    · rw [if_neg (fun z => of_decide_eq_false h (congrArg V.str z))] at el
      refine ⟨_, rfl, d, _, rfl, dg (k := Sum.inr "strays") hd1 oG_strays, _, _, rfl, rfl, _, rfl, d, _, rfl, dpO (k := Sum.inr "strays") hd1 oP_strays, ?_⟩
      exact stray el
end
end Bh

/-! The law's own board: turns seen. -/
namespace Bh
open PySem PySem.Spec PyProof.Rows L2
section
variable {P : Program} {w : World} {K : PySem.W.Frag} {mg : Str → Option Value} {base : Heap} {CB CM : Addr}
abbrev sLseen : Stmt := topS 116
def scLseenN : List Str := ["_law_s", "_law_at", "_law_beat", "_law_inner_here", "_law_kind", "_law_took", "_law_times", "_law_beats"]
theorem scLseen : FnScope scLseenN ["_law_s"] (defScope sLseen) := ⟨rfl, rfl, rfl, by decide +kernel, rfl, by decide +kernel, by decide +kernel⟩
theorem ok_Lseen {f : Addr} {fd : FuncData} {fL_clo : Addr} {dL_clo : FuncData} {fL_inn : Addr} {dL_inn : FuncData} {fL_turn : Addr} {dL_turn : FuncData} (F : Fun K "_law_seen" "_law_seen" sLseen f fd) (T : Tx K mg CB CM)
    (L_clo : CalF P w K mg base 1 "_law_closed" ["_law_s", "_law_kind"] (spOClosed) fL_clo dL_clo)
    (L_inn : CalF P w K mg base 1 "_law_inner" ["_law_s"] (spOInner) fL_inn dL_inn)
    (L_turn : CalF P w K mg base 4 "_law_turn" ["_law_s"] (spOTurn) fL_turn dL_turn) : FnOk P w K mg base CX0 5 f fd ["_law_s"] (spOSeen) := by
  refine F.ok scLseen (fun vs H Q E h => by obtain ⟨_, _, _, _, rfl, _⟩ := h; rfl) (fun cdv A outer s H vs Q E hr h => ?_)
  have hu := hu_of hr
  obtain ⟨d, oa, oe, x, rfl, M, N, hn, k⟩ := h
  refine ⟨_, (pss_cons (ps_par3 (i := 1) (j := 2) (l := 3) (by rfl) scLseen.nd rfl rfl rfl (by decide) (by decide) (by decide) rfl rfl rfl (pa_cons (pe_dget hu (pv 0) pe_str (fun _ _ => rfl)) (pa_cons (pe_dget hu (pv 0) pe_str (fun _ _ => rfl)) (pa_cons (pe_call L_inn.G (hr.mono (by decide)) (by rfl) L_inn.g L_inn.kp L_inn.b .nil pass0 (pa_cons (pv 0) pa_nil)) pa_nil))) (by rfl))
    (pss_cons (ps_set (i := 4) scLseen.nd rfl (.inl rfl) (pe_call L_turn.G (hr.mono (by decide)) (by rfl) L_turn.g L_turn.kp L_turn.b .nil pass0 (pa_cons (pv 0) pa_nil)))
    (pss_cons (ps_if (pt_cmpR op_eq (pv 4) pe_str (nomark _)) (pss_one (ps_ret (pv 4))) pss_nil)
    (pss_cons (ps_if (pt_cmpR op_eq (pv 4) pe_str (nomark _)) (pss_cons (ps_dput hu (pv 0) pe_str (pe_op op_cat (pe_dget hu (pv 0) pe_str (fun _ _ => rfl)) (pe_lst (pa_cons (pe_tup (pa_cons (pv 1) (pa_cons (pe_dget hu (pv 0) pe_str (fun _ _ => rfl)) (pa_cons pe_str pa_nil)))) pa_nil))) rfl)
    (pss_one (ps_set (i := 3) scLseen.nd rfl (.inl rfl) (pe_dget hu (pv 0) pe_str (fun _ _ => rfl))))) pss_nil)
    (pss_cons (ps_if (pt_cmpR op_eq (pe_dget hu (pv 0) pe_str (fun _ _ => rfl)) pe_int (nomark _)) (pss_one (ps_dput hu (pv 0) pe_str (pe_op op_cat (pe_dget hu (pv 0) pe_str (fun _ _ => rfl)) (pe_lst (pa_cons (pe_tup (pa_cons (pv 1) (pa_cons (pe_dget hu (pv 0) pe_str (fun _ _ => rfl)) (pa_cons pe_str pa_nil)))) pa_nil))) rfl)) pss_nil)
    (pss_cons (ps_if (pt_cmpR op_in_seq (pe_dget hu (pv 0) pe_str (fun _ _ => rfl)) (pe_lst (pa_cons pe_int (pa_cons pe_int pa_nil))) (by rfl)) (pss_one (ps_expr (pe_call L_clo.G (hr.mono (by decide)) (by rfl) L_clo.g L_clo.kp L_clo.b .nil pass0 (pa_cons (pv 0) (pa_cons (pe_dget hu (pe_disp (pps_cons pe_int pe_str (pps_cons pe_int pe_str pps_nil)) rfl rfl (by intro h; cases h) (by decide)) (pe_dget hu (pv 0) pe_str (fun _ _ => rfl)) (fun _ _ => rfl)) pa_nil))))) pss_nil)
    (pss_cons (ps_set (i := 5) scLseen.nd rfl (.inl rfl) (pe_op op_sub (pe_dget hu (pv 0) pe_str (fun _ _ => rfl)) (pv 2)))
    (pss_cons (ps_expr (pe_bm PySem.F.plainAttrs_list PySem.F.slot_list_append PySem.F.type_list_append mt_append (pe_dget hu (pv 0) pe_str (fun _ _ => rfl)) (pa_cons (pe_tup (pa_cons (pv 2) (pa_cons (pv 4) (pa_cons (pv 1) pa_nil)))) pa_nil)))
    (pss_cons (ps_dput hu (pv 0) pe_str (pe_op op_add (pe_dget hu (pv 0) pe_str (fun _ _ => rfl)) pe_int) rfl)
    (pss_cons (ps_dput hu (pe_dget hu (pv 0) pe_str (fun _ _ => rfl)) (pv 3) (pe_op op_add (pe_dget2 hu (pe_dget hu (pv 0) pe_str (fun _ _ => rfl)) (pv 3) pe_int ⟨rfl, rfl, rfl, rfl⟩) (pv 5)) rfl)
    (pss_cons (ps_if (pt_cmpR op_eq (pv 4) pe_str (nomark _)) (pss_cons (ps_asg (pe_dget2 hu (pe_dget hu (pv 0) pe_str (fun _ _ => rfl)) (pv 1) (pe_tup (pa_cons pe_int (pa_cons pe_int pa_nil))) ⟨rfl, rfl, rfl, rfl⟩) (pg_tup rfl (pgs_cons (pg_name (i := 6) scLseen.nd rfl (.inl rfl)) (pgs_cons (pg_name (i := 7) scLseen.nd rfl (.inl rfl)) pgs_nil))))
    (pss_one (ps_dput hu (pe_dget hu (pv 0) pe_str (fun _ _ => rfl)) (pv 1) (pe_tup (pa_cons (pe_op op_add (pv 6) pe_int) (pa_cons (pe_op op_add (pv 7) (pv 5)) pa_nil))) rfl))) pss_nil)
    (pss_one (ps_ret (pv 4)))))))))))))), ?_⟩
  have L := M.w
  have O := M.o
  obtain ⟨sv, hd, hz⟩ := L.hd
  have hrl : oe.rows.length ≤ 100000 := by rw [M.rows]; have := N.r; omega
  refine ⟨_, rfl, d, _, rfl, dg (k := Sum.inr "pc") hd oG_pc, _, rfl, d, _, rfl, dg (k := Sum.inr "beat") hd oG_beat, _, rfl, d, oa, oe, x.b, rfl, L, hrl, fun G2 s2 => ⟨_, _, _, rfl, ?_⟩⟩
  have L2 := L.same s2
  refine ⟨_, rfl, d, oa, oe, x.b, rfl, L2, O, fun G3 oa3 F3 L3 => ?_⟩
  have F3 := (Fr.of_same s2).trans F3
  clear s2 L2 hd hz
  have O3 := O.turn
  have efT : follT x = followR (turnM x.b).1 (didV x.b) x.b.pc (turnM x.b).2.pc oe.rows oe.strays := by rw [M.rows, M.st]; rfl
  have etT : toT x = innerM (if (turnM x.b).1 = "interrupt" then (follT x).1 else oe.rows) := by rw [M.rows]; rfl
  have e0 : noteTM x = ((turnM x.b).1, if (turnM x.b).1 = "stopped" then { x with b := (turnM x.b).2, n := x.n + 1 } else passedM x) := rfl
  rw [e0] at k
  have eps : passedM x = { b := (turnM x.b).2, rows := (follT x).1, strays := (follT x).2, hist := (noteHR x.b.beat (turnM x.b).1 x.b.pc x.hist x.faded).1, faded := (noteHR x.b.beat (turnM x.b).1 x.b.pc x.hist x.faded).2, deeds := deedsR (turnM x.b).1 x.b.pc ((turnM x.b).2.beat - x.b.beat) x.deeds, spent := putA x.spent (toT x) (getA x.spent (toT x) 0 + ((turnM x.b).2.beat - x.b.beat)), idle := idleR (turnM x.b).1 ((turnM x.b).2.beat - x.b.beat) x.idle, peeked := x.peeked, gone := x.gone + 1, n := x.n + 1 } := rfl
  rw [eps] at k
  clear e0 eps
  have esort := turn_sort x.b
  have eopd := @deed_op x.b
  have eopv : opV x.b = if (turnM x.b).1 = "deed" then .int (opM x.b : Int) else .non := rfl
  have edid : didV x.b = if (turnM x.b).1 = "deed" then .str (nmOf (opM x.b)) else .non := rfl
  generalize (turnM x.b).2 = y at *
  generalize (turnM x.b).1 = so at *
  generalize opV x.b = ov at *
  refine ⟨_, rfl, rfl, _, rfl, ifB (fun h => ?_) (fun h => ?_)⟩
  · have h := V.str.inj (of_decide_eq_true h)
    rw [if_pos h] at k
    refine ⟨_, rfl, k G3 oa3 _ F3 ⟨L3, O3, M.rows, M.st, M.sp, M.de, M.pk, M.gn, (by have := M.rg; show oe.ring.length ≤ x.n + 1; omega)⟩ rfl rfl (by rw [if_pos h])⟩
  have hns : ¬ so = "stopped" := fun z => of_decide_eq_false h (congrArg V.str z)
  rw [if_neg hns] at k
  clear h
  apply joinI (I := fun G i => i = toT x ∧ ∃ oa4, Fr (FtO d oa) H (FtO d oa4) G ∧ Ow G d oa4 { oe with ov := ov, tu := touT x.b, rows := (follT x).1, strays := (follT x).2 } y)
  case body =>
    intro kk
    obtain ⟨sv3, hd3, hz3⟩ := L3.hd
    have esort2 := esort
    rcases esort2 with es | es | es | es
    · exact absurd es hns
    · have hnd : ¬ so = "deed" := by rw [es]; decide +kernel
      have hni : ¬ so = "interrupt" := by rw [es]; decide +kernel
      have eopv : ov = .non := by rw [eopv, if_neg hnd]
      have efT : follT x = (oe.rows, oe.strays) := by rw [efT, edid, if_neg hnd, es, follow_no]
      have etT : toT x = innerM oe.rows := by rw [etT, if_neg hni]
      refine ⟨_, rfl, rfl, _, rfl, ifB (fun h => absurd (V.str.inj (of_decide_eq_true h)) hni) (fun _ => ?_)⟩
      refine ⟨_, rfl, d, _, rfl, dg (k := Sum.inr "op") (v := .non) hd3 (oG_op.trans (congrArg some eopv)), rfl, _, rfl, ifB (fun h => by cases of_decide_eq_true h) (fun _ => ?_)⟩
      refine ⟨_, rfl, d, _, rfl, dg (k := Sum.inr "op") (v := .non) hd3 (oG_op.trans (congrArg some eopv)), (by show 2 ≤ sizeLine; decide), fun l8 n8 => ?_⟩
      have r8 := same_upd' (o := .lst [V.int 16, V.int 21]) n8
      have h8 : upd G3 l8 (.lst [V.int 16, V.int 21]) l8 = some (.lst (([16, 21] : List Int).map V.int)) := upd_same
      have L3 := L3.same r8
      have F3 := F3.trans (Fr.of_same r8)
      generalize upd G3 l8 (.lst [V.int 16, V.int 21]) = G8 at *
      refine ⟨l8, _, rfl, .inl (SqL.of h8), rfl, flat_ints _, _, rfl, ?_⟩
      rw [if_neg Bool.false_ne_true, (show inV V.non (([16, 21] : List Int).map V.int) = false from by kernel_rfl)]
      refine ifB (fun h => by cases h) (fun _ => ?_)
      obtain ⟨inn, hinn⟩ : ∃ i, i = innerM oe.rows := ⟨_, rfl⟩
      rw [← hinn]
      refine kk G8 inn ⟨hinn.trans etT.symm, _, F3, ?_⟩
      rw [efT]
      exact L3
    · have hnd : ¬ so = "deed" := by rw [es]; decide +kernel
      have eopv : ov = .non := by rw [eopv, if_neg hnd]
      have efT : follT x = (oe.rows ++ [(x.b.pc, y.pc, ("interrupt" : Str))], oe.strays) := by rw [efT, es, follow_int]
      have etT : toT x = y.pc := by
        rw [etT, if_pos es, efT]
        unfold innerM
        rw [List.getLast?_concat]
      refine ⟨_, rfl, rfl, _, rfl, ifB (fun _ => ?_) (fun h => absurd (congrArg V.str es) (of_decide_eq_false h))⟩
      obtain ⟨us3, hf3, hu3⟩ := L3.hf
      refine ⟨_, rfl, d, _, rfl, dg (k := Sum.inr "frames") hd3 oG_frames, _, rfl, _, rfl, d, _, rfl, dg (k := Sum.inr "pc") hd3 oG_pc, (by show 3 ≤ sizeLine; decide), fun t4 nt4 => ?_⟩
      have r4 := same_upd' (o := .tup [V.int x.b.pc, V.int y.pc, V.str "interrupt"]) nt4
      have h4 : upd G3 t4 (.tup [V.int x.b.pc, V.int y.pc, V.str "interrupt"]) t4 = some (.tup [V.int x.b.pc, V.int y.pc, V.str "interrupt"]) := upd_same
      have hf4 := r4 _ _ hf3
      have hu4 := hu3.mono (fun t xs e => r4 _ _ e)
      have s4 := r4
      generalize upd G3 t4 (.tup [V.int x.b.pc, V.int y.pc, V.str "interrupt"]) = G4 at *
      refine ⟨(by show 1 ≤ sizeLine; decide), fun l5 n5 => ?_⟩
      have r5 := same_upd' (o := .lst [V.ref t4]) n5
      have h5 : upd G4 l5 (.lst [V.ref t4]) l5 = some (.lst [V.ref t4]) := upd_same
      have hf5 := r5 _ _ hf4
      have hu5 := hu4.mono (fun t xs e => r5 _ _ e)
      have h45 := r5 _ _ h4
      have s5 := s4.trans r5
      generalize upd G4 l5 (.lst [V.ref t4]) = G5 at *
      refine ⟨oa3.fl, l5, _, _, rfl, rfl, hf5, h5, (by rw [hu3.len]; exact Nat.le_trans (Nat.add_le_add_right hrl 1) (by decide)), fun l6 n6 => ?_⟩
      have r6 := same_upd' (o := .lst (us3 ++ [V.ref t4])) n6
      have h6 : upd G5 l6 (.lst (us3 ++ [V.ref t4])) l6 = some (.lst (us3 ++ [V.ref t4])) := upd_same
      have hu6 : T3At (upd G5 l6 (.lst (us3 ++ [V.ref t4]))) (us3 ++ [V.ref t4]) (oe.rows ++ [(x.b.pc, y.pc, ("interrupt" : Str))]) := (T3At.snoc (u := (x.b.pc, y.pc, ("interrupt" : Str))) h45 hu5).mono (fun t xs e => r6 _ _ e)
      have s6 := s5.trans r6
      have n6' := s5.free n6
      have L6 := L3.same s6
      have hd6 := s6 _ _ hd3
      have hz6 := hz3.mono (fun t xs e => s6 _ _ e)
      have nlO : ¬ FtO d oa3 l6 := fun z => by
        obtain ⟨o, e, _⟩ := L3.solid l6 z
        rw [n6'] at e; cases e
      generalize upd G5 l6 (.lst (us3 ++ [V.ref t4])) = G6 at *
      refine ⟨_, rfl, d, _, rfl, dpO (k := Sum.inr "frames") hd6 oP_frames, ?_⟩
      have L7 := L6.frm hz6 h6 hu6 nlO
      have F7 : Fr (FtO d oa) H (FtO d { oa3 with fl := l6 }) (upd G6 d (.dK (owD { oa3 with fl := l6 } { oe with ov := ov, tu := touT x.b } y sv3))) := F3.trans (Fr.frm (fun b q n e => by rw [upd_ne n]; exact s6 _ _ e) n6')
      clear L6 hd6 hz6 h6 hu6 hf5 hu5 h5 hf4 hu4 h4 s4 r4 r5 r6 s5
      generalize upd G6 d (.dK (owD { oa3 with fl := l6 } { oe with ov := ov, tu := touT x.b } y sv3)) = G7 at *
      obtain ⟨sv7, hd7, hz7⟩ := L7.hd
      refine ⟨_, rfl, d, _, rfl, dg (k := Sum.inr "pc") hd7 oG_pc, ?_⟩
      refine ⟨_, rfl, d, _, rfl, dg (k := Sum.inr "op") (v := .non) hd7 (oG_op.trans (congrArg some eopv)), rfl, _, rfl, ifB (fun h => by cases of_decide_eq_true h) (fun _ => ?_)⟩
      refine ⟨_, rfl, d, _, rfl, dg (k := Sum.inr "op") (v := .non) hd7 (oG_op.trans (congrArg some eopv)), (by show 2 ≤ sizeLine; decide), fun l8 n8 => ?_⟩
      have r8 := same_upd' (o := .lst [V.int 16, V.int 21]) n8
      have h8 : upd G7 l8 (.lst [V.int 16, V.int 21]) l8 = some (.lst (([16, 21] : List Int).map V.int)) := upd_same
      have L7 := L7.same r8
      have F7 := F7.trans (Fr.of_same r8)
      generalize upd G7 l8 (.lst [V.int 16, V.int 21]) = G8 at *
      refine ⟨l8, _, rfl, .inl (SqL.of h8), rfl, flat_ints _, _, rfl, ?_⟩
      rw [if_neg Bool.false_ne_true, (show inV V.non (([16, 21] : List Int).map V.int) = false from by kernel_rfl)]
      refine ifB (fun h => by cases h) (fun _ => ?_)
      obtain ⟨inn, hinn⟩ : ∃ i, i = y.pc := ⟨_, rfl⟩
      rw [← hinn]
      refine kk G8 inn ⟨hinn.trans etT.symm, _, F7, ?_⟩
      rw [efT]
      exact L7
    · have hni : ¬ so = "interrupt" := by rw [es]; decide +kernel
      have eopv : ov = .int (opM x.b : Int) := by rw [eopv, if_pos es]
      have o23 := eopd es
      have efT := efT
      rw [edid, if_pos es, es, follow_op o23] at efT
      have etT : toT x = innerM oe.rows := by rw [etT, if_neg hni]
      refine ⟨_, rfl, rfl, _, rfl, ifB (fun h => absurd (V.str.inj (of_decide_eq_true h)) hni) (fun _ => ?_)⟩
      obtain ⟨op, hop0⟩ : ∃ op, op = opM x.b := ⟨_, rfl⟩
      rw [← hop0] at eopv efT o23
      obtain ⟨inn, hinn⟩ : ∃ i, i = innerM oe.rows := ⟨_, rfl⟩
      rw [← hinn] at etT ⊢
      by_cases c15 : op = 15
      · rw [if_pos c15] at efT
        refine ⟨_, rfl, d, _, rfl, dg (k := Sum.inr "op") (v := .int (op : Int)) hd3 (oG_op.trans (congrArg some eopv)), rfl, _, rfl, ifB (fun _ => ?_) (fun h => absurd (show V.int (op : Int) = V.int 15 by rw [c15]; rfl) (of_decide_eq_false h))⟩
        obtain ⟨us3, hf3, hu3⟩ := L3.hf
        refine ⟨_, rfl, d, _, rfl, dg (k := Sum.inr "frames") hd3 oG_frames, _, rfl, _, rfl, d, _, rfl, dg (k := Sum.inr "pc") hd3 oG_pc, (by show 3 ≤ sizeLine; decide), fun t4 nt4 => ?_⟩
        have r4 := same_upd' (o := .tup [V.int x.b.pc, V.int y.pc, V.str "call"]) nt4
        have h4 : upd G3 t4 (.tup [V.int x.b.pc, V.int y.pc, V.str "call"]) t4 = some (.tup [V.int x.b.pc, V.int y.pc, V.str "call"]) := upd_same
        have hf4 := r4 _ _ hf3
        have hu4 := hu3.mono (fun t xs e => r4 _ _ e)
        have s4 := r4
        generalize upd G3 t4 (.tup [V.int x.b.pc, V.int y.pc, V.str "call"]) = G4 at *
        refine ⟨(by show 1 ≤ sizeLine; decide), fun l5 n5 => ?_⟩
        have r5 := same_upd' (o := .lst [V.ref t4]) n5
        have h5 : upd G4 l5 (.lst [V.ref t4]) l5 = some (.lst [V.ref t4]) := upd_same
        have hf5 := r5 _ _ hf4
        have hu5 := hu4.mono (fun t xs e => r5 _ _ e)
        have h45 := r5 _ _ h4
        have s5 := s4.trans r5
        generalize upd G4 l5 (.lst [V.ref t4]) = G5 at *
        refine ⟨oa3.fl, l5, _, _, rfl, rfl, hf5, h5, (by rw [hu3.len]; exact Nat.le_trans (Nat.add_le_add_right hrl 1) (by decide)), fun l6 n6 => ?_⟩
        have r6 := same_upd' (o := .lst (us3 ++ [V.ref t4])) n6
        have h6 : upd G5 l6 (.lst (us3 ++ [V.ref t4])) l6 = some (.lst (us3 ++ [V.ref t4])) := upd_same
        have hu6 : T3At (upd G5 l6 (.lst (us3 ++ [V.ref t4]))) (us3 ++ [V.ref t4]) (oe.rows ++ [(x.b.pc, y.pc, ("call" : Str))]) := (T3At.snoc (u := (x.b.pc, y.pc, ("call" : Str))) h45 hu5).mono (fun t xs e => r6 _ _ e)
        have s6 := s5.trans r6
        have n6' := s5.free n6
        have L6 := L3.same s6
        have hd6 := s6 _ _ hd3
        have hz6 := hz3.mono (fun t xs e => s6 _ _ e)
        have nlO : ¬ FtO d oa3 l6 := fun z => by
          obtain ⟨o, e, _⟩ := L3.solid l6 z
          rw [n6'] at e; cases e
        generalize upd G5 l6 (.lst (us3 ++ [V.ref t4])) = G6 at *
        refine ⟨_, rfl, d, _, rfl, dpO (k := Sum.inr "frames") hd6 oP_frames, ?_⟩
        have L7 := L6.frm hz6 h6 hu6 nlO
        have F7 : Fr (FtO d oa) H (FtO d { oa3 with fl := l6 }) (upd G6 d (.dK (owD { oa3 with fl := l6 } { oe with ov := ov, tu := touT x.b } y sv3))) := F3.trans (Fr.frm (fun b q n e => by rw [upd_ne n]; exact s6 _ _ e) n6')
        clear L6 hd6 hz6 h6 hu6 hf5 hu5 h5 hf4 hu4 h4 s4 r4 r5 r6 s5
        generalize upd G6 d (.dK (owD { oa3 with fl := l6 } { oe with ov := ov, tu := touT x.b } y sv3)) = G7 at *
        obtain ⟨sv7, hd7, hz7⟩ := L7.hd
        refine ⟨_, rfl, d, _, rfl, dg (k := Sum.inr "op") (v := (.int (op : Int))) hd7 (oG_op.trans (congrArg some eopv)), (by show 2 ≤ sizeLine; decide), fun l8 n8 => ?_⟩
        have r8 := same_upd' (o := .lst [V.int 16, V.int 21]) n8
        have h8 : upd G7 l8 (.lst [V.int 16, V.int 21]) l8 = some (.lst (([16, 21] : List Int).map V.int)) := upd_same
        have L7 := L7.same r8
        have F7 := F7.trans (Fr.of_same r8)
        generalize upd G7 l8 (.lst [V.int 16, V.int 21]) = G8 at *
        refine ⟨l8, _, rfl, .inl (SqL.of h8), rfl, flat_ints _, _, rfl, ?_⟩
        rw [if_neg Bool.false_ne_true, in_ints]
        refine ifB (fun h => absurd (of_decide_eq_true h) (by rw [c15]; decide)) (fun _ => ?_)
        refine kk G8 inn ⟨etT.symm, _, F7, ?_⟩
        rw [efT]
        exact L7
      · rw [if_neg c15] at efT
        refine ⟨_, rfl, d, _, rfl, dg (k := Sum.inr "op") (v := .int (op : Int)) hd3 (oG_op.trans (congrArg some eopv)), rfl, _, rfl, ifB (fun h => absurd (V.int.inj (of_decide_eq_true h)) (by omega)) (fun _ => ?_)⟩
        refine ⟨_, rfl, d, _, rfl, dg (k := Sum.inr "op") (v := (.int (op : Int))) hd3 (oG_op.trans (congrArg some eopv)), (by show 2 ≤ sizeLine; decide), fun l8 n8 => ?_⟩
        have r8 := same_upd' (o := .lst [V.int 16, V.int 21]) n8
        have h8 : upd G3 l8 (.lst [V.int 16, V.int 21]) l8 = some (.lst (([16, 21] : List Int).map V.int)) := upd_same
        have L3 := L3.same r8
        have F3 := F3.trans (Fr.of_same r8)
        have hd3 := r8 _ _ hd3
        generalize upd G3 l8 (.lst [V.int 16, V.int 21]) = G8 at *
        refine ⟨l8, _, rfl, .inl (SqL.of h8), rfl, flat_ints _, _, rfl, ?_⟩
        rw [if_neg Bool.false_ne_true, in_ints]
        refine ifB (fun h => ?_) (fun h => ?_)
        · have h := of_decide_eq_true h
          have hop : op = 16 ∨ op = 21 := by
            simp only [List.mem_cons, List.not_mem_nil, or_false] at h
            omega
          refine ⟨_, rfl, ?_⟩
          intro g1 ng1
          generalize eU : ([((Sum.inl 16 : Key), V.str "call"), (Sum.inl 21, .str "interrupt")] : List (Key × V)) = U
          have hU : mergeK [] U = U := by rw [← eU]; kernel_rfl
          refine ⟨upd_same, U, (by rw [← eU]; rfl), (by rw [← eU]; show 2 ≤ 15; decide), ?_⟩
          rw [hU, upd_upd]
          have r9 := same_upd' (o := .dK U) ng1
          have hU9 : upd G8 g1 (.dK U) g1 = some (.dK U) := upd_same
          have hd9 := r9 _ _ hd3
          have L9 := L3.same r9
          have F9 := F3.trans (Fr.of_same r9)
          generalize upd G8 g1 (.dK U) = G9 at *
          obtain ⟨kw, hkw, ekw⟩ : ∃ kw : Str, valV U (Sum.inl (op : Int)) = some (.str kw) ∧ follT x = backR kw oe.rows oe.strays := by
            rcases hop with e | e
            · exact ⟨"call", by rw [← eU, e]; kernel_rfl, by rw [efT, if_pos e]⟩
            · exact ⟨"interrupt", by rw [← eU, e]; kernel_rfl, by rw [efT, if_neg (by rw [e]; decide), if_pos e]⟩
          refine ⟨_, rfl, d, _, rfl, dg (k := Sum.inr "op") (v := .int (op : Int)) hd9 (oG_op.trans (congrArg some eopv)), g1, _, rfl, dg (k := Sum.inl (op : Int)) hU9 hkw, ?_⟩
          refine ⟨d, oa3, _, y, kw, rfl, L9, hrl, fun G10 l10 F10 L10 => ?_⟩
          refine kk G10 inn ⟨etT.symm, _, F9.trans F10, ?_⟩
          rw [ekw]
          exact L10
        · have h := of_decide_eq_false h
          have n16 : ¬ op = 16 := fun z => h (by rw [z]; decide)
          have n21 : ¬ op = 21 := fun z => h (by rw [z]; decide)
          rw [if_neg n16, if_neg n21] at efT
          refine kk G8 inn ⟨etT.symm, _, F3, ?_⟩
          rw [efT]
          exact L3
  case key =>
  rintro G4 inn ⟨rfl, oa4, F4, L4⟩
  obtain ⟨sv4, hd4, hz4⟩ := L4.hd
  obtain ⟨hs, hr4, hh4⟩ := L4.hr
  refine ⟨_, rfl, d, _, rfl, dg (k := Sum.inr "beat") hd4 oG_beat, _, rfl, _, _, rfl, rfl, ?_⟩
  refine ⟨_, rfl, d, _, rfl, dg (k := Sum.inr "ring") hd4 oG_ring, .inl ⟨rfl, _, SqL.of hr4⟩, _, rfl, _, rfl, _, rfl, (by show 3 ≤ sizeLine; decide), fun t5 nt5 => ?_⟩
  have r5 := same_upd' (o := .tup [V.int x.b.beat, V.str so, V.int x.b.pc]) nt5
  have h5 : upd G4 t5 (.tup [V.int x.b.beat, V.str so, V.int x.b.pc]) t5 = some (.tup [V.int x.b.beat, V.str so, V.int x.b.pc]) := upd_same
  have L5 := L4.same r5
  have F5 := F4.trans (Fr.of_same r5)
  have hr5 := r5 _ _ hr4
  have hh5 := hh4.mono (fun t xs e => r5 _ _ e)
  generalize upd G4 t5 (.tup [V.int x.b.beat, V.str so, V.int x.b.pc]) = G5 at *
  refine ⟨oa4.rg, hs, _, rfl, rfl, hr5, (by rw [hh5.len]; exact Nat.lt_of_le_of_lt M.rg (Nat.lt_trans hn (by decide))), ?_⟩
  have L6 := L5.addRing (u := (x.b.beat, so, x.b.pc)) hr5 hh5 h5
  have F6 := F5.trans (Fr.at_ (oa := oa4) (i := 5) (o := .lst (hs ++ [V.ref t5])) rfl)
  clear L5 F5 L4 F4 hr5 hh5 hr4 hh4 h5 r5 hd4 hz4
  generalize upd G5 oa4.rg (.lst (hs ++ [V.ref t5])) = G6 at *
  obtain ⟨sv6, hd6, hz6⟩ := L6.hd
  refine ⟨_, rfl, d, _, rfl, dg (k := Sum.inr "gone") hd6 oG_gone, _, _, rfl, rfl, _, rfl, d, _, rfl, dpO (k := Sum.inr "gone") hd6 oP_gone, ?_⟩
  have L7 := L6.ext (oe' := { oe with ov := ov, tu := touT x.b, rows := (follT x).1, strays := (follT x).2, ring := oe.ring ++ [(x.b.beat, so, x.b.pc)], gone := oe.gone + 1 }) hz6 rfl rfl rfl rfl rfl rfl rfl
  have F7 := F6.trans (Fr.at_ (oa := oa4) (i := 0) (o := .dK (owD oa4 { oe with ov := ov, tu := touT x.b, rows := (follT x).1, strays := (follT x).2, ring := oe.ring ++ [(x.b.beat, so, x.b.pc)], gone := oe.gone + 1 } y sv6)) rfl)
  clear L6 F6 hd6 hz6
  generalize upd G6 d (.dK (owD oa4 { oe with ov := ov, tu := touT x.b, rows := (follT x).1, strays := (follT x).2, ring := oe.ring ++ [(x.b.beat, so, x.b.pc)], gone := oe.gone + 1 } y sv6)) = G7 at *
  obtain ⟨sv7, hd7, hz7⟩ := L7.hd
  have hi7 := L7.hi
  refine ⟨_, rfl, d, _, rfl, dg (k := Sum.inr "inside") hd7 oG_inside, oa4.ins, rfl, .inl ⟨_, .inl hi7⟩, _, rfl, _, DGet.k (k := Sum.inl (toT x)) hi7, ?_⟩
  rw [spD_get]
  refine ⟨_, rfl, _, _, rfl, rfl, _, rfl, d, _, rfl, dg (k := Sum.inr "inside") hd7 oG_inside, _, rfl, oa4.ins, _, rfl, DPut.k (k := Sum.inl (toT x)) hi7 (by rw [spD_len]; show oe.spent.length < _; rw [M.sp]; exact Nat.lt_of_le_of_lt N.t (Nat.lt_trans hn (by decide))), ?_⟩
  rw [spD_put]
  have L8 := L7.putIns (sp := putA oe.spent (toT x) (getA oe.spent (toT x) 0 + (y.beat - x.b.beat)))
  have F8 := F7.trans (Fr.at_ (oa := oa4) (i := 6) (o := .dK (spD (putA oe.spent (toT x) (getA oe.spent (toT x) 0 + (y.beat - x.b.beat))))) rfl)
  clear L7 F7 hd7 hz7 hi7
  generalize upd G7 oa4.ins (.dK (spD (putA oe.spent (toT x) (getA oe.spent (toT x) 0 + (y.beat - x.b.beat))))) = G8 at *
  obtain ⟨sv8, hd8, hz8⟩ := L8.hd
  have fin : ∀ G9 ds, Fr (FtO d oa) H (FtO d oa4) G9 → ds = deedsR so x.b.pc (y.beat - x.b.beat) x.deeds → Ow G9 d oa4 { oe with ov := ov, tu := touT x.b, rows := (follT x).1, strays := (follT x).2, ring := oe.ring ++ [(x.b.beat, so, x.b.pc)], gone := oe.gone + 1, spent := putA oe.spent (toT x) (getA oe.spent (toT x) 0 + (y.beat - x.b.beat)), deeds := ds } y → Q (.str so) G9 := fun G9 ds F9 eds L9 => k G9 oa4 _ F9 ⟨L9, O3, rfl, rfl, (by rw [M.sp]), eds, M.pk, (by show oe.gone + 1 = x.gone + 1; rw [M.gn]), (by show (oe.ring ++ [_]).length ≤ x.n + 1; rw [List.length_append]; have := M.rg; show oe.ring.length + 1 ≤ _; omega)⟩ rfl rfl (by rw [if_neg hns])
  refine ⟨_, rfl, rfl, _, rfl, ifB (fun h => ?_) (fun h => ?_)⟩
  · have h := V.str.inj (of_decide_eq_true h)
    obtain ⟨kd, hh8, hdd8⟩ := L8.hh
    refine ⟨_, rfl, d, _, rfl, dg (k := Sum.inr "there") hd8 oG_there, oa4.th, rfl, .inl ⟨_, .inl hh8⟩, _, rfl, (by show 2 ≤ sizeLine; decide), fun t9 nt9 => ?_⟩
    have r9 := same_upd' (o := .tup [V.int 0, V.int 0]) nt9
    have h9 : upd G8 t9 (.tup [V.int 0, V.int 0]) t9 = some (.tup [V.int 0, V.int 0]) := upd_same
    have L9 := L8.same r9
    have F9 := F8.trans (Fr.of_same r9)
    have hh9 := r9 _ _ hh8
    have hdd9 := hdd8.mono (fun t xs e => r9 _ _ e)
    generalize upd G8 t9 (.tup [V.int 0, V.int 0]) = G9 at *
    obtain ⟨tq, eq, hq⟩ : ∃ tq, (valV kd (Sum.inl x.b.pc)).getD (V.ref t9) = V.ref tq ∧ G9 tq = some (.tup [.int (getA oe.deeds x.b.pc (0, 0)).1, .int (getA oe.deeds x.b.pc (0, 0)).2]) := by
      rcases hdd9.get x.b.pc with ⟨e1, e2⟩ | ⟨t, e1, e2⟩
      · have e2 : getA oe.deeds x.b.pc (0, 0) = (0, 0) := e2
        exact ⟨t9, by rw [e1]; rfl, by rw [e2]; exact h9⟩
      · exact ⟨t, by rw [e1]; rfl, e2⟩
    refine ⟨_, DGet.k (k := Sum.inl x.b.pc) hh9, ?_⟩
    rw [eq]
    refine ⟨tq, _, rfl, SqT.of hq, rfl, _, _, rfl, _, _, rfl, rfl, ?_⟩
    refine ⟨_, rfl, _, _, rfl, rfl, _, rfl, _, rfl, _, _, rfl, rfl, (by show 2 ≤ sizeLine; decide), fun t10 nt10 => ?_⟩
    have r10 := same_upd' (o := .tup [V.int ((getA oe.deeds x.b.pc (0, 0)).1 + 1), V.int ((getA oe.deeds x.b.pc (0, 0)).2 + (y.beat - x.b.beat))]) nt10
    have h10 : upd G9 t10 (.tup [V.int ((getA oe.deeds x.b.pc (0, 0)).1 + 1), V.int ((getA oe.deeds x.b.pc (0, 0)).2 + (y.beat - x.b.beat))]) t10 = some (.tup [V.int ((getA oe.deeds x.b.pc (0, 0)).1 + 1), V.int ((getA oe.deeds x.b.pc (0, 0)).2 + (y.beat - x.b.beat))]) := upd_same
    have L10 := L9.same r10
    have F10 := F9.trans (Fr.of_same r10)
    have hh10 := r10 _ _ hh9
    have hdd10 := hdd9.mono (fun t xs e => r10 _ _ e)
    generalize upd G9 t10 (.tup [V.int ((getA oe.deeds x.b.pc (0, 0)).1 + 1), V.int ((getA oe.deeds x.b.pc (0, 0)).2 + (y.beat - x.b.beat))]) = G10 at *
    obtain ⟨sv10, hd10, hz10⟩ := L10.hd
    refine ⟨_, rfl, d, _, rfl, dg (k := Sum.inr "there") hd10 oG_there, _, rfl, oa4.th, _, rfl, DPut.k (k := Sum.inl x.b.pc) hh10 (by rw [hdd10.len]; show oe.deeds.length < _; rw [M.de]; exact Nat.lt_of_le_of_lt N.d (Nat.lt_trans hn (by decide))), ?_⟩
    have hdd11 : DdAt G10 (putK kd (Sum.inl x.b.pc) (.ref t10)) (putA oe.deeds x.b.pc ((getA oe.deeds x.b.pc (0, 0)).1 + 1, (getA oe.deeds x.b.pc (0, 0)).2 + (y.beat - x.b.beat))) := DdAt.put h10 hdd10
    refine ⟨_, rfl, fin _ _ (F10.trans (Fr.at_ (oa := oa4) (i := 7) rfl)) ?_ (L10.putTh hdd11)⟩
    rw [M.de]
    unfold deedsR
    rw [if_pos h]
  · have h : ¬ so = "deed" := fun z => of_decide_eq_false h (congrArg V.str z)
    refine ⟨_, rfl, fin _ _ F8 ?_ L8⟩
    show oe.deeds = _
    rw [M.de]
    unfold deedsR
    rw [if_neg h]
end
end Bh

/-! The law's own board: made; held against the probe. -/
namespace Bh
open PySem PySem.Spec PyProof.Rows L2
theorem tups_refs {H : Hp} : ∀ {us : List V} {ls : List (Int × Int)}, TupsAt H us ls → ∃ ps : List Addr, us = ps.map V.ref
  | _, _, .nil => ⟨[], rfl⟩
  | _, _, .cons h r => by
    obtain ⟨t, e, _⟩ := h
    obtain ⟨ps, e2⟩ := tups_refs r
    exact ⟨t :: ps, by rw [e, e2]; rfl⟩
def kvL (r : Int × Int) : Key × V := (Sum.inl r.1, .int r.2)
theorem tups_paired {K : PySem.W.Frag} {H : Hp} : ∀ {ps : List Addr} {ls : List (Int × Int)}, TupsAt H (ps.map V.ref) ls → Paired (fun p (kv : Key × V) => SqT K H p [kV kv.1, kv.2]) ps (ls.map kvL)
  | [], [], _ => .nil
  | [], _ :: _, h => by cases h
  | _ :: _, [], h => by cases h
  | p :: ps, u :: ls, h => by
    have h : TupsAt H (V.ref p :: ps.map V.ref) (u :: ls) := h
    cases h with
    | cons h r =>
      obtain ⟨t, e, q⟩ := h
      cases e
      exact .cons (SqT.of q) (tups_paired r)
theorem put_new {κ : Type} [DecidableEq κ] {kvs : List (κ × V)} {k : κ} {v : V} (h : ∀ e ∈ kvs, e.1 ≠ k) : putK kvs k v = kvs ++ [(k, v)] := by
  unfold putK
  rw [if_neg]
  intro z
  obtain ⟨e, he, h2⟩ := List.any_eq_true.mp z
  exact h e he (of_decide_eq_true h2)
theorem merge_rise : ∀ (ls : List (Int × Int)) (acc : List (Int × Int)) (n : Int), riseM n ls → (∀ r ∈ acc, r.1 ≤ n) → mergeK (acc.map kvL) (ls.map kvL) = (acc ++ ls).map kvL
  | [], acc, n, _, _ => by rw [List.append_nil]; rfl
  | u :: us, acc, n, ⟨a, b, c, d⟩, h => by
    show mergeK (putK (acc.map kvL) (Sum.inl u.1) (.int u.2)) (us.map kvL) = _
    rw [put_new (fun e he => by
      obtain ⟨r, hr, rfl⟩ := List.mem_map.mp he
      have := h r hr
      intro z
      have z : r.1 = u.1 := Sum.inl.inj z
      omega)]
    have := merge_rise us (acc ++ [u]) u.1 d (fun r hr => by
      rcases List.mem_append.mp hr with q | q
      · have := h r q
        omega
      · rw [List.mem_singleton.mp q]
        exact Int.le_refl _)
    rw [List.map_append] at this
    rw [show ([(Sum.inl u.1, V.int u.2)] : List (Key × V)) = [u].map kvL from rfl, this, List.append_assoc]
    rfl
def spONew : Sp := fun vs H Q _ => ∃ (im l : Addr) (us : List V) (ns : List Int) (ls : List (Int × Int)), vs = [.ref im, .ref l] ∧ H im = some (.lst (ns.map V.int)) ∧ ns.length ≤ 512 ∧ WordsOk ns ∧ H l = some (.lst us) ∧ TupsAt H us ls ∧ riseM 0 ls ∧ ls.length ≤ 1000 ∧
  ∀ H' d oa oe, Same H H' → (∀ b, FtO d oa b → H b = none) → Om H' d oa oe (newP ns ls) → oe.ring = [] → Q (.ref d) H'
section
variable (CB CM CP CK CW CF CH CC CI : Addr)
def spSame : Sp := fun vs H Q _ => ∃ (S : Hp) (F : Addr → Prop) (p d : Addr) (oa : Oa) (oe : Oe) (x : Pm), vs = [.ref p, .ref d] ∧ PrA CB CM CP CK CW CF CH CC CI S H F p x ∧ Om H d oa oe x ∧ ∀ H', Same H H' → Q (.bl true) H'
end
theorem newP_ok {ns : List Int} {ls : List (Int × Int)} (hn : ns.length ≤ 512) (hw : WordsOk ns) (hr : riseM 0 ls) : Ok (newP ns ls).b := ⟨by
    show (memOf ns).length = 774
    unfold memOf
    rw [List.length_append, List.length_append, List.length_replicate, List.length_replicate]
    omega, memOf_ok hw, ⟨Int.le_refl 0, by show (0 : Int) ≤ 65535; decide⟩, ⟨Int.le_refl 0, by show (0 : Int) ≤ 65535; decide⟩, ⟨Int.le_refl 0, by show (0 : Int) ≤ 65535; decide⟩, ln_new hr⟩
section
variable {P : Program} {w : World} {K : PySem.W.Frag} {mg : Str → Option Value} {base : Heap} {CB CM CP CK CW CF CH CC CI CS CO CQ : Addr}
abbrev sLnew : Stmt := topS 105
def scLnewN : List Str := ["_law_image_here", "_law_line_here", "_law_s"]
theorem scLnew : FnScope scLnewN ["_law_image_here", "_law_line_here"] (defScope sLnew) := ⟨rfl, rfl, rfl, by decide +kernel, rfl, by decide +kernel, by decide +kernel⟩
theorem ok_Lnew {f : Addr} {fd : FuncData} (F : Fun K "_law_new" "_law_new" sLnew f fd) (T : Tx K mg CB CM)
    (z_dict : mg "dict" = none) : FnOk P w K mg base CX0 1 f fd ["_law_image_here", "_law_line_here"] (spONew) := by
  refine F.ok scLnew (fun vs H Q E h => by obtain ⟨_, _, _, _, _, rfl, _⟩ := h; rfl) (fun cdv A outer s H vs Q E hr h => ?_)
  have hu := hu_of hr
  have z_len := T.z_len
  have z_list := T.z_list
  obtain ⟨im, l, us, ns, ls, rfl, him, hnl, hw, hl, htu, hri, hls, q⟩ := h
  refine ⟨_, (pss_cons (ps_set (i := 2) scLnew.nd rfl (.inl rfl) (pe_disp (pps_cons pe_str (pe_op op_cat (pe_op op_cat (pe_callTy call_list_of (by rfl) z_list (by decide +kernel) (pa_cons (pv 0) pa_nil)) (pe_op op_rep (pe_lst (pa_cons pe_int pa_nil)) (pe_op op_sub pe_int (pe_callB call_len_seq (by rfl) z_len PySem.boot_len (pa_cons (pv 0) pa_nil))))) (pe_op op_rep (pe_lst (pa_cons pe_int pa_nil)) pe_int)) (pps_cons pe_str (pe_callTy (call_dictP rfl) (by rfl) z_dict (by decide +kernel) (pa_cons (pv 1) pa_nil)) (pps_cons pe_str pe_int (pps_cons pe_str pe_non pps_nil)))) rfl rfl (by intro h; cases h) (by decide)))
    (pss_cons (ps_expr (pe_bm PySem.F.plainAttrs_dict PySem.F.slot_dict_update PySem.F.type_dict_update mtd_update (pv 2) (pa_cons (pe_disp (pps_cons pe_str pe_int (pps_cons pe_str pe_int (pps_cons pe_str pe_int (pps_cons pe_str pe_int (pps_cons pe_str pe_bl (pps_cons pe_str pe_bl (pps_cons pe_str pe_bl (pps_cons pe_str (pe_lst pa_nil) pps_nil)))))))) rfl rfl (by intro h; cases h) (by decide)) pa_nil)))
    (pss_cons (ps_expr (pe_bm PySem.F.plainAttrs_dict PySem.F.slot_dict_update PySem.F.type_dict_update mtd_update (pv 2) (pa_cons (pe_disp (pps_cons pe_str pe_non (pps_cons pe_str (pe_lst pa_nil) (pps_cons pe_str pe_int (pps_cons pe_str (pe_lst pa_nil) (pps_cons pe_str pe_dnewK (pps_cons pe_str pe_dnewK (pps_cons pe_str pe_int (pps_cons pe_str pe_int pps_nil)))))))) rfl rfl (by intro h; cases h) (by decide)) pa_nil)))
    (pss_one (ps_ret (pv 2)))))), ?_⟩
  have s0 : Same H H := Same.refl _
  obtain ⟨ps, eps⟩ := tups_refs htu
  subst eps
  intro d nd
  have r1 := same_upd' (o := .dK []) nd
  have h_d : upd H d (.dK []) d = some (.dK []) := upd_same
  have f_d : H d = none := s0.free nd
  have s1 := s0.trans r1
  have him := r1 _ _ him
  have hl := r1 _ _ hl
  generalize upd H d (.dK []) = G1 at *
  refine ⟨_, rfl, im, _, rfl, .inl (SqL.of him), fun l1 nl1 => ?_⟩
  have r2 := same_upd' (o := .lst (ns.map V.int)) nl1
  have h_l1 : upd G1 l1 (.lst (ns.map V.int)) l1 = some (.lst (ns.map V.int)) := upd_same
  have f_l1 : H l1 = none := s1.free nl1
  have s2 := s1.trans r2
  have him := r2 _ _ him
  have hl := r2 _ _ hl
  have h_d := r2 _ _ h_d
  generalize upd G1 l1 (.lst (ns.map V.int)) = G2 at *
  refine ⟨(by show 1 ≤ sizeLine; decide), fun l2 nl2 => ?_⟩
  have r3 := same_upd' (o := .lst [.int 65535]) nl2
  have h_l2 : upd G2 l2 (.lst [.int 65535]) l2 = some (.lst [.int 65535]) := upd_same
  have f_l2 : H l2 = none := s2.free nl2
  have s3 := s2.trans r3
  have him := r3 _ _ him
  have hl := r3 _ _ hl
  have h_d := r3 _ _ h_d
  have h_l1 := r3 _ _ h_l1
  generalize upd G2 l2 (.lst [.int 65535]) = G3 at *
  refine ⟨_, rfl, im, _, rfl, .inl (SqL.of him), _, _, rfl, rfl, l2, _, _, rfl, rfl, h_l2, ?_, ?_, ?_, fun l3 nl3 => ?_⟩
  · rw [List.length_map]; omega
  · rw [List.length_map]; omega
  · rw [List.length_map, List.length_singleton]; exact hsz (by omega)
  have e2 : (List.replicate (512 - ((ns.map V.int).length : Int)).toNat [V.int 65535]).flatten = (List.replicate (512 - ns.length) (65535 : Int)).map V.int := by
    rw [List.length_map, show (512 - (ns.length : Int)).toNat = 512 - ns.length by omega]
    exact flat_rep _ _
  rw [e2]
  have r4 := same_upd' (o := .lst ((List.replicate (512 - ns.length) (65535 : Int)).map V.int)) nl3
  have h_l3 : upd G3 l3 (.lst ((List.replicate (512 - ns.length) (65535 : Int)).map V.int)) l3 = some (.lst ((List.replicate (512 - ns.length) (65535 : Int)).map V.int)) := upd_same
  have f_l3 : H l3 = none := s3.free nl3
  have s4 := s3.trans r4
  have him := r4 _ _ him
  have hl := r4 _ _ hl
  have h_d := r4 _ _ h_d
  have h_l1 := r4 _ _ h_l1
  have h_l2 := r4 _ _ h_l2
  generalize upd G3 l3 (.lst ((List.replicate (512 - ns.length) (65535 : Int)).map V.int)) = G4 at *
  refine ⟨l1, l3, _, _, rfl, rfl, h_l1, h_l3, ?_, fun l4 nl4 => ?_⟩
  · rw [List.length_map, List.length_map, List.length_replicate]; exact hsz (by omega)
  have r5 := same_upd' (o := .lst (ns.map V.int ++ (List.replicate (512 - ns.length) (65535 : Int)).map V.int)) nl4
  have h_l4 : upd G4 l4 (.lst (ns.map V.int ++ (List.replicate (512 - ns.length) (65535 : Int)).map V.int)) l4 = some (.lst (ns.map V.int ++ (List.replicate (512 - ns.length) (65535 : Int)).map V.int)) := upd_same
  have f_l4 : H l4 = none := s4.free nl4
  have s5 := s4.trans r5
  have him := r5 _ _ him
  have hl := r5 _ _ hl
  have h_d := r5 _ _ h_d
  have h_l1 := r5 _ _ h_l1
  have h_l2 := r5 _ _ h_l2
  have h_l3 := r5 _ _ h_l3
  generalize upd G4 l4 (.lst (ns.map V.int ++ (List.replicate (512 - ns.length) (65535 : Int)).map V.int)) = G5 at *
  refine ⟨(by show 1 ≤ sizeLine; decide), fun l5 nl5 => ?_⟩
  have r6 := same_upd' (o := .lst [.int 0]) nl5
  have h_l5 : upd G5 l5 (.lst [.int 0]) l5 = some (.lst [.int 0]) := upd_same
  have f_l5 : H l5 = none := s5.free nl5
  have s6 := s5.trans r6
  have him := r6 _ _ him
  have hl := r6 _ _ hl
  have h_d := r6 _ _ h_d
  have h_l1 := r6 _ _ h_l1
  have h_l2 := r6 _ _ h_l2
  have h_l3 := r6 _ _ h_l3
  have h_l4 := r6 _ _ h_l4
  generalize upd G5 l5 (.lst [.int 0]) = G6 at *
  refine ⟨l5, _, _, rfl, rfl, h_l5, by decide, by decide, (by show 1 * 262 ≤ sizeLine; decide), fun l6 nl6 => ?_⟩
  have e4 : (List.replicate (262 : Int).toNat [V.int 0]).flatten = (List.replicate 262 (0 : Int)).map V.int := flat_rep 262 0
  rw [e4]
  have r7 := same_upd' (o := .lst ((List.replicate 262 (0 : Int)).map V.int)) nl6
  have h_l6 : upd G6 l6 (.lst ((List.replicate 262 (0 : Int)).map V.int)) l6 = some (.lst ((List.replicate 262 (0 : Int)).map V.int)) := upd_same
  have f_l6 : H l6 = none := s6.free nl6
  have s7 := s6.trans r7
  have him := r7 _ _ him
  have hl := r7 _ _ hl
  have h_d := r7 _ _ h_d
  have h_l1 := r7 _ _ h_l1
  have h_l2 := r7 _ _ h_l2
  have h_l3 := r7 _ _ h_l3
  have h_l4 := r7 _ _ h_l4
  have h_l5 := r7 _ _ h_l5
  generalize upd G6 l6 (.lst ((List.replicate 262 (0 : Int)).map V.int)) = G7 at *
  refine ⟨l4, l6, _, _, rfl, rfl, h_l4, h_l6, ?_, fun m nm => ?_⟩
  · rw [List.length_append, List.length_map, List.length_map, List.length_map, List.length_replicate, List.length_replicate]; exact hsz (by omega)
  have em : ns.map V.int ++ (List.replicate (512 - ns.length) (65535 : Int)).map V.int ++ (List.replicate 262 (0 : Int)).map V.int = (memOf ns).map V.int := by
    unfold memOf
    rw [List.map_append, List.map_append]
  rw [em]
  have e_d_m : d ≠ m := ne_of_none h_d nm
  have r8 := same_upd' (o := .lst ((memOf ns).map V.int)) nm
  have h_m : upd G7 m (.lst ((memOf ns).map V.int)) m = some (.lst ((memOf ns).map V.int)) := upd_same
  have f_m : H m = none := s7.free nm
  have s8 := s7.trans r8
  have him := r8 _ _ him
  have hl := r8 _ _ hl
  have h_d := r8 _ _ h_d
  have h_l1 := r8 _ _ h_l1
  have h_l2 := r8 _ _ h_l2
  have h_l3 := r8 _ _ h_l3
  have h_l4 := r8 _ _ h_l4
  have h_l5 := r8 _ _ h_l5
  have h_l6 := r8 _ _ h_l6
  generalize upd G7 m (.lst ((memOf ns).map V.int)) = G8 at *
  clear h_l1 h_l2 h_l3 h_l4 h_l5 h_l6
  refine ⟨_, rfl, l, ps, ls.map kvL, rfl, SqL.of hl, tups_paired (TupsAt.mono (fun t xs e => s8 _ _ e) htu), fun ln nln => ?_⟩
  have eln : mergeK [] (ls.map kvL) = lnD ls := merge_rise ls [] 0 hri (fun _ h => by cases h)
  rw [eln]
  have e_d_ln : d ≠ ln := ne_of_none h_d nln
  have e_m_ln : m ≠ ln := ne_of_none h_m nln
  have r9 := same_upd' (o := .dK (lnD ls)) nln
  have h_ln : upd G8 ln (.dK (lnD ls)) ln = some (.dK (lnD ls)) := upd_same
  have f_ln : H ln = none := s8.free nln
  have s9 := s8.trans r9
  have him := r9 _ _ him
  have hl := r9 _ _ hl
  have h_d := r9 _ _ h_d
  have h_m := r9 _ _ h_m
  generalize upd G8 ln (.dK (lnD ls)) = G9 at *
  refine ⟨h_d, [((Sum.inr "m" : Key), V.ref m), (Sum.inr "line", .ref ln), (Sum.inr "beat", .int 0), (Sum.inr "stop", .non)], rfl, (by show 4 ≤ 15; decide), ?_⟩
  have em10 : mergeK [] ([((Sum.inr "m" : Key), V.ref m), (Sum.inr "line", .ref ln), (Sum.inr "beat", .int 0), (Sum.inr "stop", .non)] : List (Key × V)) = [((Sum.inr "m" : Key), V.ref m), (Sum.inr "line", .ref ln), (Sum.inr "beat", .int 0), (Sum.inr "stop", .non)] := by kernel_rfl
  rw [em10]
  obtain ⟨G10, eG10, s10, r10, hn10⟩ : ∃ G : Hp, upd G9 d (.dK [((Sum.inr "m" : Key), V.ref m), (Sum.inr "line", .ref ln), (Sum.inr "beat", .int 0), (Sum.inr "stop", .non)]) = G ∧ Same H G ∧ (∀ z o, z ≠ d → G9 z = some o → G z = some o) ∧ G d = some (.dK [((Sum.inr "m" : Key), V.ref m), (Sum.inr "line", .ref ln), (Sum.inr "beat", .int 0), (Sum.inr "stop", .non)]) := ⟨_, rfl, same_of s9 f_d, fun z o hz e => by rw [upd_ne hz]; exact e, upd_same⟩
  rw [eG10]
  have him := r10 _ _ (ne_of him h_d (by intro z; cases z)) him
  have hl := r10 _ _ (ne_of hl h_d (by intro z; cases z)) hl
  have h_m := r10 _ _ e_d_m.symm h_m
  have h_ln := r10 _ _ e_d_ln.symm h_ln
  have h_d := hn10
  clear hn10 eG10 em10
  refine ⟨_, rfl, .inr (.inr (.inl ⟨rfl, .inl ⟨_, h_d⟩⟩)), ?_⟩
  intro u1 nu1
  have e_d_u1 : d ≠ u1 := ne_of_none h_d nu1
  have e_m_u1 : m ≠ u1 := ne_of_none h_m nu1
  have e_ln_u1 : ln ≠ u1 := ne_of_none h_ln nu1
  have r11 := same_upd' (o := .dK []) nu1
  have h_u1 : upd G10 u1 (.dK []) u1 = some (.dK []) := upd_same
  have f_u1 : H u1 = none := s10.free nu1
  have s11 := s10.trans r11
  have him := r11 _ _ him
  have hl := r11 _ _ hl
  have h_d := r11 _ _ h_d
  have h_m := r11 _ _ h_m
  have h_ln := r11 _ _ h_ln
  generalize upd G10 u1 (.dK []) = G11 at *
  refine ⟨Nat.zero_le _, fun to nto => ?_⟩
  have e_d_to : d ≠ to := ne_of_none h_d nto
  have e_m_to : m ≠ to := ne_of_none h_m nto
  have e_ln_to : ln ≠ to := ne_of_none h_ln nto
  have e_u1_to : u1 ≠ to := ne_of_none h_u1 nto
  have r12 := same_upd' (o := .lst []) nto
  have h_to : upd G11 to (.lst []) to = some (.lst []) := upd_same
  have f_to : H to = none := s11.free nto
  have s12 := s11.trans r12
  have him := r12 _ _ him
  have hl := r12 _ _ hl
  have h_d := r12 _ _ h_d
  have h_m := r12 _ _ h_m
  have h_ln := r12 _ _ h_ln
  have h_u1 := r12 _ _ h_u1
  generalize upd G11 to (.lst []) = G12 at *
  refine ⟨h_u1, [((Sum.inr "a" : Key), V.int 0), (Sum.inr "b", .int 0), (Sum.inr "pc", .int 0), (Sum.inr "sp", .int 767), (Sum.inr "zero", .bl false), (Sum.inr "lets", .bl false), (Sum.inr "asleep", .bl false), (Sum.inr "touched", .ref to)], rfl, (by show 8 ≤ 15; decide), ?_⟩
  have em13 : mergeK [] ([((Sum.inr "a" : Key), V.int 0), (Sum.inr "b", .int 0), (Sum.inr "pc", .int 0), (Sum.inr "sp", .int 767), (Sum.inr "zero", .bl false), (Sum.inr "lets", .bl false), (Sum.inr "asleep", .bl false), (Sum.inr "touched", .ref to)] : List (Key × V)) = [((Sum.inr "a" : Key), V.int 0), (Sum.inr "b", .int 0), (Sum.inr "pc", .int 0), (Sum.inr "sp", .int 767), (Sum.inr "zero", .bl false), (Sum.inr "lets", .bl false), (Sum.inr "asleep", .bl false), (Sum.inr "touched", .ref to)] := by kernel_rfl
  rw [em13]
  obtain ⟨G13, eG13, s13, r13, hn13⟩ : ∃ G : Hp, upd G12 u1 (.dK [((Sum.inr "a" : Key), V.int 0), (Sum.inr "b", .int 0), (Sum.inr "pc", .int 0), (Sum.inr "sp", .int 767), (Sum.inr "zero", .bl false), (Sum.inr "lets", .bl false), (Sum.inr "asleep", .bl false), (Sum.inr "touched", .ref to)]) = G ∧ Same H G ∧ (∀ z o, z ≠ u1 → G12 z = some o → G z = some o) ∧ G u1 = some (.dK [((Sum.inr "a" : Key), V.int 0), (Sum.inr "b", .int 0), (Sum.inr "pc", .int 0), (Sum.inr "sp", .int 767), (Sum.inr "zero", .bl false), (Sum.inr "lets", .bl false), (Sum.inr "asleep", .bl false), (Sum.inr "touched", .ref to)]) := ⟨_, rfl, same_of s12 f_u1, fun z o hz e => by rw [upd_ne hz]; exact e, upd_same⟩
  rw [eG13]
  have him := r13 _ _ (ne_of him h_u1 (by intro z; cases z)) him
  have hl := r13 _ _ (ne_of hl h_u1 (by intro z; cases z)) hl
  have h_d := r13 _ _ e_d_u1 h_d
  have h_m := r13 _ _ e_m_u1 h_m
  have h_ln := r13 _ _ e_ln_u1 h_ln
  have h_to := r13 _ _ e_u1_to.symm h_to
  have h_u1 := hn13
  clear hn13 eG13 em13
  refine ⟨d, u1, _, _, rfl, rfl, e_d_u1, h_d, h_u1, (by show 4 + 8 ≤ sizeLine; decide), ?_⟩
  have emu14 : mergeK [((Sum.inr "m" : Key), V.ref m), (Sum.inr "line", .ref ln), (Sum.inr "beat", .int 0), (Sum.inr "stop", .non)] [((Sum.inr "a" : Key), V.int 0), (Sum.inr "b", .int 0), (Sum.inr "pc", .int 0), (Sum.inr "sp", .int 767), (Sum.inr "zero", .bl false), (Sum.inr "lets", .bl false), (Sum.inr "asleep", .bl false), (Sum.inr "touched", .ref to)] = [((Sum.inr "m" : Key), V.ref m), (Sum.inr "line", .ref ln), (Sum.inr "beat", .int 0), (Sum.inr "stop", .non), (Sum.inr "a", .int 0), (Sum.inr "b", .int 0), (Sum.inr "pc", .int 0), (Sum.inr "sp", .int 767), (Sum.inr "zero", .bl false), (Sum.inr "lets", .bl false), (Sum.inr "asleep", .bl false), (Sum.inr "touched", .ref to)] := by kernel_rfl
  rw [emu14]
  obtain ⟨G14, eG14, s14, r14, hn14⟩ : ∃ G : Hp, upd G13 d (.dK ([((Sum.inr "m" : Key), V.ref m), (Sum.inr "line", .ref ln), (Sum.inr "beat", .int 0), (Sum.inr "stop", .non), (Sum.inr "a", .int 0), (Sum.inr "b", .int 0), (Sum.inr "pc", .int 0), (Sum.inr "sp", .int 767), (Sum.inr "zero", .bl false), (Sum.inr "lets", .bl false), (Sum.inr "asleep", .bl false), (Sum.inr "touched", .ref to)])) = G ∧ Same H G ∧ (∀ z o, z ≠ d → G13 z = some o → G z = some o) ∧ G d = some (.dK ([((Sum.inr "m" : Key), V.ref m), (Sum.inr "line", .ref ln), (Sum.inr "beat", .int 0), (Sum.inr "stop", .non), (Sum.inr "a", .int 0), (Sum.inr "b", .int 0), (Sum.inr "pc", .int 0), (Sum.inr "sp", .int 767), (Sum.inr "zero", .bl false), (Sum.inr "lets", .bl false), (Sum.inr "asleep", .bl false), (Sum.inr "touched", .ref to)])) := ⟨_, rfl, same_of s13 f_d, fun z o hz e => by rw [upd_ne hz]; exact e, upd_same⟩
  rw [eG14]
  have him := r14 _ _ (ne_of him h_d (by intro z; cases z)) him
  have hl := r14 _ _ (ne_of hl h_d (by intro z; cases z)) hl
  have h_m := r14 _ _ e_d_m.symm h_m
  have h_ln := r14 _ _ e_d_ln.symm h_ln
  have h_u1 := r14 _ _ e_d_u1.symm h_u1
  have h_to := r14 _ _ e_d_to.symm h_to
  have h_d := hn14
  clear hn14 eG14
  refine ⟨_, rfl, .inr (.inr (.inl ⟨rfl, .inl ⟨_, h_d⟩⟩)), ?_⟩
  intro u2 nu2
  have e_d_u2 : d ≠ u2 := ne_of_none h_d nu2
  have e_m_u2 : m ≠ u2 := ne_of_none h_m nu2
  have e_ln_u2 : ln ≠ u2 := ne_of_none h_ln nu2
  have e_u1_u2 : u1 ≠ u2 := ne_of_none h_u1 nu2
  have e_to_u2 : to ≠ u2 := ne_of_none h_to nu2
  have r15 := same_upd' (o := .dK []) nu2
  have h_u2 : upd G14 u2 (.dK []) u2 = some (.dK []) := upd_same
  have f_u2 : H u2 = none := s14.free nu2
  have s15 := s14.trans r15
  have him := r15 _ _ him
  have hl := r15 _ _ hl
  have h_d := r15 _ _ h_d
  have h_m := r15 _ _ h_m
  have h_ln := r15 _ _ h_ln
  have h_u1 := r15 _ _ h_u1
  have h_to := r15 _ _ h_to
  generalize upd G14 u2 (.dK []) = G15 at *
  refine ⟨Nat.zero_le _, fun fl nfl => ?_⟩
  have e_d_fl : d ≠ fl := ne_of_none h_d nfl
  have e_m_fl : m ≠ fl := ne_of_none h_m nfl
  have e_ln_fl : ln ≠ fl := ne_of_none h_ln nfl
  have e_u1_fl : u1 ≠ fl := ne_of_none h_u1 nfl
  have e_to_fl : to ≠ fl := ne_of_none h_to nfl
  have e_u2_fl : u2 ≠ fl := ne_of_none h_u2 nfl
  have r16 := same_upd' (o := .lst []) nfl
  have h_fl : upd G15 fl (.lst []) fl = some (.lst []) := upd_same
  have f_fl : H fl = none := s15.free nfl
  have s16 := s15.trans r16
  have him := r16 _ _ him
  have hl := r16 _ _ hl
  have h_d := r16 _ _ h_d
  have h_m := r16 _ _ h_m
  have h_ln := r16 _ _ h_ln
  have h_u1 := r16 _ _ h_u1
  have h_to := r16 _ _ h_to
  have h_u2 := r16 _ _ h_u2
  generalize upd G15 fl (.lst []) = G16 at *
  refine ⟨Nat.zero_le _, fun rg nrg => ?_⟩
  have e_d_rg : d ≠ rg := ne_of_none h_d nrg
  have e_m_rg : m ≠ rg := ne_of_none h_m nrg
  have e_ln_rg : ln ≠ rg := ne_of_none h_ln nrg
  have e_u1_rg : u1 ≠ rg := ne_of_none h_u1 nrg
  have e_to_rg : to ≠ rg := ne_of_none h_to nrg
  have e_u2_rg : u2 ≠ rg := ne_of_none h_u2 nrg
  have e_fl_rg : fl ≠ rg := ne_of_none h_fl nrg
  have r17 := same_upd' (o := .lst []) nrg
  have h_rg : upd G16 rg (.lst []) rg = some (.lst []) := upd_same
  have f_rg : H rg = none := s16.free nrg
  have s17 := s16.trans r17
  have him := r17 _ _ him
  have hl := r17 _ _ hl
  have h_d := r17 _ _ h_d
  have h_m := r17 _ _ h_m
  have h_ln := r17 _ _ h_ln
  have h_u1 := r17 _ _ h_u1
  have h_to := r17 _ _ h_to
  have h_u2 := r17 _ _ h_u2
  have h_fl := r17 _ _ h_fl
  generalize upd G16 rg (.lst []) = G17 at *
  intro ins nins
  have e_d_ins : d ≠ ins := ne_of_none h_d nins
  have e_m_ins : m ≠ ins := ne_of_none h_m nins
  have e_ln_ins : ln ≠ ins := ne_of_none h_ln nins
  have e_u1_ins : u1 ≠ ins := ne_of_none h_u1 nins
  have e_to_ins : to ≠ ins := ne_of_none h_to nins
  have e_u2_ins : u2 ≠ ins := ne_of_none h_u2 nins
  have e_fl_ins : fl ≠ ins := ne_of_none h_fl nins
  have e_rg_ins : rg ≠ ins := ne_of_none h_rg nins
  have r18 := same_upd' (o := .dK []) nins
  have h_ins : upd G17 ins (.dK []) ins = some (.dK []) := upd_same
  have f_ins : H ins = none := s17.free nins
  have s18 := s17.trans r18
  have him := r18 _ _ him
  have hl := r18 _ _ hl
  have h_d := r18 _ _ h_d
  have h_m := r18 _ _ h_m
  have h_ln := r18 _ _ h_ln
  have h_u1 := r18 _ _ h_u1
  have h_to := r18 _ _ h_to
  have h_u2 := r18 _ _ h_u2
  have h_fl := r18 _ _ h_fl
  have h_rg := r18 _ _ h_rg
  generalize upd G17 ins (.dK []) = G18 at *
  intro th nth
  have e_d_th : d ≠ th := ne_of_none h_d nth
  have e_m_th : m ≠ th := ne_of_none h_m nth
  have e_ln_th : ln ≠ th := ne_of_none h_ln nth
  have e_u1_th : u1 ≠ th := ne_of_none h_u1 nth
  have e_to_th : to ≠ th := ne_of_none h_to nth
  have e_u2_th : u2 ≠ th := ne_of_none h_u2 nth
  have e_fl_th : fl ≠ th := ne_of_none h_fl nth
  have e_rg_th : rg ≠ th := ne_of_none h_rg nth
  have e_ins_th : ins ≠ th := ne_of_none h_ins nth
  have r19 := same_upd' (o := .dK []) nth
  have h_th : upd G18 th (.dK []) th = some (.dK []) := upd_same
  have f_th : H th = none := s18.free nth
  have s19 := s18.trans r19
  have him := r19 _ _ him
  have hl := r19 _ _ hl
  have h_d := r19 _ _ h_d
  have h_m := r19 _ _ h_m
  have h_ln := r19 _ _ h_ln
  have h_u1 := r19 _ _ h_u1
  have h_to := r19 _ _ h_to
  have h_u2 := r19 _ _ h_u2
  have h_fl := r19 _ _ h_fl
  have h_rg := r19 _ _ h_rg
  have h_ins := r19 _ _ h_ins
  generalize upd G18 th (.dK []) = G19 at *
  refine ⟨h_u2, [((Sum.inr "op" : Key), V.non), (Sum.inr "frames", .ref fl), (Sum.inr "strays", .int 0), (Sum.inr "ring", .ref rg), (Sum.inr "inside", .ref ins), (Sum.inr "there", .ref th), (Sum.inr "peeked", .int 0), (Sum.inr "gone", .int 0)], rfl, (by show 8 ≤ 15; decide), ?_⟩
  have em20 : mergeK [] ([((Sum.inr "op" : Key), V.non), (Sum.inr "frames", .ref fl), (Sum.inr "strays", .int 0), (Sum.inr "ring", .ref rg), (Sum.inr "inside", .ref ins), (Sum.inr "there", .ref th), (Sum.inr "peeked", .int 0), (Sum.inr "gone", .int 0)] : List (Key × V)) = [((Sum.inr "op" : Key), V.non), (Sum.inr "frames", .ref fl), (Sum.inr "strays", .int 0), (Sum.inr "ring", .ref rg), (Sum.inr "inside", .ref ins), (Sum.inr "there", .ref th), (Sum.inr "peeked", .int 0), (Sum.inr "gone", .int 0)] := by kernel_rfl
  rw [em20]
  obtain ⟨G20, eG20, s20, r20, hn20⟩ : ∃ G : Hp, upd G19 u2 (.dK [((Sum.inr "op" : Key), V.non), (Sum.inr "frames", .ref fl), (Sum.inr "strays", .int 0), (Sum.inr "ring", .ref rg), (Sum.inr "inside", .ref ins), (Sum.inr "there", .ref th), (Sum.inr "peeked", .int 0), (Sum.inr "gone", .int 0)]) = G ∧ Same H G ∧ (∀ z o, z ≠ u2 → G19 z = some o → G z = some o) ∧ G u2 = some (.dK [((Sum.inr "op" : Key), V.non), (Sum.inr "frames", .ref fl), (Sum.inr "strays", .int 0), (Sum.inr "ring", .ref rg), (Sum.inr "inside", .ref ins), (Sum.inr "there", .ref th), (Sum.inr "peeked", .int 0), (Sum.inr "gone", .int 0)]) := ⟨_, rfl, same_of s19 f_u2, fun z o hz e => by rw [upd_ne hz]; exact e, upd_same⟩
  rw [eG20]
  have him := r20 _ _ (ne_of him h_u2 (by intro z; cases z)) him
  have hl := r20 _ _ (ne_of hl h_u2 (by intro z; cases z)) hl
  have h_d := r20 _ _ e_d_u2 h_d
  have h_m := r20 _ _ e_m_u2 h_m
  have h_ln := r20 _ _ e_ln_u2 h_ln
  have h_u1 := r20 _ _ e_u1_u2 h_u1
  have h_to := r20 _ _ e_to_u2 h_to
  have h_fl := r20 _ _ e_u2_fl.symm h_fl
  have h_rg := r20 _ _ e_u2_rg.symm h_rg
  have h_ins := r20 _ _ e_u2_ins.symm h_ins
  have h_th := r20 _ _ e_u2_th.symm h_th
  have h_u2 := hn20
  clear hn20 eG20 em20
  refine ⟨d, u2, _, _, rfl, rfl, e_d_u2, h_d, h_u2, (by show 12 + 8 ≤ sizeLine; decide), ?_⟩
  have emu21 : mergeK [((Sum.inr "m" : Key), V.ref m), (Sum.inr "line", .ref ln), (Sum.inr "beat", .int 0), (Sum.inr "stop", .non), (Sum.inr "a", .int 0), (Sum.inr "b", .int 0), (Sum.inr "pc", .int 0), (Sum.inr "sp", .int 767), (Sum.inr "zero", .bl false), (Sum.inr "lets", .bl false), (Sum.inr "asleep", .bl false), (Sum.inr "touched", .ref to)] [((Sum.inr "op" : Key), V.non), (Sum.inr "frames", .ref fl), (Sum.inr "strays", .int 0), (Sum.inr "ring", .ref rg), (Sum.inr "inside", .ref ins), (Sum.inr "there", .ref th), (Sum.inr "peeked", .int 0), (Sum.inr "gone", .int 0)] = owD ⟨m, ln, to, fl, rg, ins, th⟩ ⟨.non, [], [], 0, [], [], [], 0, 0⟩ (newBd ns ls) .non := by kernel_rfl
  rw [emu21]
  obtain ⟨G21, eG21, s21, r21, hn21⟩ : ∃ G : Hp, upd G20 d (.dK (owD ⟨m, ln, to, fl, rg, ins, th⟩ ⟨.non, [], [], 0, [], [], [], 0, 0⟩ (newBd ns ls) .non)) = G ∧ Same H G ∧ (∀ z o, z ≠ d → G20 z = some o → G z = some o) ∧ G d = some (.dK (owD ⟨m, ln, to, fl, rg, ins, th⟩ ⟨.non, [], [], 0, [], [], [], 0, 0⟩ (newBd ns ls) .non)) := ⟨_, rfl, same_of s20 f_d, fun z o hz e => by rw [upd_ne hz]; exact e, upd_same⟩
  rw [eG21]
  have him := r21 _ _ (ne_of him h_d (by intro z; cases z)) him
  have hl := r21 _ _ (ne_of hl h_d (by intro z; cases z)) hl
  have h_m := r21 _ _ e_d_m.symm h_m
  have h_ln := r21 _ _ e_d_ln.symm h_ln
  have h_u1 := r21 _ _ e_d_u1.symm h_u1
  have h_to := r21 _ _ e_d_to.symm h_to
  have h_u2 := r21 _ _ e_d_u2.symm h_u2
  have h_fl := r21 _ _ e_d_fl.symm h_fl
  have h_rg := r21 _ _ e_d_rg.symm h_rg
  have h_ins := r21 _ _ e_d_ins.symm h_ins
  have h_th := r21 _ _ e_d_th.symm h_th
  have h_d := hn21
  clear hn21 eG21
  refine ⟨_, rfl, ?_⟩
  refine q _ d ⟨m, ln, to, fl, rg, ins, th⟩ ⟨.non, [], [], 0, [], [], [], 0, 0⟩ s21 (fun b hb => ?_) ?_ rfl
  · have hb : b ∈ [d, m, ln, to, fl, rg, ins, th] := hb
    simp only [List.mem_cons, List.not_mem_nil, or_false] at hb
    rcases hb with h | h | h | h | h | h | h | h <;> rw [h]
    · exact f_d
    · exact f_m
    · exact f_ln
    · exact f_to
    · exact f_fl
    · exact f_rg
    · exact f_ins
    · exact f_th
  · have lm : (memOf ns).length = 774 := by
      unfold memOf
      rw [List.length_append, List.length_append, List.length_replicate, List.length_replicate]
      omega
    exact ⟨{
      hd := ⟨.non, h_d, rfl⟩
      hm := h_m
      hl := h_ln
      ht := ⟨[], h_to, .nil⟩
      hf := ⟨[], h_fl, .nil⟩
      hr := ⟨[], h_rg, .nil⟩
      hi := h_ins
      hh := ⟨[], h_th, .nil⟩
      lm := lm
      nd := by
        show [d, m, ln, to, fl, rg, ins, th].Nodup
        simp only [List.nodup_cons, List.mem_cons, List.not_mem_nil, or_false, not_or, not_false_eq_true, and_true, List.nodup_nil]
        exact ⟨⟨e_d_m, e_d_ln, e_d_to, e_d_fl, e_d_rg, e_d_ins, e_d_th⟩, ⟨e_m_ln, e_m_to, e_m_fl, e_m_rg, e_m_ins, e_m_th⟩, ⟨e_ln_to, e_ln_fl, e_ln_rg, e_ln_ins, e_ln_th⟩, ⟨e_to_fl, e_to_rg, e_to_ins, e_to_th⟩, ⟨e_fl_rg, e_fl_ins, e_fl_th⟩, ⟨e_rg_ins, e_rg_th⟩, e_ins_th⟩ }, newP_ok hnl hw hri, rfl, rfl, rfl, rfl, rfl, rfl, Nat.zero_le _⟩
abbrev sLsame : Stmt := topS 121
def scLsameN : List Str := ["_law_held", "_law_s", "_law_names", "_law_name"]
theorem scLsame : FnScope scLsameN ["_law_held", "_law_s"] (defScope sLsame) := ⟨rfl, rfl, rfl, by decide +kernel, rfl, by decide +kernel, by decide +kernel⟩
theorem ok_Lsame {f : Addr} {fd : FuncData} {fF_frs : Addr} {dF_frs : FuncData} {fF_str : Addr} {dF_str : FuncData} {fM_reg : Addr} {dM_reg : FuncData} {fM_stp : Addr} {dM_stp : FuncData} {fM_tns : Addr} {dM_tns : FuncData} (F : Fun K "_law_same" "_law_same" sLsame f fd) (T : Ty K mg CB CM CP CK CW CF CH CC CI CS)
    (F_frs : CalF P w K mg base 1 "frames_of" ["probe"] (spFrs CB CM CP CK CW CF CH CC CI) fF_frs dF_frs)
    (F_str : CalF P w K mg base 1 "strays_of" ["probe"] (spStr CB CM CP CK CW CF CH CC CI) fF_str dF_str)
    (M_reg : CalM P w K mg base CP 1 "register_of" ["self", "name"] (spReg CB CM CP CK CW CF CH CC CI) fM_reg dM_reg)
    (M_stp : CalM P w K mg base CP 1 "stop_told" ["self"] (spStp CB CM CP CK CW CF CH CC CI) fM_stp dM_stp)
    (M_tns : CalM P w K mg base CP 1 "turns" ["self"] (spTurns CB CM CP CK CW CF CH CC CI) fM_tns dM_tns) : FnOk P w K mg base CX0 4 f fd ["_law_held", "_law_s"] (spSame CB CM CP CK CW CF CH CC CI) := by
  refine F.ok scLsame (fun vs H Q E h => by obtain ⟨_, _, _, _, _, _, _, rfl, _⟩ := h; rfl) (fun cdv A outer s H vs Q E hr h => ?_)
  have hu := hu_of hr
  obtain ⟨S, F_, p, d, oa, oe, x, rfl, Y, M, q⟩ := h
  have hu64 := hr.units
  refine ⟨_, (pss_cons (ps_set (i := 2) scLsame.nd rfl (.inl rfl) (pe_lst (pa_cons pe_str (pa_cons pe_str (pa_cons pe_str (pa_cons pe_str (pa_cons pe_str (pa_cons pe_str (pa_cons pe_str (pa_cons pe_str pa_nil))))))))))
    (pss_cons (ps_if (pt_cmpR (op_neP hu64) (pe_lc (own := [("_law_name", 3)]) (g := gName 3) (tt := tYes) (by rfl) scLsame.nd (pi_list (pv 2)) (blkOk_by (own := [("_law_name", 3)]) (N := scLsameN) (sc := defScope sLsame) (by decide +kernel)) (fun _ _ _ _ _ => (pg_name (i := 3) scLsame.nd rfl (.inl rfl))) (fun _ _ _ _ _ => pts_nil) (fun _ _ _ _ _ => (pe_meth (pv 0) M_reg.c M_reg.m M_reg.G (hr.mono (by decide)) M_reg.b .nil pass0 (pa_cons (pv 3) pa_nil)))) (pe_lc (own := [("_law_name", 3)]) (g := gName 3) (tt := tYes) (by rfl) scLsame.nd (pi_list (pv 2)) (blkOk_by (own := [("_law_name", 3)]) (N := scLsameN) (sc := defScope sLsame) (by decide +kernel)) (fun _ _ _ _ _ => (pg_name (i := 3) scLsame.nd rfl (.inl rfl))) (fun _ _ _ _ _ => pts_nil) (fun _ _ _ _ _ => (pe_dget hu (pv 1) (pv 3) (fun _ _ => rfl)))) (nomark _)) (pss_one (ps_ret pe_bl)) pss_nil)
    (pss_cons (ps_if (pt_cmpR (op_neP hu64) (pe_meth0 (pv 0) M_stp.c M_stp.m M_stp.G (hr.mono (by decide)) M_stp.b .nil pass0) (pe_dget hu (pv 1) pe_str (fun _ _ => rfl)) (nomark _)) (pss_one (ps_ret pe_bl)) pss_nil)
    (pss_one (ps_ret (pe_and (pe_cmpR (op_eqP hu64) (pe_call F_frs.G (hr.mono (by decide)) (by rfl) F_frs.g F_frs.kp F_frs.b .nil pass0 (pa_cons (pv 0) pa_nil)) (pe_dget hu (pv 1) pe_str (fun _ _ => rfl)) (nomark _)) (pe_and (pe_cmpR op_eq (pe_call F_str.G (hr.mono (by decide)) (by rfl) F_str.g F_str.kp F_str.b .nil pass0 (pa_cons (pv 0) pa_nil)) (pe_dget hu (pv 1) pe_str (fun _ _ => rfl)) (nomark _)) (pe_one (pe_cmpR op_eq (pe_meth0 (pv 0) M_tns.c M_tns.m M_tns.G (hr.mono (by decide)) M_tns.b .nil pass0) (pe_dget hu (pv 1) pe_str (fun _ _ => rfl)) (nomark _)))))))))), ?_⟩
  obtain ⟨dx, bd, st, wa, fr, hi, co, mi, sd, gn, hp⟩ := Y.ins
  refine ⟨(by show 8 ≤ sizeLine; decide), fun l1 n1 => ?_⟩
  have r1 := same_upd' (o := .lst [V.str "a", V.str "b", V.str "pc", V.str "sp", V.str "zero", V.str "lets", V.str "asleep", V.str "beat"]) n1
  have h1 : upd H l1 (.lst [V.str "a", V.str "b", V.str "pc", V.str "sp", V.str "zero", V.str "lets", V.str "asleep", V.str "beat"]) l1 = some (.lst [V.str "a", V.str "b", V.str "pc", V.str "sp", V.str "zero", V.str "lets", V.str "asleep", V.str "beat"]) := upd_same
  have Y := Y.same r1
  have hp := r1 _ _ hp
  have L := M.w.same r1
  generalize upd H l1 (.lst [V.str "a", V.str "b", V.str "pc", V.str "sp", V.str "zero", V.str "lets", V.str "asleep", V.str "beat"]) = G1 at *
  refine ⟨_, rfl, l1, rfl, ⟨_, SqL.of h1⟩, fun c1 nc1 => ?_⟩
  refine lc_list (K := K) (a := l1) (xs := [V.str "a", V.str "b", V.str "pc", V.str "sp", V.str "zero", V.str "lets", V.str "asleep", V.str "beat"]) (fun i H' => Same G1 H' ∧ H' c1 = some (.lst ((regsV x.b).take i))) ⟨same_upd' nc1, upd_same⟩ (fun i H' _ h => SqL.of (h.1 _ _ h1)) ?_ ?_
  · rintro j v H' hv ⟨sm, hD⟩
    have Y := Y.same sm
    have hp := sm _ _ hp
    have hj : j < 8 := (List.getElem?_eq_some_iff.mp hv).1
    obtain ⟨nm, rv, rfl, hrv, hin⟩ : ∃ nm rv, v = .str nm ∧ (regsV x.b)[j]? = some rv ∧ (nm, rv) ∈ regsL x.b := by
      have : j = 0 ∨ j = 1 ∨ j = 2 ∨ j = 3 ∨ j = 4 ∨ j = 5 ∨ j = 6 ∨ j = 7 := by omega
      rcases this with rfl | rfl | rfl | rfl | rfl | rfl | rfl | rfl <;> (cases hv; exact ⟨_, _, rfl, rfl, by simp [regsL]⟩)
    refine ⟨rfl, ?_⟩
    refine ⟨_, rfl, p, dx, _, rfl, hp, pN_register_of, _, rfl, S, F_, p, x, nm, rv, rfl, Y, hin, ?_⟩
    refine ⟨_, hD, ?_, same_of sm nc1, ?_⟩
    · rw [List.length_take]
      exact small1000 (by have : (regsV x.b).length = 8 := rfl; omega)
    · rw [upd_same, tk_snoc hrv]
  rintro G2 ⟨s2, hc1⟩
  have hc1 : G2 c1 = some (.lst (regsV x.b)) := hc1
  have h1 := s2 _ _ h1
  have Y := Y.same s2
  have hp := s2 _ _ hp
  have L := L.same s2
  refine ⟨_, rfl, l1, rfl, ⟨_, SqL.of h1⟩, fun c2 nc2 => ?_⟩
  refine lc_list (K := K) (a := l1) (xs := [V.str "a", V.str "b", V.str "pc", V.str "sp", V.str "zero", V.str "lets", V.str "asleep", V.str "beat"]) (fun i H' => Same G2 H' ∧ H' c2 = some (.lst ((regsV x.b).take i))) ⟨same_upd' nc2, upd_same⟩ (fun i H' _ h => SqL.of (h.1 _ _ h1)) ?_ ?_
  · rintro j v H' hv ⟨sm, hD⟩
    obtain ⟨sv, hd, hz⟩ := (L.same sm).hd
    have hj : j < 8 := (List.getElem?_eq_some_iff.mp hv).1
    obtain ⟨nm, rv, rfl, hrv, hin⟩ : ∃ nm rv, v = .str nm ∧ (regsV x.b)[j]? = some rv ∧ valV (owD oa oe x.b sv) (Sum.inr nm) = some rv := by
      have : j = 0 ∨ j = 1 ∨ j = 2 ∨ j = 3 ∨ j = 4 ∨ j = 5 ∨ j = 6 ∨ j = 7 := by omega
      rcases this with rfl | rfl | rfl | rfl | rfl | rfl | rfl | rfl
      · cases hv; exact ⟨_, _, rfl, rfl, oG_a⟩
      · cases hv; exact ⟨_, _, rfl, rfl, oG_b⟩
      · cases hv; exact ⟨_, _, rfl, rfl, oG_pc⟩
      · cases hv; exact ⟨_, _, rfl, rfl, oG_sp⟩
      · cases hv; exact ⟨_, _, rfl, rfl, oG_zero⟩
      · cases hv; exact ⟨_, _, rfl, rfl, oG_lets⟩
      · cases hv; exact ⟨_, _, rfl, rfl, oG_asleep⟩
      · cases hv; exact ⟨_, _, rfl, rfl, oG_beat⟩
    refine ⟨rfl, ?_⟩
    refine ⟨_, rfl, _, rfl, d, _, rfl, dg (k := Sum.inr nm) hd hin, ?_⟩
    refine ⟨_, hD, ?_, same_of sm nc2, ?_⟩
    · rw [List.length_take]
      exact small1000 (by have : (regsV x.b).length = 8 := rfl; omega)
    · rw [upd_same, tk_snoc hrv]
  rintro G3 ⟨s3, hc2⟩
  have hc2 : G3 c2 = some (.lst (regsV x.b)) := hc2
  have hc1 := s3 _ _ hc1
  have Y := Y.same s3
  have hp := s3 _ _ hp
  have L := L.same s3
  have plr : PyData.plain (.list (regsD x.b)) = true := rfl
  refine ⟨_, _, .lst (SqL.of hc1) (dp_regs _), .lst (SqL.of hc2) (dp_regs _), plr, plr, (by show 0 + 1 ≤ 60; decide), _, rfl, ?_⟩
  rw [PySem.SeqAt.eqv_refl_plain _ plr]
  refine ifN (fun h => by cases h) (fun _ => ?_)
  refine ⟨_, rfl, p, dx, _, rfl, hp, pN_stop_told, S, F_, p, x, rfl, Y, fun sv1 hsv1 => ?_⟩
  obtain ⟨sv, hd, hz⟩ := L.hd
  refine ⟨_, rfl, d, _, rfl, dg (k := Sum.inr "stop") hd oG_stop, ?_⟩
  refine ⟨_, _, dp_stop hsv1, dp_stop hz, pl_stop _, pl_stop _, Nat.le_trans (dep_stop _) (by decide), _, rfl, ?_⟩
  rw [PySem.SeqAt.eqv_refl_plain _ (pl_stop _)]
  refine ifN (fun h => by cases h) (fun _ => ?_)
  refine ⟨_, rfl, S, F_, p, x, rfl, Y, fun G4 lf uf s4 nlf hlf huf => ?_⟩
  have Y := Y.same s4
  have hp := s4 _ _ hp
  have L := L.same s4
  obtain ⟨us, hf, hf2⟩ := L.hf
  rw [M.rows] at hf2
  obtain ⟨sv, hd, hz⟩ := L.hd
  refine ⟨_, rfl, d, _, rfl, dg (k := Sum.inr "frames") hd oG_frames, ?_⟩
  refine ⟨_, _, .lst (SqL.of hlf) (dp_t3 huf), .lst (SqL.of hf) (dp_t3 hf2), pl_L (pl_t3 _), pl_L (pl_t3 _), Nat.le_trans (dep_L (dep_t3 _)) (by decide), _, rfl, ?_⟩
  rw [PySem.SeqAt.eqv_refl_plain _ (pl_L (pl_t3 _))]
  refine ifB (fun _ => ?_) (fun h => by cases h)
  refine ⟨_, rfl, S, F_, p, x, rfl, Y, ?_⟩
  refine ⟨_, rfl, d, _, rfl, dg (k := Sum.inr "strays") hd oG_strays, rfl, _, rfl, ?_⟩
  rw [show decide (V.int x.strays = V.int oe.strays) = true from decide_eq_true (by rw [M.st])]
  refine ifB (fun _ => ?_) (fun h => by cases h)
  refine ⟨_, rfl, p, dx, _, rfl, hp, pN_turns, S, F_, p, x, rfl, Y, ?_⟩
  refine ⟨_, rfl, d, _, rfl, dg (k := Sum.inr "gone") hd oG_gone, rfl, ?_⟩
  rw [show decide (V.int x.gone = V.int oe.gone) = true from decide_eq_true (by rw [M.gn])]
  exact q _ (((r1.trans s2).trans s3).trans s4)
end
end Bh

/-! The law's own board let go. -/
namespace Bh
open PySem PySem.Spec PyProof.Rows L2
def czO : Option (Str × List Int) → Cz
  | none => .none
  | some s => .stop s
theorem go1_cz (x : Pm) : (goP 1 .no x).1 = czO (noteTM x).2.b.stop := by
  unfold goP
  cases es : x.b.stop with
  | some s =>
    have e2 : (noteTM x).2.b.stop = some s := by
      unfold noteTM
      have et : turnM x.b = (("stopped" : Str), x.b) := by
        unfold turnM
        rw [if_pos (by rw [es]; intro z; cases z)]
      rw [et]
      exact es
    rw [e2]
    rfl
  | none =>
    show (runP 1 .no x).1 = _
    unfold runP passT
    cases (noteTM x).2.b.stop with
    | some s => rfl
    | none => rfl
/-- one turn asked of the probe, and seen by the law: they stand alike -/
theorem Om.go1 {H : Hp} {d : Addr} {oa : Oa} {oe oe0 : Oe} {x : Pm} (M : Om H d oa oe (noteTM x).2) (hr : oe.ring = (if (noteTM x).1 = "stopped" then oe0.ring else oe0.ring ++ [(x.b.beat, (noteTM x).1, x.b.pc)])) (h0 : oe0.ring.length ≤ x.n) : Om H d oa oe (goP 1 .no x).2.2 := by
  unfold goP
  cases es : x.b.stop with
  | some s =>
    have et : turnM x.b = (("stopped" : Str), x.b) := by
      unfold turnM
      rw [if_pos (by rw [es]; intro z; cases z)]
    have en : noteTM x = (("stopped" : Str), { x with b := x.b, n := x.n + 1 }) := by
      unfold noteTM
      rw [et]
      rfl
    rw [en] at M hr
    rw [if_pos rfl] at hr
    exact ⟨M.w, M.o, M.rows, M.st, M.sp, M.de, M.pk, M.gn, by rw [hr]; exact h0⟩
  | none =>
    show Om H d oa oe (runP 1 .no x).2.2
    have e1 : (runP 1 .no x).2.2 = (noteTM x).2 := by
      unfold runP passT
      cases (noteTM x).2.b.stop with
      | some s => rfl
      | none => rfl
    rw [e1]
    exact M
theorem joinV {Goal : Prop} {I : V → Prop} (R : V → Prop) (body : (∀ v, I v → R v) → Goal) (key : ∀ v, I v → R v) : Goal := body key
section
variable {H H1 : Hp} {d : Addr} {oa : Oa} {oe : Oe} {x : Pm}
theorem Om.same (M : Om H d oa oe x) (s : Same H H1) : Om H1 d oa oe x := ⟨M.w.same s, M.o, M.rows, M.st, M.sp, M.de, M.pk, M.gn, M.rg⟩
theorem Om.other {F F' : Addr → Prop} (M : Om H d oa oe x) (f : Fr F H F' H1) (dj : ∀ b, F b → ¬ FtO d oa b) (sol : ∀ b, F b → ∃ o, H b = some o ∧ ∀ xs, o ≠ .tup xs) : Om H1 d oa oe x ∧ ∀ b, F' b → ¬ FtO d oa b := by
  refine ⟨⟨M.w.keep (fun b o hb e => f.keep b o (fun z => dj b z hb) e) (tup_keep sol f.keep), M.o, M.rows, M.st, M.sp, M.de, M.pk, M.gn, M.rg⟩, fun b hb z => ?_⟩
  rcases f.new b hb with y | y
  · exact dj b y z
  · obtain ⟨o, e, _⟩ := M.w.solid b z
    rw [y] at e; cases e
end
theorem cut_mid (m : List Int) (hl : m.length = 774) : cutV (m.map V.int) (some 512) (some 774) = ((List.range 262).map fun k : Nat => rd m (512 + (k : Int))).map V.int := by
  unfold cutV
  rw [List.length_map, hl]
  have e1 : HT.sIx 774 0 (some 512) = 512 := by decide
  have e2 : HT.sIx 774 774 (some 774) = 774 := by decide
  rw [e1, e2]
  apply List.ext_getElem
  · rw [List.length_take, List.length_drop, List.length_map, List.length_map, List.length_map, List.length_range, hl]
    decide
  · intro i h1 h2
    rw [List.getElem_take, List.getElem_drop, List.getElem_map, List.getElem_map, List.getElem_map, List.getElem_range]
    rw [List.length_map, List.length_map, List.length_range] at h2
    unfold rd
    have e : ((512 : Int) + (i : Int)).toNat = 512 + i := by omega
    rw [e, List.getD_eq_getElem?_getD, List.getElem?_eq_getElem (by rw [hl]; omega), Option.getD_some]
def wdK (w : Nat) : Str := if w = 1 then "over" else if w = 2 then "out" else "go"
def enK (w : Nat) (d : Int) (b : Bool) : En := if w = 1 then .over 0 0 d b else if w = 2 then .out 0 0 d else .no
theorem comesK (w : Nat) (d : Int) (b : Bool) (so : Str) (ah now : Int) : (enK w d b).comes so ah now = if w = 1 then (overB b so ah d && decide (now ≤ d)) else if w = 2 then decide (now < d) else false := by
  unfold enK
  split
  · rfl
  · split <;> rfl
theorem enK_step (w : Nat) (d : Int) (b : Bool) (so : Str) (ah : Int) : (enK w d b).step so ah = enK w d (overB b so ah d) := by
  unfold enK
  split
  · rfl
  · split <;> rfl
def spOMarked : Sp := fun vs H Q _ => ∃ (d mk : Addr) (oa : Oa) (oe : Oe) (x : Bd), vs = [.ref d, .ref mk] ∧ Ow H d oa oe x ∧ H mk = some (.dK []) ∧ Q (.bl false) H
def spOMet : Sp := fun vs H Q _ => ∃ (d wd : Addr) (oa : Oa) (oe : Oe) (x : Bd), vs = [.ref d, .ref wd] ∧ Ow H d oa oe x ∧ H wd = some (.lst []) ∧ Q .non H
def spORun : Sp := fun vs H Q _ => ∃ (d mk wd : Addr) (oa : Oa) (oe : Oe) (x : Pm) (w : Nat) (m : Int), vs = [.ref d, .int m, .str (wdK w), .ref mk, .ref wd] ∧ (w = 0 ∨ w = 1 ∨ w = 2) ∧ Om H d oa oe x ∧ PrN x ∧ H mk = some (.dK []) ∧ H wd = some (.lst []) ∧ ¬ FtO d oa mk ∧ ¬ FtO d oa wd ∧ 0 ≤ m ∧ m ≤ 1000 ∧ (x.n : Int) + m < 90000 ∧
  ∀ H' oa' oe' v, Fr (FtO d oa) H (FtO d oa') H' → Om H' d oa' oe' (goP m (enK w x.rows.length false) x).2.2 → RzAt H' v (goP m (enK w x.rows.length false) x).1 → Q v H'
section
variable {P : Program} {w : World} {K : PySem.W.Frag} {mg : Str → Option Value} {base : Heap} {CB CM : Addr}
abbrev sLmkd : Stmt := topS 122
def scLmkdN : List Str := ["_law_s", "_law_marks", "_law_due"]
theorem scLmkd : FnScope scLmkdN ["_law_s", "_law_marks"] (defScope sLmkd) := ⟨rfl, rfl, rfl, by decide +kernel, rfl, by decide +kernel, by decide +kernel⟩
theorem ok_Lmkd {f : Addr} {fd : FuncData} (F : Fun K "_law_marked" "_law_marked" sLmkd f fd) (T : Tx K mg CB CM) : FnOk P w K mg base CX0 1 f fd ["_law_s", "_law_marks"] (spOMarked) := by
  refine F.ok scLmkd (fun vs H Q E h => by obtain ⟨_, _, _, _, _, rfl, _⟩ := h; rfl) (fun cdv A outer s H vs Q E hr h => ?_)
  have hu := hu_of hr
  obtain ⟨d, mk, oa, oe, x, rfl, L, hmk, q⟩ := h
  obtain ⟨sv, hd, hz⟩ := L.hd
  refine ⟨_, (pss_cons (ps_set (i := 2) scLmkd.nd rfl (.inl rfl) (pe_op op_and (pe_ix ix_list (pe_dget hu (pv 0) pe_str (fun _ _ => rfl)) pe_int (fun _ _ => rfl)) (pe_ix ix_list (pe_dget hu (pv 0) pe_str (fun _ _ => rfl)) pe_int (fun _ _ => rfl))))
    (pss_cons (ps_if (PW.pt (pw_or (pt_cmp (pc_dnotin hu (pe_dget hu (pv 0) pe_str (fun _ _ => rfl)) (pv 1))) (pw_or1 (PW.pt (pw_and (pt_val (pe_dget hu (pv 0) pe_str (fun _ _ => rfl))) (pw_and1 (pt_cmpR op_eq (pv 2) pe_int (nomark _)))))))) (pss_one (ps_ret pe_bl)) pss_nil)
    (pss_one (ps_ret (pe_or (pe_not (pe_dget hu (pv 0) pe_str (fun _ _ => rfl))) (pe_one (pe_cmpR op_eq (pv 2) pe_int (nomark _)))))))), ?_⟩
  refine ⟨_, rfl, d, _, rfl, dg (k := Sum.inr "m") hd oG_m, oa.m, _, _, _, rfl, rfl, SqL.of L.hm, atI_rd (by decide) (by rw [L.lm]; decide), _, rfl, d, _, rfl, dg (k := Sum.inr "m") hd oG_m, oa.m, _, _, _, rfl, rfl, SqL.of L.hm, atI_rd (by decide) (by rw [L.lm]; decide), _, _, rfl, rfl, ?_⟩
  refine ⟨_, rfl, d, _, rfl, dg (k := Sum.inr "pc") hd oG_pc, _, rfl, mk, _, rfl, DGet.k (k := Sum.inl x.pc) hmk, _, rfl, ifB (fun _ => q) (fun h => by cases h)⟩
abbrev sLmet : Stmt := topS 123
def scLmetN : List Str := ["_law_s", "_law_windows", "_law_way", "_law_address", "_law_number", "_law_window"]
theorem scLmet : FnScope scLmetN ["_law_s", "_law_windows"] (defScope sLmet) := ⟨rfl, rfl, rfl, by decide +kernel, rfl, by decide +kernel, by decide +kernel⟩
theorem ok_Lmet {f : Addr} {fd : FuncData} (F : Fun K "_law_met" "_law_met" sLmet f fd) (T : Tx K mg CB CM)
    (z_enumerate : mg "enumerate" = none) : FnOk P w K mg base CX0 1 f fd ["_law_s", "_law_windows"] (spOMet) := by
  refine F.ok scLmet (fun vs H Q E h => by obtain ⟨_, _, _, _, _, rfl, _⟩ := h; rfl) (fun cdv A outer s H vs Q E hr h => ?_)
  have hu := hu_of hr
  obtain ⟨d, wd, oa, oe, x, rfl, L, hwd, q⟩ := h
  obtain ⟨sv, hd, hz⟩ := L.hd
  obtain ⟨ts, ht, ht2⟩ := L.ht
  refine ⟨_, (pss_cons (ps_for PassesOwn.never rfl (pi_list (pe_dget hu (pv 0) pe_str (fun _ _ => rfl))) (pg_tup rfl (pgs_cons (pg_name (i := 2) scLmet.nd rfl (.inl rfl)) (pgs_cons (pg_name (i := 3) scLmet.nd rfl (.inl rfl)) pgs_nil)))
      (pss_one (ps_for PassesOwn.never rfl (pi_enum (by rfl) z_enumerate (pa_cons (pv 1) pa_nil)) (pg_tup rfl (pgs_cons (pg_name (i := 4) scLmet.nd rfl (.inl rfl)) (pgs_cons (pg_name (i := 5) scLmet.nd rfl (.inl rfl)) pgs_nil)))
      (pss_one (ps_if (PW.pt (pw_and (pt_cmp (pc_notN (pv 5))) (pw_and (pt_chain op_le op_le (pe_ix ix_list (pv 5) pe_int (fun _ _ => rfl)) (pv 3) (pe_ix ix_list (pv 5) pe_int (fun _ _ => rfl))) (pw_and1 (pt_cmpR op_in_seq (pv 2) (pe_ix ix_list (pv 5) pe_int (fun _ _ => rfl)) (by rfl)))))) (pss_one (ps_ret (pe_tup (pa_cons pe_str (pa_cons (pv 4) (pa_cons (pv 3) (pa_cons (pv 2) pa_nil))))))) pss_nil)))))
    (pss_one (ps_ret pe_non))), ?_⟩
  refine ⟨_, rfl, d, _, rfl, dg (k := Sum.inr "touched") hd oG_touched, oa.to, rfl, ⟨_, SqL.of ht⟩, ?_⟩
  refine for_list (K := K) (a := oa.to) (xs := ts) (fun i σ H' => H' = H ∧ ∃ y2 y3 y4 y5 : Option V, σ = [some (.ref d), some (.ref wd), y2, y3, y4, y5]) ⟨rfl, none, none, none, none, rfl⟩ (fun i σ H' _ h => by rw [h.1]; exact SqL.of ht) ?_ ?_
  · rintro i v σ H1 hv ⟨rfl, y2, y3, y4, y5, rfl⟩
    obtain ⟨q9, t, rfl, e1, e2⟩ := TouAt.get ht2 hv
    refine ⟨q9, _, rfl, SqT.of e2, rfl, _, _, rfl, _, _, rfl, rfl, ?_⟩
    refine ⟨_, rfl, wd, _, rfl, SqL.of hwd, ?_⟩
    refine for_enum (K := K) (a := wd) (xs := []) (fun j σ H' => H' = H1 ∧ ∃ y4 y5 : Option V, σ = [some (.ref d), some (.ref wd), some (.str (kS t.1)), some (.int t.2), y4, y5]) ⟨rfl, y4, y5, rfl⟩ (fun j σ H' _ h => by rw [h.1]; exact SqL.of hwd) (fun j x T_ σ H2 hj => by cases hj) ?_
    rintro σ H2 ⟨rfl, z4, z5, rfl⟩
    exact ⟨rfl, _, _, _, _, rfl⟩
  · rintro σ H1 ⟨rfl, y2, y3, y4, y5, rfl⟩
    exact q
abbrev sLrun : Stmt := topS 124
def scLrunN : List Str := ["_law_s", "_law_many", "_law_word", "_law_marks", "_law_windows", "_law_base", "_law_begun", "_law_k", "_law_ahead"]
theorem scLrun : FnScope scLrunN ["_law_s", "_law_many", "_law_word", "_law_marks", "_law_windows"] (defScope sLrun) := ⟨rfl, rfl, rfl, by decide +kernel, rfl, by decide +kernel, by decide +kernel⟩
theorem ok_Lrun {f : Addr} {fd : FuncData} {fL_met : Addr} {dL_met : FuncData} {fL_mkd : Addr} {dL_mkd : FuncData} {fL_seen : Addr} {dL_seen : FuncData} (F : Fun K "_law_run" "_law_run" sLrun f fd) (T : Tx K mg CB CM)
    (L_met : CalF P w K mg base 1 "_law_met" ["_law_s", "_law_windows"] (spOMet) fL_met dL_met)
    (L_mkd : CalF P w K mg base 1 "_law_marked" ["_law_s", "_law_marks"] (spOMarked) fL_mkd dL_mkd)
    (L_seen : CalF P w K mg base 5 "_law_seen" ["_law_s"] (spOSeen) fL_seen dL_seen) : FnOk P w K mg base CX0 6 f fd ["_law_s", "_law_many", "_law_word", "_law_marks", "_law_windows"] (spORun) := by
  refine F.ok scLrun (fun vs H Q E h => by obtain ⟨_, _, _, _, _, _, _, _, rfl, _⟩ := h; rfl) (fun cdv A outer s H vs Q E hr h => ?_)
  have hu := hu_of hr
  have z_len := T.z_len
  have z_range := T.z_range
  obtain ⟨d, mk, wd, oa, oe, x, w, m, rfl, hw3, M0, N0, hmk, hwd, nmk, nwd, m0, m1, hn, q⟩ := h
  refine ⟨_, (pss_cons (ps_set (i := 5) scLrun.nd rfl (.inl rfl) (pe_callB call_len_seq (by rfl) z_len PySem.boot_len (pa_cons (pe_dget hu (pv 0) pe_str (fun _ _ => rfl)) pa_nil)))
    (pss_cons (ps_set (i := 6) scLrun.nd rfl (.inl rfl) pe_bl)
    (pss_cons (ps_for PassesOwn.never rfl (pi_range1 (by rfl) z_range (pa_cons (pv 1) pa_nil)) (pg_name (i := 7) scLrun.nd rfl (.inl rfl))
      (pss_cons (ps_if (pt_cmp (pc_notN (pe_dget hu (pv 0) pe_str (fun _ _ => rfl)))) (pss_one (ps_ret (pe_dget hu (pv 0) pe_str (fun _ _ => rfl)))) pss_nil)
    (pss_cons (ps_if (PW.pt (pw_and (pt_cmpR op_gt (pv 7) pe_int (nomark _)) (pw_and1 (pt_val (pe_call L_mkd.G (hr.mono (by decide)) (by rfl) L_mkd.g L_mkd.kp L_mkd.b .nil pass0 (pa_cons (pv 0) (pa_cons (pv 3) pa_nil))))))) (pss_one (ps_ret (pe_tup (pa_cons pe_str (pa_cons (pe_dget hu (pv 0) pe_str (fun _ _ => rfl)) pa_nil))))) pss_nil)
    (pss_cons (ps_set (i := 8) scLrun.nd rfl (.inl rfl) (pe_callB call_len_seq (by rfl) z_len PySem.boot_len (pa_cons (pe_dget hu (pv 0) pe_str (fun _ _ => rfl)) pa_nil)))
    (pss_cons (ps_set (i := 6) scLrun.nd rfl (.inl rfl) (pe_or (pe_and (pe_cmpR op_eq (pe_call L_seen.G (hr.mono (by decide)) (by rfl) L_seen.g L_seen.kp L_seen.b .nil pass0 (pa_cons (pv 0) pa_nil)) pe_str (nomark _)) (pe_one (pe_cmpR op_eq (pv 8) (pv 5) (nomark _)))) (pe_one (pv 6))))
    (pss_cons (ps_if (pt_cmp (pc_notN (pe_dget hu (pv 0) pe_str (fun _ _ => rfl)))) (pss_one (ps_ret (pe_dget hu (pv 0) pe_str (fun _ _ => rfl)))) pss_nil)
    (pss_cons (ps_if (pt_cmp (pc_notN (pe_call L_met.G (hr.mono (by decide)) (by rfl) L_met.g L_met.kp L_met.b .nil pass0 (pa_cons (pv 0) (pa_cons (pv 4) pa_nil))))) (pss_one (ps_ret (pe_call L_met.G (hr.mono (by decide)) (by rfl) L_met.g L_met.kp L_met.b .nil pass0 (pa_cons (pv 0) (pa_cons (pv 4) pa_nil))))) pss_nil)
    (pss_one (ps_if (PW.pt (pw_or (PW.pt (pw_and (pt_cmpR op_eq (pv 2) pe_str (nomark _)) (pw_and (pt_val (pv 6)) (pw_and1 (pt_cmpR op_le (pe_callB call_len_seq (by rfl) z_len PySem.boot_len (pa_cons (pe_dget hu (pv 0) pe_str (fun _ _ => rfl)) pa_nil)) (pv 5) (nomark _)))))) (pw_or1 (PW.pt (pw_and (pt_cmpR op_eq (pv 2) pe_str (nomark _)) (pw_and1 (pt_cmpR op_lt (pe_callB call_len_seq (by rfl) z_len PySem.boot_len (pa_cons (pe_dget hu (pv 0) pe_str (fun _ _ => rfl)) pa_nil)) (pv 5) (nomark _)))))))) (pss_one (ps_ret (pe_tup (pa_cons pe_str pa_nil)))) pss_nil)))))))))
    (pss_one (ps_ret (pe_tup (pa_cons pe_str pa_nil))))))), ?_⟩
  obtain ⟨sv, hd, hz⟩ := M0.w.hd
  obtain ⟨us, hf, hu⟩ := M0.w.hf
  have el : us.length = x.rows.length := by rw [hu.len, M0.rows]
  refine ⟨_, rfl, d, _, rfl, dg (k := Sum.inr "frames") hd oG_frames, oa.fl, us, rfl, .inl (SqL.of hf), ?_⟩
  rw [el]
  clear hd hz hf hu el
  refine ⟨_, rfl, m, rfl, by omega, by omega, ?_⟩
  obtain ⟨R, hR⟩ : ∃ R, goP m (enK w x.rows.length false) x = R := ⟨_, rfl⟩
  rw [hR] at q
  refine for_range (lo := 0) (n := m.toNat) (fun i σ H' => ∃ (y7 y8 : Option V) (b : Bool) (oa1 : Oa) (oe1 : Oe) (z : Pm), σ = [some (.ref d), some (.int m), some (.str (wdK w)), some (.ref mk), some (.ref wd), some (.int x.rows.length), some (.bl b), y7, y8] ∧ Fr (FtO d oa) H (FtO d oa1) H' ∧ Om H' d oa1 oe1 z ∧ PrN z ∧ H' mk = some (.dK []) ∧ H' wd = some (.lst []) ∧ ¬ FtO d oa1 mk ∧ ¬ FtO d oa1 wd ∧ (m.toNat = 0 → z = x) ∧ (0 < m.toNat → ∃ E, goN (m.toNat - i) (enK w x.rows.length b) z = (R.1, E, R.2.2)) ∧ (0 < i → z.b.stop = none) ∧ z.n ≤ x.n + i) ⟨none, none, false, oa, oe, x, rfl, Fr.rfl', M0, N0, hmk, hwd, nmk, nwd, fun _ => rfl, fun h => ⟨R.2.1, by
      rw [← hR, Nat.sub_zero]
      have := goN_of m.toNat h (enK w x.rows.length false) x
      rw [Int.toNat_of_nonneg m0] at this
      rw [← this]⟩, (fun h => absurd h (by decide)), Nat.le_refl _⟩ ?_ ?_
  · rintro i σ H1 hi ⟨y7, y8, b, oa1, oe1, z, rfl, f1, M, N, mk1, wd1, nmk1, nwd1, hz0, heR, hst, hzn⟩
    obtain ⟨E, eR⟩ := heR (by omega)
    obtain ⟨sv1, hd1, hz1⟩ := M.w.hd
    refine ⟨_, rfl, d, _, rfl, dg (k := Sum.inr "stop") hd1 oG_stop, _, rfl, ?_⟩
    cases es : z.b.stop with
    | some s =>
      rw [goN_stop es] at eR
      obtain ⟨e1, e2⟩ : Cz.stop s = R.1 ∧ z = R.2.2 := ⟨congrArg (·.1) eR, congrArg (·.2.2) eR⟩
      rw [es] at hz1
      have hz2 := hz1
      obtain ⟨q9, eq9, _⟩ := hz2
      refine ifN (fun _ => ?_) (fun h => by rw [eq9] at h; cases of_decide_eq_true h)
      rw [← e1, ← e2] at q
      exact ⟨_, rfl, d, _, rfl, dg (k := Sum.inr "stop") hd1 oG_stop, q H1 oa1 oe1 sv1 f1 M hz1⟩
    | none =>
      rw [es] at hz1
      have esv : sv1 = .non := hz1
      refine ifN (fun h => absurd esv (of_decide_eq_false h)) (fun _ => ?_)
      refine ⟨_, rfl, _, _, rfl, rfl, _, rfl, ifB (fun _ => ?_) (fun _ => ?_)⟩
      · refine ⟨_, rfl, _, rfl, d, mk, oa1, oe1, _, rfl, M.w, mk1, _, rfl, ifB (fun h => by cases h) (fun _ => ?_)⟩
        obtain ⟨us1, hf1, hu1⟩ := M.w.hf
        have el1 : us1.length = z.rows.length := by rw [hu1.len, M.rows]
        refine ⟨_, rfl, d, _, rfl, dg (k := Sum.inr "frames") hd1 oG_frames, oa1.fl, us1, rfl, .inl (SqL.of hf1), ?_⟩
        rw [el1]
        refine ⟨_, rfl, d, oa1, oe1, z, rfl, M, N, by omega, fun G2 oa2 oe2 f2 M2 ov2 tu2 rg2 => ?_⟩
        have mk2 := f2.keep _ _ nmk1 mk1
        have wd2 := f2.keep _ _ nwd1 wd1
        have nmk2 : ¬ FtO d oa2 mk := fun y => by
          rcases f2.new mk y with y | y
          · exact nmk1 y
          · rw [mk1] at y; cases y
        have nwd2 : ¬ FtO d oa2 wd := fun y => by
          rcases f2.new wd y with y | y
          · exact nwd1 y
          · rw [wd1] at y; cases y
        have f2 := f1.trans f2
        have hi6 : m.toNat - i = (m.toNat - (i + 1)) + 1 := by omega
        cases es2 : (noteTM z).2.b.stop with
        | some s =>
          rw [hi6, goN_turn_stop es es2] at eR
          obtain ⟨e1, e2⟩ : Cz.stop s = R.1 ∧ (noteTM z).2 = R.2.2 := ⟨congrArg (·.1) eR, congrArg (·.2.2) eR⟩
          rw [← e1, ← e2] at q
          have stp : ∀ v, StopAt G2 v (some s) → Q v G2 := fun v hv => q G2 oa2 oe2 v f2 M2 hv
          obtain ⟨sv3, hd3, hz3⟩ := M2.w.hd
          rw [es2] at hz3
          have hz4 := hz3
          obtain ⟨q9, eq9, _⟩ := hz4
          have stop : ∀ (σ' : List (Option V)), True := fun _ => trivial
          by_cases hso : (noteTM z).1 = ("deed" : Str)
          · refine ⟨rfl, _, rfl, ifB (fun _ => ?_) (fun h => absurd (congrArg V.str hso) (of_decide_eq_false h))⟩
            refine ⟨_, rfl, _, rfl, rfl, _, rfl, ifB (fun h => ?_) (fun h => ?_)⟩
            · refine ⟨_, rfl, d, _, rfl, dg (k := Sum.inr "stop") hd3 oG_stop, _, rfl, ifN (fun _ => ?_) (fun h => by rw [eq9] at h; cases of_decide_eq_true h)⟩
              exact ⟨_, rfl, d, _, rfl, dg (k := Sum.inr "stop") hd3 oG_stop, stp sv3 hz3⟩
            · refine ⟨_, rfl, _, rfl, d, _, rfl, dg (k := Sum.inr "stop") hd3 oG_stop, _, rfl, ifN (fun _ => ?_) (fun h => by rw [eq9] at h; cases of_decide_eq_true h)⟩
              exact ⟨_, rfl, d, _, rfl, dg (k := Sum.inr "stop") hd3 oG_stop, stp sv3 hz3⟩
          · refine ⟨rfl, _, rfl, ifB (fun h => absurd (V.str.inj (of_decide_eq_true h)) hso) (fun _ => ⟨_, rfl, ifB (fun h => by cases h) (fun _ => ⟨_, rfl, ?_⟩)⟩)⟩
            refine ⟨_, rfl, d, _, rfl, dg (k := Sum.inr "stop") hd3 oG_stop, _, rfl, ifN (fun _ => ?_) (fun h => by rw [eq9] at h; cases of_decide_eq_true h)⟩
            exact ⟨_, rfl, d, _, rfl, dg (k := Sum.inr "stop") hd3 oG_stop, stp sv3 hz3⟩
        | none =>
          have nn := note_n z
          rw [hi6, goN_turn es es2, enK_step] at eR
          have eR2 := eR
          by_cases hso : (noteTM z).1 = ("deed" : Str)
          · refine ⟨rfl, _, rfl, ifB (fun _ => ?_) (fun h => absurd (congrArg V.str hso) (of_decide_eq_false h))⟩
            refine ⟨_, rfl, _, rfl, rfl, _, rfl, ifB (fun h => ?_) (fun h => ?_)⟩
            · have eb : overB b (noteTM z).1 z.rows.length x.rows.length = true := if_pos ⟨hso, V.int.inj (of_decide_eq_true h)⟩
              rw [comesK, eb] at eR
              obtain ⟨sv3, hd3, hz3⟩ := M2.w.hd
              obtain ⟨us3, hf3, hu3⟩ := M2.w.hf
              have el3 : us3.length = (noteTM z).2.rows.length := by rw [hu3.len, M2.rows]
              refine ⟨_, rfl, d, _, rfl, dg (k := Sum.inr "stop") hd3 oG_stop, _, rfl, ?_⟩
              have hz3' := hz3
              rw [es2] at hz3'
              have esv3 : sv3 = .non := hz3'
              refine ifN (fun h => absurd esv3 (of_decide_eq_false h)) (fun _ => ?_)
              refine ⟨_, rfl, _, rfl, d, wd, oa2, oe2, _, rfl, M2.w, wd2, _, rfl, ifN (fun h => absurd rfl (of_decide_eq_false h)) (fun _ => ?_)⟩
              rcases hw3 with rfl | rfl | rfl
              · -- go
                have eR : (if false = true then (Cz.done, enK 0 x.rows.length true, (noteTM z).2) else goN (m.toNat - (i + 1)) (enK 0 x.rows.length true) (noteTM z).2) = (R.1, E, R.2.2) := eR
                refine ⟨_, rfl, rfl, _, rfl, ifB (fun h => absurd (V.str.inj (of_decide_eq_true h)) (by decide +kernel)) (fun _ => ?_)⟩
                refine ⟨_, rfl, rfl, _, rfl, ifB (fun h => absurd (V.str.inj (of_decide_eq_true h)) (by decide +kernel)) (fun _ => ?_)⟩
                have hc : false = false := rfl
                exact ⟨_, _, true, oa2, oe2, (noteTM z).2, rfl, f2, M2, N.note, mk2, wd2, nmk2, nwd2, fun h => by omega, fun _ => ⟨E, by rw [if_neg (by rw [hc]; decide)] at eR; exact eR⟩, fun _ => es2, by rw [note_n]; omega⟩
              · -- over
                have eR : (if (true && decide (((noteTM z).2.rows.length : Int) ≤ (x.rows.length : Int))) = true then (Cz.done, enK 1 x.rows.length true, (noteTM z).2) else goN (m.toNat - (i + 1)) (enK 1 x.rows.length true) (noteTM z).2) = (R.1, E, R.2.2) := eR
                refine ⟨_, rfl, rfl, _, rfl, ifB (fun _ => ?_) (fun h => absurd rfl (of_decide_eq_false h))⟩
                refine ⟨_, rfl, _, rfl, ?_⟩
                have notout : ∀ (hc : (true && decide (((noteTM z).2.rows.length : Int) ≤ (x.rows.length : Int))) = false), True := fun _ => trivial
                refine ifB (fun _ => ?_) (fun h => by cases h)
                refine ⟨_, rfl, d, _, rfl, dg (k := Sum.inr "frames") hd3 oG_frames, oa2.fl, us3, rfl, .inl (SqL.of hf3), _, rfl, _, _, rfl, rfl, _, rfl, ?_⟩
                rw [el3]
                refine ifB (fun hc => ?_) (fun hc => ?_)
                · have hc : (true && decide (((noteTM z).2.rows.length : Int) ≤ (x.rows.length : Int))) = true := hc
                  have hR := eR
                  rw [if_pos hc] at hR
                  obtain ⟨e1, e2⟩ : Cz.done = R.1 ∧ (noteTM z).2 = R.2.2 := ⟨congrArg (·.1) hR, congrArg (·.2.2) hR⟩
                  rw [← e1, ← e2] at q
                  refine ⟨(by show 1 ≤ sizeLine; decide), fun t nt => ?_⟩
                  have s5 := same_upd' (o := .tup [V.str "done"]) nt
                  exact q _ oa2 oe2 _ (f2.trans (Fr.of_same s5)) (M2.same s5) ⟨t, rfl, upd_same⟩
                · have hc : (true && decide (((noteTM z).2.rows.length : Int) ≤ (x.rows.length : Int))) = false := hc
                  refine ⟨_, rfl, rfl, _, rfl, ifB (fun h => absurd (V.str.inj (of_decide_eq_true h)) (by decide +kernel)) (fun _ => ?_)⟩
                  exact ⟨_, _, true, oa2, oe2, (noteTM z).2, rfl, f2, M2, N.note, mk2, wd2, nmk2, nwd2, fun h => by omega, fun _ => ⟨E, by rw [if_neg (by rw [hc]; decide)] at eR; exact eR⟩, fun _ => es2, by rw [note_n]; omega⟩
              · -- out
                have eR : (if decide (((noteTM z).2.rows.length : Int) < (x.rows.length : Int)) = true then (Cz.done, enK 2 x.rows.length true, (noteTM z).2) else goN (m.toNat - (i + 1)) (enK 2 x.rows.length true) (noteTM z).2) = (R.1, E, R.2.2) := eR
                refine ⟨_, rfl, rfl, _, rfl, ifB (fun h => absurd (V.str.inj (of_decide_eq_true h)) (by decide +kernel)) (fun _ => ?_)⟩
                refine ⟨_, rfl, rfl, _, rfl, ifB (fun _ => ?_) (fun h => absurd rfl (of_decide_eq_false h))⟩
                refine ⟨_, rfl, d, _, rfl, dg (k := Sum.inr "frames") hd3 oG_frames, oa2.fl, us3, rfl, .inl (SqL.of hf3), _, rfl, _, _, rfl, rfl, _, rfl, ?_⟩
                rw [el3]
                refine ifB (fun hc => ?_) (fun hc => ?_)
                · have hR := eR
                  rw [if_pos hc] at hR
                  obtain ⟨e1, e2⟩ : Cz.done = R.1 ∧ (noteTM z).2 = R.2.2 := ⟨congrArg (·.1) hR, congrArg (·.2.2) hR⟩
                  rw [← e1, ← e2] at q
                  refine ⟨(by show 1 ≤ sizeLine; decide), fun t nt => ?_⟩
                  have s5 := same_upd' (o := .tup [V.str "done"]) nt
                  exact q _ oa2 oe2 _ (f2.trans (Fr.of_same s5)) (M2.same s5) ⟨t, rfl, upd_same⟩
                · exact ⟨_, _, true, oa2, oe2, (noteTM z).2, rfl, f2, M2, N.note, mk2, wd2, nmk2, nwd2, fun h => by omega, fun _ => ⟨E, by rw [if_neg (by rw [hc]; decide)] at eR; exact eR⟩, fun _ => es2, by rw [note_n]; omega⟩
            · have eb : overB b (noteTM z).1 z.rows.length x.rows.length = b := if_neg (fun y => of_decide_eq_false h (congrArg V.int y.2))
              rw [comesK, eb] at eR
              refine ⟨_, rfl, ?_⟩
              obtain ⟨sv3, hd3, hz3⟩ := M2.w.hd
              obtain ⟨us3, hf3, hu3⟩ := M2.w.hf
              have el3 : us3.length = (noteTM z).2.rows.length := by rw [hu3.len, M2.rows]
              refine ⟨_, rfl, d, _, rfl, dg (k := Sum.inr "stop") hd3 oG_stop, _, rfl, ?_⟩
              have hz3' := hz3
              rw [es2] at hz3'
              have esv3 : sv3 = .non := hz3'
              refine ifN (fun h => absurd esv3 (of_decide_eq_false h)) (fun _ => ?_)
              refine ⟨_, rfl, _, rfl, d, wd, oa2, oe2, _, rfl, M2.w, wd2, _, rfl, ifN (fun h => absurd rfl (of_decide_eq_false h)) (fun _ => ?_)⟩
              rcases hw3 with rfl | rfl | rfl
              · -- go
                have eR : (if false = true then (Cz.done, enK 0 x.rows.length b, (noteTM z).2) else goN (m.toNat - (i + 1)) (enK 0 x.rows.length b) (noteTM z).2) = (R.1, E, R.2.2) := eR
                refine ⟨_, rfl, rfl, _, rfl, ifB (fun h => absurd (V.str.inj (of_decide_eq_true h)) (by decide +kernel)) (fun _ => ?_)⟩
                refine ⟨_, rfl, rfl, _, rfl, ifB (fun h => absurd (V.str.inj (of_decide_eq_true h)) (by decide +kernel)) (fun _ => ?_)⟩
                have hc : false = false := rfl
                exact ⟨_, _, b, oa2, oe2, (noteTM z).2, rfl, f2, M2, N.note, mk2, wd2, nmk2, nwd2, fun h => by omega, fun _ => ⟨E, by rw [if_neg (by rw [hc]; decide)] at eR; exact eR⟩, fun _ => es2, by rw [note_n]; omega⟩
              · -- over
                have eR : (if (b && decide (((noteTM z).2.rows.length : Int) ≤ (x.rows.length : Int))) = true then (Cz.done, enK 1 x.rows.length b, (noteTM z).2) else goN (m.toNat - (i + 1)) (enK 1 x.rows.length b) (noteTM z).2) = (R.1, E, R.2.2) := eR
                refine ⟨_, rfl, rfl, _, rfl, ifB (fun _ => ?_) (fun h => absurd rfl (of_decide_eq_false h))⟩
                refine ⟨_, rfl, _, rfl, ?_⟩
                have notout : ∀ (hc : (b && decide (((noteTM z).2.rows.length : Int) ≤ (x.rows.length : Int))) = false), True := fun _ => trivial
                cases b with
                | true =>
                  refine ifB (fun _ => ?_) (fun h => by cases h)
                  refine ⟨_, rfl, d, _, rfl, dg (k := Sum.inr "frames") hd3 oG_frames, oa2.fl, us3, rfl, .inl (SqL.of hf3), _, rfl, _, _, rfl, rfl, _, rfl, ?_⟩
                  rw [el3]
                  refine ifB (fun hc => ?_) (fun hc => ?_)
                  · have hc : (true && decide (((noteTM z).2.rows.length : Int) ≤ (x.rows.length : Int))) = true := hc
                    have hR := eR
                    rw [if_pos hc] at hR
                    obtain ⟨e1, e2⟩ : Cz.done = R.1 ∧ (noteTM z).2 = R.2.2 := ⟨congrArg (·.1) hR, congrArg (·.2.2) hR⟩
                    rw [← e1, ← e2] at q
                    refine ⟨(by show 1 ≤ sizeLine; decide), fun t nt => ?_⟩
                    have s5 := same_upd' (o := .tup [V.str "done"]) nt
                    exact q _ oa2 oe2 _ (f2.trans (Fr.of_same s5)) (M2.same s5) ⟨t, rfl, upd_same⟩
                  · have hc : (true && decide (((noteTM z).2.rows.length : Int) ≤ (x.rows.length : Int))) = false := hc
                    refine ⟨_, rfl, rfl, _, rfl, ifB (fun h => absurd (V.str.inj (of_decide_eq_true h)) (by decide +kernel)) (fun _ => ?_)⟩
                    exact ⟨_, _, true, oa2, oe2, (noteTM z).2, rfl, f2, M2, N.note, mk2, wd2, nmk2, nwd2, fun h => by omega, fun _ => ⟨E, by rw [if_neg (by rw [hc]; decide)] at eR; exact eR⟩, fun _ => es2, by rw [note_n]; omega⟩
                | false =>
                  refine ifB (fun h => by cases h) (fun _ => ?_)
                  have hc : (false && decide (((noteTM z).2.rows.length : Int) ≤ (x.rows.length : Int))) = false := rfl
                  refine ⟨_, rfl, rfl, _, rfl, ifB (fun h => absurd (V.str.inj (of_decide_eq_true h)) (by decide +kernel)) (fun _ => ?_)⟩
                  exact ⟨_, _, false, oa2, oe2, (noteTM z).2, rfl, f2, M2, N.note, mk2, wd2, nmk2, nwd2, fun h => by omega, fun _ => ⟨E, by rw [if_neg (by rw [hc]; decide)] at eR; exact eR⟩, fun _ => es2, by rw [note_n]; omega⟩
              · -- out
                have eR : (if decide (((noteTM z).2.rows.length : Int) < (x.rows.length : Int)) = true then (Cz.done, enK 2 x.rows.length b, (noteTM z).2) else goN (m.toNat - (i + 1)) (enK 2 x.rows.length b) (noteTM z).2) = (R.1, E, R.2.2) := eR
                refine ⟨_, rfl, rfl, _, rfl, ifB (fun h => absurd (V.str.inj (of_decide_eq_true h)) (by decide +kernel)) (fun _ => ?_)⟩
                refine ⟨_, rfl, rfl, _, rfl, ifB (fun _ => ?_) (fun h => absurd rfl (of_decide_eq_false h))⟩
                refine ⟨_, rfl, d, _, rfl, dg (k := Sum.inr "frames") hd3 oG_frames, oa2.fl, us3, rfl, .inl (SqL.of hf3), _, rfl, _, _, rfl, rfl, _, rfl, ?_⟩
                rw [el3]
                refine ifB (fun hc => ?_) (fun hc => ?_)
                · have hR := eR
                  rw [if_pos hc] at hR
                  obtain ⟨e1, e2⟩ : Cz.done = R.1 ∧ (noteTM z).2 = R.2.2 := ⟨congrArg (·.1) hR, congrArg (·.2.2) hR⟩
                  rw [← e1, ← e2] at q
                  refine ⟨(by show 1 ≤ sizeLine; decide), fun t nt => ?_⟩
                  have s5 := same_upd' (o := .tup [V.str "done"]) nt
                  exact q _ oa2 oe2 _ (f2.trans (Fr.of_same s5)) (M2.same s5) ⟨t, rfl, upd_same⟩
                · exact ⟨_, _, b, oa2, oe2, (noteTM z).2, rfl, f2, M2, N.note, mk2, wd2, nmk2, nwd2, fun h => by omega, fun _ => ⟨E, by rw [if_neg (by rw [hc]; decide)] at eR; exact eR⟩, fun _ => es2, by rw [note_n]; omega⟩
          · have eb : overB b (noteTM z).1 z.rows.length x.rows.length = b := if_neg (fun y => hso y.1)
            rw [comesK, eb] at eR
            refine ⟨rfl, _, rfl, ifB (fun h => absurd (V.str.inj (of_decide_eq_true h)) hso) (fun _ => ⟨_, rfl, ifB (fun h => by cases h) (fun _ => ⟨_, rfl, ?_⟩)⟩)⟩
            obtain ⟨sv3, hd3, hz3⟩ := M2.w.hd
            obtain ⟨us3, hf3, hu3⟩ := M2.w.hf
            have el3 : us3.length = (noteTM z).2.rows.length := by rw [hu3.len, M2.rows]
            refine ⟨_, rfl, d, _, rfl, dg (k := Sum.inr "stop") hd3 oG_stop, _, rfl, ?_⟩
            have hz3' := hz3
            rw [es2] at hz3'
            have esv3 : sv3 = .non := hz3'
            refine ifN (fun h => absurd esv3 (of_decide_eq_false h)) (fun _ => ?_)
            refine ⟨_, rfl, _, rfl, d, wd, oa2, oe2, _, rfl, M2.w, wd2, _, rfl, ifN (fun h => absurd rfl (of_decide_eq_false h)) (fun _ => ?_)⟩
            rcases hw3 with rfl | rfl | rfl
            · -- go
              have eR : (if false = true then (Cz.done, enK 0 x.rows.length b, (noteTM z).2) else goN (m.toNat - (i + 1)) (enK 0 x.rows.length b) (noteTM z).2) = (R.1, E, R.2.2) := eR
              refine ⟨_, rfl, rfl, _, rfl, ifB (fun h => absurd (V.str.inj (of_decide_eq_true h)) (by decide +kernel)) (fun _ => ?_)⟩
              refine ⟨_, rfl, rfl, _, rfl, ifB (fun h => absurd (V.str.inj (of_decide_eq_true h)) (by decide +kernel)) (fun _ => ?_)⟩
              have hc : false = false := rfl
              exact ⟨_, _, b, oa2, oe2, (noteTM z).2, rfl, f2, M2, N.note, mk2, wd2, nmk2, nwd2, fun h => by omega, fun _ => ⟨E, by rw [if_neg (by rw [hc]; decide)] at eR; exact eR⟩, fun _ => es2, by rw [note_n]; omega⟩
            · -- over
              have eR : (if (b && decide (((noteTM z).2.rows.length : Int) ≤ (x.rows.length : Int))) = true then (Cz.done, enK 1 x.rows.length b, (noteTM z).2) else goN (m.toNat - (i + 1)) (enK 1 x.rows.length b) (noteTM z).2) = (R.1, E, R.2.2) := eR
              refine ⟨_, rfl, rfl, _, rfl, ifB (fun _ => ?_) (fun h => absurd rfl (of_decide_eq_false h))⟩
              refine ⟨_, rfl, _, rfl, ?_⟩
              have notout : ∀ (hc : (b && decide (((noteTM z).2.rows.length : Int) ≤ (x.rows.length : Int))) = false), True := fun _ => trivial
              cases b with
              | true =>
                refine ifB (fun _ => ?_) (fun h => by cases h)
                refine ⟨_, rfl, d, _, rfl, dg (k := Sum.inr "frames") hd3 oG_frames, oa2.fl, us3, rfl, .inl (SqL.of hf3), _, rfl, _, _, rfl, rfl, _, rfl, ?_⟩
                rw [el3]
                refine ifB (fun hc => ?_) (fun hc => ?_)
                · have hc : (true && decide (((noteTM z).2.rows.length : Int) ≤ (x.rows.length : Int))) = true := hc
                  have hR := eR
                  rw [if_pos hc] at hR
                  obtain ⟨e1, e2⟩ : Cz.done = R.1 ∧ (noteTM z).2 = R.2.2 := ⟨congrArg (·.1) hR, congrArg (·.2.2) hR⟩
                  rw [← e1, ← e2] at q
                  refine ⟨(by show 1 ≤ sizeLine; decide), fun t nt => ?_⟩
                  have s5 := same_upd' (o := .tup [V.str "done"]) nt
                  exact q _ oa2 oe2 _ (f2.trans (Fr.of_same s5)) (M2.same s5) ⟨t, rfl, upd_same⟩
                · have hc : (true && decide (((noteTM z).2.rows.length : Int) ≤ (x.rows.length : Int))) = false := hc
                  refine ⟨_, rfl, rfl, _, rfl, ifB (fun h => absurd (V.str.inj (of_decide_eq_true h)) (by decide +kernel)) (fun _ => ?_)⟩
                  exact ⟨_, _, true, oa2, oe2, (noteTM z).2, rfl, f2, M2, N.note, mk2, wd2, nmk2, nwd2, fun h => by omega, fun _ => ⟨E, by rw [if_neg (by rw [hc]; decide)] at eR; exact eR⟩, fun _ => es2, by rw [note_n]; omega⟩
              | false =>
                refine ifB (fun h => by cases h) (fun _ => ?_)
                have hc : (false && decide (((noteTM z).2.rows.length : Int) ≤ (x.rows.length : Int))) = false := rfl
                refine ⟨_, rfl, rfl, _, rfl, ifB (fun h => absurd (V.str.inj (of_decide_eq_true h)) (by decide +kernel)) (fun _ => ?_)⟩
                exact ⟨_, _, false, oa2, oe2, (noteTM z).2, rfl, f2, M2, N.note, mk2, wd2, nmk2, nwd2, fun h => by omega, fun _ => ⟨E, by rw [if_neg (by rw [hc]; decide)] at eR; exact eR⟩, fun _ => es2, by rw [note_n]; omega⟩
            · -- out
              have eR : (if decide (((noteTM z).2.rows.length : Int) < (x.rows.length : Int)) = true then (Cz.done, enK 2 x.rows.length b, (noteTM z).2) else goN (m.toNat - (i + 1)) (enK 2 x.rows.length b) (noteTM z).2) = (R.1, E, R.2.2) := eR
              refine ⟨_, rfl, rfl, _, rfl, ifB (fun h => absurd (V.str.inj (of_decide_eq_true h)) (by decide +kernel)) (fun _ => ?_)⟩
              refine ⟨_, rfl, rfl, _, rfl, ifB (fun _ => ?_) (fun h => absurd rfl (of_decide_eq_false h))⟩
              refine ⟨_, rfl, d, _, rfl, dg (k := Sum.inr "frames") hd3 oG_frames, oa2.fl, us3, rfl, .inl (SqL.of hf3), _, rfl, _, _, rfl, rfl, _, rfl, ?_⟩
              rw [el3]
              refine ifB (fun hc => ?_) (fun hc => ?_)
              · have hR := eR
                rw [if_pos hc] at hR
                obtain ⟨e1, e2⟩ : Cz.done = R.1 ∧ (noteTM z).2 = R.2.2 := ⟨congrArg (·.1) hR, congrArg (·.2.2) hR⟩
                rw [← e1, ← e2] at q
                refine ⟨(by show 1 ≤ sizeLine; decide), fun t nt => ?_⟩
                have s5 := same_upd' (o := .tup [V.str "done"]) nt
                exact q _ oa2 oe2 _ (f2.trans (Fr.of_same s5)) (M2.same s5) ⟨t, rfl, upd_same⟩
              · exact ⟨_, _, b, oa2, oe2, (noteTM z).2, rfl, f2, M2, N.note, mk2, wd2, nmk2, nwd2, fun h => by omega, fun _ => ⟨E, by rw [if_neg (by rw [hc]; decide)] at eR; exact eR⟩, fun _ => es2, by rw [note_n]; omega⟩
      · refine ifB (fun h => by cases h) (fun _ => ?_)
        obtain ⟨us1, hf1, hu1⟩ := M.w.hf
        have el1 : us1.length = z.rows.length := by rw [hu1.len, M.rows]
        refine ⟨_, rfl, d, _, rfl, dg (k := Sum.inr "frames") hd1 oG_frames, oa1.fl, us1, rfl, .inl (SqL.of hf1), ?_⟩
        rw [el1]
        refine ⟨_, rfl, d, oa1, oe1, z, rfl, M, N, by omega, fun G2 oa2 oe2 f2 M2 ov2 tu2 rg2 => ?_⟩
        have mk2 := f2.keep _ _ nmk1 mk1
        have wd2 := f2.keep _ _ nwd1 wd1
        have nmk2 : ¬ FtO d oa2 mk := fun y => by
          rcases f2.new mk y with y | y
          · exact nmk1 y
          · rw [mk1] at y; cases y
        have nwd2 : ¬ FtO d oa2 wd := fun y => by
          rcases f2.new wd y with y | y
          · exact nwd1 y
          · rw [wd1] at y; cases y
        have f2 := f1.trans f2
        have hi6 : m.toNat - i = (m.toNat - (i + 1)) + 1 := by omega
        cases es2 : (noteTM z).2.b.stop with
        | some s =>
          rw [hi6, goN_turn_stop es es2] at eR
          obtain ⟨e1, e2⟩ : Cz.stop s = R.1 ∧ (noteTM z).2 = R.2.2 := ⟨congrArg (·.1) eR, congrArg (·.2.2) eR⟩
          rw [← e1, ← e2] at q
          have stp : ∀ v, StopAt G2 v (some s) → Q v G2 := fun v hv => q G2 oa2 oe2 v f2 M2 hv
          obtain ⟨sv3, hd3, hz3⟩ := M2.w.hd
          rw [es2] at hz3
          have hz4 := hz3
          obtain ⟨q9, eq9, _⟩ := hz4
          have stop : ∀ (σ' : List (Option V)), True := fun _ => trivial
          by_cases hso : (noteTM z).1 = ("deed" : Str)
          · refine ⟨rfl, _, rfl, ifB (fun _ => ?_) (fun h => absurd (congrArg V.str hso) (of_decide_eq_false h))⟩
            refine ⟨_, rfl, _, rfl, rfl, _, rfl, ifB (fun h => ?_) (fun h => ?_)⟩
            · refine ⟨_, rfl, d, _, rfl, dg (k := Sum.inr "stop") hd3 oG_stop, _, rfl, ifN (fun _ => ?_) (fun h => by rw [eq9] at h; cases of_decide_eq_true h)⟩
              exact ⟨_, rfl, d, _, rfl, dg (k := Sum.inr "stop") hd3 oG_stop, stp sv3 hz3⟩
            · refine ⟨_, rfl, _, rfl, d, _, rfl, dg (k := Sum.inr "stop") hd3 oG_stop, _, rfl, ifN (fun _ => ?_) (fun h => by rw [eq9] at h; cases of_decide_eq_true h)⟩
              exact ⟨_, rfl, d, _, rfl, dg (k := Sum.inr "stop") hd3 oG_stop, stp sv3 hz3⟩
          · refine ⟨rfl, _, rfl, ifB (fun h => absurd (V.str.inj (of_decide_eq_true h)) hso) (fun _ => ⟨_, rfl, ifB (fun h => by cases h) (fun _ => ⟨_, rfl, ?_⟩)⟩)⟩
            refine ⟨_, rfl, d, _, rfl, dg (k := Sum.inr "stop") hd3 oG_stop, _, rfl, ifN (fun _ => ?_) (fun h => by rw [eq9] at h; cases of_decide_eq_true h)⟩
            exact ⟨_, rfl, d, _, rfl, dg (k := Sum.inr "stop") hd3 oG_stop, stp sv3 hz3⟩
        | none =>
          have nn := note_n z
          rw [hi6, goN_turn es es2, enK_step] at eR
          have eR2 := eR
          by_cases hso : (noteTM z).1 = ("deed" : Str)
          · refine ⟨rfl, _, rfl, ifB (fun _ => ?_) (fun h => absurd (congrArg V.str hso) (of_decide_eq_false h))⟩
            refine ⟨_, rfl, _, rfl, rfl, _, rfl, ifB (fun h => ?_) (fun h => ?_)⟩
            · have eb : overB b (noteTM z).1 z.rows.length x.rows.length = true := if_pos ⟨hso, V.int.inj (of_decide_eq_true h)⟩
              rw [comesK, eb] at eR
              obtain ⟨sv3, hd3, hz3⟩ := M2.w.hd
              obtain ⟨us3, hf3, hu3⟩ := M2.w.hf
              have el3 : us3.length = (noteTM z).2.rows.length := by rw [hu3.len, M2.rows]
              refine ⟨_, rfl, d, _, rfl, dg (k := Sum.inr "stop") hd3 oG_stop, _, rfl, ?_⟩
              have hz3' := hz3
              rw [es2] at hz3'
              have esv3 : sv3 = .non := hz3'
              refine ifN (fun h => absurd esv3 (of_decide_eq_false h)) (fun _ => ?_)
              refine ⟨_, rfl, _, rfl, d, wd, oa2, oe2, _, rfl, M2.w, wd2, _, rfl, ifN (fun h => absurd rfl (of_decide_eq_false h)) (fun _ => ?_)⟩
              rcases hw3 with rfl | rfl | rfl
              · -- go
                have eR : (if false = true then (Cz.done, enK 0 x.rows.length true, (noteTM z).2) else goN (m.toNat - (i + 1)) (enK 0 x.rows.length true) (noteTM z).2) = (R.1, E, R.2.2) := eR
                refine ⟨_, rfl, rfl, _, rfl, ifB (fun h => absurd (V.str.inj (of_decide_eq_true h)) (by decide +kernel)) (fun _ => ?_)⟩
                refine ⟨_, rfl, rfl, _, rfl, ifB (fun h => absurd (V.str.inj (of_decide_eq_true h)) (by decide +kernel)) (fun _ => ?_)⟩
                have hc : false = false := rfl
                exact ⟨_, _, true, oa2, oe2, (noteTM z).2, rfl, f2, M2, N.note, mk2, wd2, nmk2, nwd2, fun h => by omega, fun _ => ⟨E, by rw [if_neg (by rw [hc]; decide)] at eR; exact eR⟩, fun _ => es2, by rw [note_n]; omega⟩
              · -- over
                have eR : (if (true && decide (((noteTM z).2.rows.length : Int) ≤ (x.rows.length : Int))) = true then (Cz.done, enK 1 x.rows.length true, (noteTM z).2) else goN (m.toNat - (i + 1)) (enK 1 x.rows.length true) (noteTM z).2) = (R.1, E, R.2.2) := eR
                refine ⟨_, rfl, rfl, _, rfl, ifB (fun _ => ?_) (fun h => absurd rfl (of_decide_eq_false h))⟩
                refine ⟨_, rfl, _, rfl, ?_⟩
                have notout : ∀ (hc : (true && decide (((noteTM z).2.rows.length : Int) ≤ (x.rows.length : Int))) = false), True := fun _ => trivial
                refine ifB (fun _ => ?_) (fun h => by cases h)
                refine ⟨_, rfl, d, _, rfl, dg (k := Sum.inr "frames") hd3 oG_frames, oa2.fl, us3, rfl, .inl (SqL.of hf3), _, rfl, _, _, rfl, rfl, _, rfl, ?_⟩
                rw [el3]
                refine ifB (fun hc => ?_) (fun hc => ?_)
                · have hc : (true && decide (((noteTM z).2.rows.length : Int) ≤ (x.rows.length : Int))) = true := hc
                  have hR := eR
                  rw [if_pos hc] at hR
                  obtain ⟨e1, e2⟩ : Cz.done = R.1 ∧ (noteTM z).2 = R.2.2 := ⟨congrArg (·.1) hR, congrArg (·.2.2) hR⟩
                  rw [← e1, ← e2] at q
                  refine ⟨(by show 1 ≤ sizeLine; decide), fun t nt => ?_⟩
                  have s5 := same_upd' (o := .tup [V.str "done"]) nt
                  exact q _ oa2 oe2 _ (f2.trans (Fr.of_same s5)) (M2.same s5) ⟨t, rfl, upd_same⟩
                · have hc : (true && decide (((noteTM z).2.rows.length : Int) ≤ (x.rows.length : Int))) = false := hc
                  refine ⟨_, rfl, rfl, _, rfl, ifB (fun h => absurd (V.str.inj (of_decide_eq_true h)) (by decide +kernel)) (fun _ => ?_)⟩
                  exact ⟨_, _, true, oa2, oe2, (noteTM z).2, rfl, f2, M2, N.note, mk2, wd2, nmk2, nwd2, fun h => by omega, fun _ => ⟨E, by rw [if_neg (by rw [hc]; decide)] at eR; exact eR⟩, fun _ => es2, by rw [note_n]; omega⟩
              · -- out
                have eR : (if decide (((noteTM z).2.rows.length : Int) < (x.rows.length : Int)) = true then (Cz.done, enK 2 x.rows.length true, (noteTM z).2) else goN (m.toNat - (i + 1)) (enK 2 x.rows.length true) (noteTM z).2) = (R.1, E, R.2.2) := eR
                refine ⟨_, rfl, rfl, _, rfl, ifB (fun h => absurd (V.str.inj (of_decide_eq_true h)) (by decide +kernel)) (fun _ => ?_)⟩
                refine ⟨_, rfl, rfl, _, rfl, ifB (fun _ => ?_) (fun h => absurd rfl (of_decide_eq_false h))⟩
                refine ⟨_, rfl, d, _, rfl, dg (k := Sum.inr "frames") hd3 oG_frames, oa2.fl, us3, rfl, .inl (SqL.of hf3), _, rfl, _, _, rfl, rfl, _, rfl, ?_⟩
                rw [el3]
                refine ifB (fun hc => ?_) (fun hc => ?_)
                · have hR := eR
                  rw [if_pos hc] at hR
                  obtain ⟨e1, e2⟩ : Cz.done = R.1 ∧ (noteTM z).2 = R.2.2 := ⟨congrArg (·.1) hR, congrArg (·.2.2) hR⟩
                  rw [← e1, ← e2] at q
                  refine ⟨(by show 1 ≤ sizeLine; decide), fun t nt => ?_⟩
                  have s5 := same_upd' (o := .tup [V.str "done"]) nt
                  exact q _ oa2 oe2 _ (f2.trans (Fr.of_same s5)) (M2.same s5) ⟨t, rfl, upd_same⟩
                · exact ⟨_, _, true, oa2, oe2, (noteTM z).2, rfl, f2, M2, N.note, mk2, wd2, nmk2, nwd2, fun h => by omega, fun _ => ⟨E, by rw [if_neg (by rw [hc]; decide)] at eR; exact eR⟩, fun _ => es2, by rw [note_n]; omega⟩
            · have eb : overB b (noteTM z).1 z.rows.length x.rows.length = b := if_neg (fun y => of_decide_eq_false h (congrArg V.int y.2))
              rw [comesK, eb] at eR
              refine ⟨_, rfl, ?_⟩
              obtain ⟨sv3, hd3, hz3⟩ := M2.w.hd
              obtain ⟨us3, hf3, hu3⟩ := M2.w.hf
              have el3 : us3.length = (noteTM z).2.rows.length := by rw [hu3.len, M2.rows]
              refine ⟨_, rfl, d, _, rfl, dg (k := Sum.inr "stop") hd3 oG_stop, _, rfl, ?_⟩
              have hz3' := hz3
              rw [es2] at hz3'
              have esv3 : sv3 = .non := hz3'
              refine ifN (fun h => absurd esv3 (of_decide_eq_false h)) (fun _ => ?_)
              refine ⟨_, rfl, _, rfl, d, wd, oa2, oe2, _, rfl, M2.w, wd2, _, rfl, ifN (fun h => absurd rfl (of_decide_eq_false h)) (fun _ => ?_)⟩
              rcases hw3 with rfl | rfl | rfl
              · -- go
                have eR : (if false = true then (Cz.done, enK 0 x.rows.length b, (noteTM z).2) else goN (m.toNat - (i + 1)) (enK 0 x.rows.length b) (noteTM z).2) = (R.1, E, R.2.2) := eR
                refine ⟨_, rfl, rfl, _, rfl, ifB (fun h => absurd (V.str.inj (of_decide_eq_true h)) (by decide +kernel)) (fun _ => ?_)⟩
                refine ⟨_, rfl, rfl, _, rfl, ifB (fun h => absurd (V.str.inj (of_decide_eq_true h)) (by decide +kernel)) (fun _ => ?_)⟩
                have hc : false = false := rfl
                exact ⟨_, _, b, oa2, oe2, (noteTM z).2, rfl, f2, M2, N.note, mk2, wd2, nmk2, nwd2, fun h => by omega, fun _ => ⟨E, by rw [if_neg (by rw [hc]; decide)] at eR; exact eR⟩, fun _ => es2, by rw [note_n]; omega⟩
              · -- over
                have eR : (if (b && decide (((noteTM z).2.rows.length : Int) ≤ (x.rows.length : Int))) = true then (Cz.done, enK 1 x.rows.length b, (noteTM z).2) else goN (m.toNat - (i + 1)) (enK 1 x.rows.length b) (noteTM z).2) = (R.1, E, R.2.2) := eR
                refine ⟨_, rfl, rfl, _, rfl, ifB (fun _ => ?_) (fun h => absurd rfl (of_decide_eq_false h))⟩
                refine ⟨_, rfl, _, rfl, ?_⟩
                have notout : ∀ (hc : (b && decide (((noteTM z).2.rows.length : Int) ≤ (x.rows.length : Int))) = false), True := fun _ => trivial
                cases b with
                | true =>
                  refine ifB (fun _ => ?_) (fun h => by cases h)
                  refine ⟨_, rfl, d, _, rfl, dg (k := Sum.inr "frames") hd3 oG_frames, oa2.fl, us3, rfl, .inl (SqL.of hf3), _, rfl, _, _, rfl, rfl, _, rfl, ?_⟩
                  rw [el3]
                  refine ifB (fun hc => ?_) (fun hc => ?_)
                  · have hc : (true && decide (((noteTM z).2.rows.length : Int) ≤ (x.rows.length : Int))) = true := hc
                    have hR := eR
                    rw [if_pos hc] at hR
                    obtain ⟨e1, e2⟩ : Cz.done = R.1 ∧ (noteTM z).2 = R.2.2 := ⟨congrArg (·.1) hR, congrArg (·.2.2) hR⟩
                    rw [← e1, ← e2] at q
                    refine ⟨(by show 1 ≤ sizeLine; decide), fun t nt => ?_⟩
                    have s5 := same_upd' (o := .tup [V.str "done"]) nt
                    exact q _ oa2 oe2 _ (f2.trans (Fr.of_same s5)) (M2.same s5) ⟨t, rfl, upd_same⟩
                  · have hc : (true && decide (((noteTM z).2.rows.length : Int) ≤ (x.rows.length : Int))) = false := hc
                    refine ⟨_, rfl, rfl, _, rfl, ifB (fun h => absurd (V.str.inj (of_decide_eq_true h)) (by decide +kernel)) (fun _ => ?_)⟩
                    exact ⟨_, _, true, oa2, oe2, (noteTM z).2, rfl, f2, M2, N.note, mk2, wd2, nmk2, nwd2, fun h => by omega, fun _ => ⟨E, by rw [if_neg (by rw [hc]; decide)] at eR; exact eR⟩, fun _ => es2, by rw [note_n]; omega⟩
                | false =>
                  refine ifB (fun h => by cases h) (fun _ => ?_)
                  have hc : (false && decide (((noteTM z).2.rows.length : Int) ≤ (x.rows.length : Int))) = false := rfl
                  refine ⟨_, rfl, rfl, _, rfl, ifB (fun h => absurd (V.str.inj (of_decide_eq_true h)) (by decide +kernel)) (fun _ => ?_)⟩
                  exact ⟨_, _, false, oa2, oe2, (noteTM z).2, rfl, f2, M2, N.note, mk2, wd2, nmk2, nwd2, fun h => by omega, fun _ => ⟨E, by rw [if_neg (by rw [hc]; decide)] at eR; exact eR⟩, fun _ => es2, by rw [note_n]; omega⟩
              · -- out
                have eR : (if decide (((noteTM z).2.rows.length : Int) < (x.rows.length : Int)) = true then (Cz.done, enK 2 x.rows.length b, (noteTM z).2) else goN (m.toNat - (i + 1)) (enK 2 x.rows.length b) (noteTM z).2) = (R.1, E, R.2.2) := eR
                refine ⟨_, rfl, rfl, _, rfl, ifB (fun h => absurd (V.str.inj (of_decide_eq_true h)) (by decide +kernel)) (fun _ => ?_)⟩
                refine ⟨_, rfl, rfl, _, rfl, ifB (fun _ => ?_) (fun h => absurd rfl (of_decide_eq_false h))⟩
                refine ⟨_, rfl, d, _, rfl, dg (k := Sum.inr "frames") hd3 oG_frames, oa2.fl, us3, rfl, .inl (SqL.of hf3), _, rfl, _, _, rfl, rfl, _, rfl, ?_⟩
                rw [el3]
                refine ifB (fun hc => ?_) (fun hc => ?_)
                · have hR := eR
                  rw [if_pos hc] at hR
                  obtain ⟨e1, e2⟩ : Cz.done = R.1 ∧ (noteTM z).2 = R.2.2 := ⟨congrArg (·.1) hR, congrArg (·.2.2) hR⟩
                  rw [← e1, ← e2] at q
                  refine ⟨(by show 1 ≤ sizeLine; decide), fun t nt => ?_⟩
                  have s5 := same_upd' (o := .tup [V.str "done"]) nt
                  exact q _ oa2 oe2 _ (f2.trans (Fr.of_same s5)) (M2.same s5) ⟨t, rfl, upd_same⟩
                · exact ⟨_, _, b, oa2, oe2, (noteTM z).2, rfl, f2, M2, N.note, mk2, wd2, nmk2, nwd2, fun h => by omega, fun _ => ⟨E, by rw [if_neg (by rw [hc]; decide)] at eR; exact eR⟩, fun _ => es2, by rw [note_n]; omega⟩
          · have eb : overB b (noteTM z).1 z.rows.length x.rows.length = b := if_neg (fun y => hso y.1)
            rw [comesK, eb] at eR
            refine ⟨rfl, _, rfl, ifB (fun h => absurd (V.str.inj (of_decide_eq_true h)) hso) (fun _ => ⟨_, rfl, ifB (fun h => by cases h) (fun _ => ⟨_, rfl, ?_⟩)⟩)⟩
            obtain ⟨sv3, hd3, hz3⟩ := M2.w.hd
            obtain ⟨us3, hf3, hu3⟩ := M2.w.hf
            have el3 : us3.length = (noteTM z).2.rows.length := by rw [hu3.len, M2.rows]
            refine ⟨_, rfl, d, _, rfl, dg (k := Sum.inr "stop") hd3 oG_stop, _, rfl, ?_⟩
            have hz3' := hz3
            rw [es2] at hz3'
            have esv3 : sv3 = .non := hz3'
            refine ifN (fun h => absurd esv3 (of_decide_eq_false h)) (fun _ => ?_)
            refine ⟨_, rfl, _, rfl, d, wd, oa2, oe2, _, rfl, M2.w, wd2, _, rfl, ifN (fun h => absurd rfl (of_decide_eq_false h)) (fun _ => ?_)⟩
            rcases hw3 with rfl | rfl | rfl
            · -- go
              have eR : (if false = true then (Cz.done, enK 0 x.rows.length b, (noteTM z).2) else goN (m.toNat - (i + 1)) (enK 0 x.rows.length b) (noteTM z).2) = (R.1, E, R.2.2) := eR
              refine ⟨_, rfl, rfl, _, rfl, ifB (fun h => absurd (V.str.inj (of_decide_eq_true h)) (by decide +kernel)) (fun _ => ?_)⟩
              refine ⟨_, rfl, rfl, _, rfl, ifB (fun h => absurd (V.str.inj (of_decide_eq_true h)) (by decide +kernel)) (fun _ => ?_)⟩
              have hc : false = false := rfl
              exact ⟨_, _, b, oa2, oe2, (noteTM z).2, rfl, f2, M2, N.note, mk2, wd2, nmk2, nwd2, fun h => by omega, fun _ => ⟨E, by rw [if_neg (by rw [hc]; decide)] at eR; exact eR⟩, fun _ => es2, by rw [note_n]; omega⟩
            · -- over
              have eR : (if (b && decide (((noteTM z).2.rows.length : Int) ≤ (x.rows.length : Int))) = true then (Cz.done, enK 1 x.rows.length b, (noteTM z).2) else goN (m.toNat - (i + 1)) (enK 1 x.rows.length b) (noteTM z).2) = (R.1, E, R.2.2) := eR
              refine ⟨_, rfl, rfl, _, rfl, ifB (fun _ => ?_) (fun h => absurd rfl (of_decide_eq_false h))⟩
              refine ⟨_, rfl, _, rfl, ?_⟩
              have notout : ∀ (hc : (b && decide (((noteTM z).2.rows.length : Int) ≤ (x.rows.length : Int))) = false), True := fun _ => trivial
              cases b with
              | true =>
                refine ifB (fun _ => ?_) (fun h => by cases h)
                refine ⟨_, rfl, d, _, rfl, dg (k := Sum.inr "frames") hd3 oG_frames, oa2.fl, us3, rfl, .inl (SqL.of hf3), _, rfl, _, _, rfl, rfl, _, rfl, ?_⟩
                rw [el3]
                refine ifB (fun hc => ?_) (fun hc => ?_)
                · have hc : (true && decide (((noteTM z).2.rows.length : Int) ≤ (x.rows.length : Int))) = true := hc
                  have hR := eR
                  rw [if_pos hc] at hR
                  obtain ⟨e1, e2⟩ : Cz.done = R.1 ∧ (noteTM z).2 = R.2.2 := ⟨congrArg (·.1) hR, congrArg (·.2.2) hR⟩
                  rw [← e1, ← e2] at q
                  refine ⟨(by show 1 ≤ sizeLine; decide), fun t nt => ?_⟩
                  have s5 := same_upd' (o := .tup [V.str "done"]) nt
                  exact q _ oa2 oe2 _ (f2.trans (Fr.of_same s5)) (M2.same s5) ⟨t, rfl, upd_same⟩
                · have hc : (true && decide (((noteTM z).2.rows.length : Int) ≤ (x.rows.length : Int))) = false := hc
                  refine ⟨_, rfl, rfl, _, rfl, ifB (fun h => absurd (V.str.inj (of_decide_eq_true h)) (by decide +kernel)) (fun _ => ?_)⟩
                  exact ⟨_, _, true, oa2, oe2, (noteTM z).2, rfl, f2, M2, N.note, mk2, wd2, nmk2, nwd2, fun h => by omega, fun _ => ⟨E, by rw [if_neg (by rw [hc]; decide)] at eR; exact eR⟩, fun _ => es2, by rw [note_n]; omega⟩
              | false =>
                refine ifB (fun h => by cases h) (fun _ => ?_)
                have hc : (false && decide (((noteTM z).2.rows.length : Int) ≤ (x.rows.length : Int))) = false := rfl
                refine ⟨_, rfl, rfl, _, rfl, ifB (fun h => absurd (V.str.inj (of_decide_eq_true h)) (by decide +kernel)) (fun _ => ?_)⟩
                exact ⟨_, _, false, oa2, oe2, (noteTM z).2, rfl, f2, M2, N.note, mk2, wd2, nmk2, nwd2, fun h => by omega, fun _ => ⟨E, by rw [if_neg (by rw [hc]; decide)] at eR; exact eR⟩, fun _ => es2, by rw [note_n]; omega⟩
            · -- out
              have eR : (if decide (((noteTM z).2.rows.length : Int) < (x.rows.length : Int)) = true then (Cz.done, enK 2 x.rows.length b, (noteTM z).2) else goN (m.toNat - (i + 1)) (enK 2 x.rows.length b) (noteTM z).2) = (R.1, E, R.2.2) := eR
              refine ⟨_, rfl, rfl, _, rfl, ifB (fun h => absurd (V.str.inj (of_decide_eq_true h)) (by decide +kernel)) (fun _ => ?_)⟩
              refine ⟨_, rfl, rfl, _, rfl, ifB (fun _ => ?_) (fun h => absurd rfl (of_decide_eq_false h))⟩
              refine ⟨_, rfl, d, _, rfl, dg (k := Sum.inr "frames") hd3 oG_frames, oa2.fl, us3, rfl, .inl (SqL.of hf3), _, rfl, _, _, rfl, rfl, _, rfl, ?_⟩
              rw [el3]
              refine ifB (fun hc => ?_) (fun hc => ?_)
              · have hR := eR
                rw [if_pos hc] at hR
                obtain ⟨e1, e2⟩ : Cz.done = R.1 ∧ (noteTM z).2 = R.2.2 := ⟨congrArg (·.1) hR, congrArg (·.2.2) hR⟩
                rw [← e1, ← e2] at q
                refine ⟨(by show 1 ≤ sizeLine; decide), fun t nt => ?_⟩
                have s5 := same_upd' (o := .tup [V.str "done"]) nt
                exact q _ oa2 oe2 _ (f2.trans (Fr.of_same s5)) (M2.same s5) ⟨t, rfl, upd_same⟩
              · exact ⟨_, _, b, oa2, oe2, (noteTM z).2, rfl, f2, M2, N.note, mk2, wd2, nmk2, nwd2, fun h => by omega, fun _ => ⟨E, by rw [if_neg (by rw [hc]; decide)] at eR; exact eR⟩, fun _ => es2, by rw [note_n]; omega⟩
  · rintro σ H1 ⟨y7, y8, b, oa1, oe1, z, rfl, f1, M, N, mk1, wd1, nmk1, nwd1, hz0, heR, hst, hzn⟩
    have fin : Cz.none = R.1 ∧ z = R.2.2 := by
      by_cases c : m.toNat = 0
      · have em : m = 0 := by omega
        rw [hz0 c, ← hR, em]
        unfold goP
        cases x.b.stop with
        | some s => exact ⟨rfl, rfl⟩
        | none => exact ⟨rfl, rfl⟩
      · obtain ⟨E, eR⟩ := heR (by omega)
        rw [Nat.sub_self, goN_end (hst (by omega))] at eR
        exact ⟨congrArg (·.1) eR, congrArg (·.2.2) eR⟩
    rw [← fin.1, ← fin.2] at q
    refine ⟨(by show 1 ≤ sizeLine; decide), fun t nt => ?_⟩
    have s1 := same_upd' (o := .tup [V.str "turns"]) nt
    exact q _ oa1 oe1 _ (f1.trans (Fr.of_same s1)) (M.same s1) ⟨t, rfl, upd_same⟩
end
end Bh

/-! The law. -/
namespace Bh
open PySem PySem.Spec PyProof.Rows L2
def spLaw (K : PySem.W.Frag) : Sp := fun vs H Q _ => ∃ (a : Addr) (ns : List Int), vs = [.ref a] ∧ SqL K H a (ns.map V.int) ∧ ns.length ≤ 63 ∧ ∀ H', Q (.bl true) H'
section
variable {P : Program} {w : World} {K : PySem.W.Frag} {mg : Str → Option Value} {base : Heap} {CB CM CP CK CW CF CH CC CI CS CO CQ : Addr}
abbrev sLaw : Stmt := topS 125
def scLlawN : List Str := ["_law_script", "_law_cell", "_law_well_here", "_law_image_here", "_law_line_here", "_law_held", "_law_s", "_law_act", "_law_many"]
theorem scLlaw : FnScope scLlawN ["_law_script"] (defScope sLaw) := ⟨rfl, rfl, rfl, by decide +kernel, rfl, by decide +kernel, by decide +kernel⟩
theorem ok_Llaw {f : Addr} {fd : FuncData} {fC_prb : Addr} {dC_prb : FuncData} {fF_sov : Addr} {dF_sov : FuncData} {fL_cell : Addr} {dL_cell : FuncData} {fL_draw : Addr} {dL_draw : FuncData} {fL_img : Addr} {dL_img : FuncData} {fL_lin : Addr} {dL_lin : FuncData} {fL_new : Addr} {dL_new : FuncData} {fL_one : Addr} {dL_one : FuncData} {fL_run : Addr} {dL_run : FuncData} {fL_same : Addr} {dL_same : FuncData} {fL_well : Addr} {dL_well : FuncData} {fM_go : Addr} {dM_go : FuncData} {fM_lookg : Addr} {dM_lookg : FuncData} (F : Fun K "law" "law" sLaw f fd) (T : Ty K mg CB CM CP CK CW CF CH CC CI CS)
    (C_prb : CalC P w K mg base CP 8 "Probe" ["self", "image", "line"] (spPrI CB CM CP CK CW CF CH CC CI) fC_prb dC_prb)
    (F_sov : CalF P w K mg base 11 "step_over" ["probe", "most"] (spOver CB CM CP CK CW CF CH CC CI) fF_sov dF_sov)
    (L_cell : CalF P w K mg base 1 "_law_cell_at" ["_law_script", "_law_k"] (spCellAt K) fL_cell dL_cell)
    (L_draw : CalF P w K mg base 1 "_law_draw" ["_law_well_here", "_law_many"] (spDraw) fL_draw dL_draw)
    (L_img : CalF P w K mg base 4 "_law_image" ["_law_well_here"] (spImgF) fL_img dL_img)
    (L_lin : CalF P w K mg base 2 "_law_line" ["_law_well_here"] (spLinF) fL_lin dL_lin)
    (L_new : CalF P w K mg base 1 "_law_new" ["_law_image_here", "_law_line_here"] (spONew) fL_new dL_new)
    (L_one : CalF P w K mg base 2 "_law_one" ["_law_well_here", "_law_some"] (spOne) fL_one dL_one)
    (L_run : CalF P w K mg base 6 "_law_run" ["_law_s", "_law_many", "_law_word", "_law_marks", "_law_windows"] (spORun) fL_run dL_run)
    (L_same : CalF P w K mg base 4 "_law_same" ["_law_held", "_law_s"] (spSame CB CM CP CK CW CF CH CC CI) fL_same dL_same)
    (L_well : CalF P w K mg base 1 "_law_well" ["_law_cell"] (spWell) fL_well dL_well)
    (M_go : CalMd P w K mg base CP 11 "go" ["self", "most", "peeks"] (spGo CB CM CP CK CW CF CH CC CI) fM_go dM_go)
    (M_lookg : CalM P w K mg base CP 3 "look" ["self", "address", "many"] (spLookG CB CM CP CK CW CF CH CC CI) fM_lookg dM_lookg) : FnOk P w K mg base CX0 13 f fd ["_law_script"] (spLaw K) := by
  refine F.ok scLlaw (fun vs H Q E h => by obtain ⟨_, _, rfl, _⟩ := h; rfl) (fun cdv A outer s H vs Q E hr h => ?_)
  have hu := hu_of hr
  have z_list := T.z_list
  have z_range := T.z_range
  obtain ⟨a, ns, rfl, hS, hn, q⟩ := h
  have hu64 := hr.units
  refine ⟨_, (pss_cons (ps_for PassesOwn.never rfl (pi_list (pe_op op_cat (pe_lst (pa_cons (pe_call L_cell.G (hr.mono (by decide)) (by rfl) L_cell.g L_cell.kp L_cell.b .nil pass0 (pa_cons (pv 0) (pa_cons pe_int pa_nil))) pa_nil)) (pe_slice sl_list (pv 0) (po_some pe_int) (po_some pe_int)))) (pg_name (i := 1) scLlaw.nd rfl (.inl rfl))
      (pss_cons (ps_set (i := 2) scLlaw.nd rfl (.inl rfl) (pe_call L_well.G (hr.mono (by decide)) (by rfl) L_well.g L_well.kp L_well.b .nil pass0 (pa_cons (pv 1) pa_nil)))
    (pss_cons (ps_par (i := 3) (j := 4) (by rfl) scLlaw.nd rfl rfl (by decide) rfl rfl (pa_cons (pe_call L_img.G (hr.mono (by decide)) (by rfl) L_img.g L_img.kp L_img.b .nil pass0 (pa_cons (pv 2) pa_nil)) (pa_cons (pe_call L_lin.G (hr.mono (by decide)) (by rfl) L_lin.g L_lin.kp L_lin.b .nil pass0 (pa_cons (pv 2) pa_nil)) pa_nil)) (by rfl))
    (pss_cons (ps_set (i := 5) scLlaw.nd rfl (.inl rfl) (pe_make C_prb.M C_prb.I (hr.mono (by decide)) rfl C_prb.g C_prb.b .nil pass0 (pa_cons (pe_callTy call_list_of (by rfl) z_list (by decide +kernel) (pa_cons (pv 3) pa_nil)) (pa_cons (pe_callTy call_list_of (by rfl) z_list (by decide +kernel) (pa_cons (pv 4) pa_nil)) pa_nil))))
    (pss_cons (ps_set (i := 6) scLlaw.nd rfl (.inl rfl) (pe_call L_new.G (hr.mono (by decide)) (by rfl) L_new.g L_new.kp L_new.b .nil pass0 (pa_cons (pv 3) (pa_cons (pv 4) pa_nil))))
    (pss_cons (ps_for PassesOwn.never rfl (pi_range1 (by rfl) z_range (pa_cons pe_int pa_nil)) (pg_name (i := 7) scLlaw.nd rfl (.inl rfl))
      (pss_cons (ps_if (pt_cmpR op_eq (pe_call L_draw.G (hr.mono (by decide)) (by rfl) L_draw.g L_draw.kp L_draw.b .nil pass0 (pa_cons (pv 2) (pa_cons pe_int pa_nil))) pe_int (nomark _)) (pss_cons (ps_set (i := 8) scLlaw.nd rfl (.inl rfl) (pe_call L_draw.G (hr.mono (by decide)) (by rfl) L_draw.g L_draw.kp L_draw.b .nil pass0 (pa_cons (pv 2) (pa_cons pe_int pa_nil))))
    (pss_one (ps_if (pt_cmpR (op_neP hu64) (pe_meth (pv 5) M_go.c M_go.m M_go.G (hr.mono (by decide)) M_go.b (.cons (show L2.RelV V.non Value.none from rfl) .nil) pass0 (pa_cons (pv 8) pa_nil)) (pe_tup (pa_cons (pe_call L_run.G (hr.mono (by decide)) (by rfl) L_run.g L_run.kp L_run.b .nil pass0 (pa_cons (pv 6) (pa_cons (pv 8) (pa_cons pe_str (pa_cons pe_dnewK (pa_cons (pe_lst pa_nil) pa_nil)))))) (pa_cons (pe_lst pa_nil) pa_nil))) (nomark _)) (pss_one (ps_ret pe_bl)) pss_nil))) pss_nil)
    (pss_cons (ps_set (i := 8) scLlaw.nd rfl (.inl rfl) (pe_call L_one.G (hr.mono (by decide)) (by rfl) L_one.g L_one.kp L_one.b .nil pass0 (pa_cons (pv 2) (pa_cons (pe_lst (pa_cons pe_int (pa_cons pe_int (pa_cons pe_int (pa_cons pe_int (pa_cons pe_int (pa_cons pe_int pa_nil))))))) pa_nil))))
    (pss_one (ps_if (PW.pt (pw_or (pt_cmpR (op_neP hu64) (pe_call F_sov.G (hr.mono (by decide)) (by rfl) F_sov.g F_sov.kp F_sov.b .nil pass0 (pa_cons (pv 5) (pa_cons (pv 8) pa_nil))) (pe_call L_run.G (hr.mono (by decide)) (by rfl) L_run.g L_run.kp L_run.b .nil pass0 (pa_cons (pv 6) (pa_cons (pv 8) (pa_cons pe_str (pa_cons pe_dnewK (pa_cons (pe_lst pa_nil) pa_nil)))))) (nomark _)) (pw_or1 (pt_not (pt_val (pe_call L_same.G (hr.mono (by decide)) (by rfl) L_same.g L_same.kp L_same.b .nil pass0 (pa_cons (pv 5) (pa_cons (pv 6) pa_nil)))))))) (pss_one (ps_ret pe_bl)) pss_nil)))))
    (pss_one (ps_if (pt_cmpR (op_neP hu64) (pe_meth (pv 5) M_lookg.c M_lookg.m M_lookg.G (hr.mono (by decide)) M_lookg.b .nil pass0 (pa_cons pe_int (pa_cons pe_int pa_nil))) (pe_slice sl_list (pe_dget hu (pv 6) pe_str (fun _ _ => rfl)) (po_some pe_int) (po_some pe_int)) (nomark _)) (pss_one (ps_ret pe_bl)) pss_nil))))))))
    (pss_one (ps_ret pe_bl))), ?_⟩
  refine ⟨_, rfl, a, ns, 0, rfl, hS, fun z0 => ⟨(by show 1 ≤ sizeLine; decide), fun c1 nc1 => ?_⟩⟩
  have s1 := same_upd' (o := .lst [V.int z0]) nc1
  have h1 : upd H c1 (.lst [V.int z0]) c1 = some (.lst (([z0] : List Int).map V.int)) := upd_same
  have hS := s1.seq hS
  generalize upd H c1 (.lst [V.int z0]) = H1 at *
  obtain ⟨ms, ems, lms, _⟩ := cut_mem ns (some 1) (some 4)
  refine ⟨_, rfl, _, rfl, _, rfl, a, _, rfl, hS, fun c2 nc2 => ?_⟩
  rw [ems]
  have s2 := same_upd' (o := .lst (ms.map V.int)) nc2
  have h2 : upd H1 c2 (.lst (ms.map V.int)) c2 = some (.lst (ms.map V.int)) := upd_same
  have h1 := s2 _ _ h1
  generalize upd H1 c2 (.lst (ms.map V.int)) = H2 at *
  refine ⟨c1, c2, _, _, rfl, rfl, h1, h2, (by rw [List.length_map, List.length_map]; exact Nat.le_trans (show 1 + ms.length ≤ 100 by omega) (by decide)), fun ca nca => ?_⟩
  rw [← List.map_append]
  have hca : upd H2 ca (.lst (([z0] ++ ms).map V.int)) ca = some (.lst (([z0] ++ ms).map V.int)) := upd_same
  generalize upd H2 ca (.lst (([z0] ++ ms).map V.int)) = H3 at *
  generalize [z0] ++ ms = cs at *
  refine ⟨ca, rfl, ⟨_, SqL.of hca⟩, ?_⟩
  refine for_list (K := K) (a := ca) (xs := cs.map V.int) (fun i σ H' => H' ca = some (.lst (cs.map V.int)) ∧ ∃ y1 y2 y3 y4 y5 y6 y7 y8 : Option V, σ = [some (.ref a), y1, y2, y3, y4, y5, y6, y7, y8]) ⟨hca, none, none, none, none, none, none, none, none, rfl⟩ (fun _ _ _ _ h => SqL.of h.1) ?_ ?_
  · rintro i v σ H0 hi ⟨hca, y1, y2, y3, y4, y5, y6, y7, y8, rfl⟩
    obtain ⟨cell, _, rfl⟩ : ∃ c : Int, True ∧ v = .int c := by
      rw [List.getElem?_map] at hi
      cases e : cs[i]? with
      | none => rw [e] at hi; cases hi
      | some c => rw [e] at hi; exact ⟨c, trivial, (Option.some.inj hi).symm⟩
    refine ⟨_, rfl, cell, rfl, fun G1 wl sw nwl hw => ?_⟩
    have zca : ca ≠ wl := ne_of_none hca nwl
    have hca := sw _ _ hca
    have hca0 := hca
    refine ⟨_, rfl, wl, 0, rfl, hw, by decide, fun G2 im ws b2 hw him l40 lws ows => ?_⟩
    have hca := b2 _ _ zca hca
    have zim : im ≠ wl := fun z => by
      obtain ⟨u, v, t, e, _⟩ := hw
      rw [z, e] at him
      have h := congrArg List.length (HO.lst.inj (Option.some.inj him))
      rw [List.length_map] at h
      simp at h
      omega
    refine ⟨_, rfl, wl, 0 + 10000, rfl, hw, by decide, fun G3 ln us ls b3 hw nln hln htu hri lls => ?_⟩
    have hca := b3 _ _ zca hca
    have him := b3 _ _ zim him
    refine ⟨_, _, rfl, ?_⟩
    have hln0 := hln
    refine ⟨_, rfl, im, _, rfl, .inl (SqL.of him), fun i1 ni1 => ?_⟩
    have ri1 := same_upd' (o := .lst (ws.map V.int)) ni1
    have hi1 : upd G3 i1 (.lst (ws.map V.int)) i1 = some (.lst (ws.map V.int)) := upd_same
    have hln := ri1 _ _ hln
    generalize upd G3 i1 (.lst (ws.map V.int)) = A1 at *
    refine ⟨_, rfl, ln, _, rfl, .inl (SqL.of hln), fun l1 nl1 => ?_⟩
    have rl1 := same_upd' (o := .lst us) nl1
    have hl1 : upd A1 l1 (.lst us) l1 = some (.lst us) := upd_same
    have hi1 := rl1 _ _ hi1
    have q1 := ri1.trans rl1
    generalize upd A1 l1 (.lst us) = B1 at *
    intro p1 dx1 np1 ndx1 hdx1
    have sp1 : Same B1 (upd (upd B1 dx1 (.own p1)) p1 (.ins CP dx1 [])) := fun z o ez => by
      rw [upd_ne (ne_of_none ez np1), upd_ne (ne_of_none ez ndx1)]
      exact ez
    refine ⟨p1, dx1, i1, l1, us, ws, ls, rfl, upd_same, sp1 _ _ hi1, lws, ows, sp1 _ _ hl1, htu.mono (fun t xs e => sp1 _ _ (q1 _ _ e)), hri, fun G4 F1 St1 kp1 fn1 sn1 mk1 => ⟨rfl, ?_⟩⟩
    have e1 : Same G3 G4 := fun z o ez => kp1 z o (ne_of_none (q1 _ _ ez) np1) (sp1 _ _ (q1 _ _ ez))
    have nf1 : ∀ b, F1 b → G3 b = none := fun b hb => by
      rcases fn1 b hb with z | z
      · rw [z]; exact q1.free np1
      · exact q1.free (sp1.free z)
    have ns1 : ∀ b, b ∈ St1 → G3 b = none := fun b hb => q1.free (sp1.free (sn1 b hb).1)
    have hca := e1 _ _ hca
    have him := e1 _ _ him
    have hln := e1 _ _ hln0
    have hw4 := hw.same e1
    have htu4 := htu.mono fun t xs e => e1 _ _ e
    refine ⟨_, rfl, _, rfl, im, ln, us, ws, ls, rfl, him, lws, ows, hln, htu4, hri, by omega, fun G5 d oa oe s5 fO M1 r0 => ?_⟩
    have hca := s5 _ _ hca
    have hw5 := hw4.same s5
    have so1 : ∀ b, F1 b → ∃ o, G4 b = some o := fun b hb => by
      have Y := mk1 (fun q => @ite _ (F1 q) (Classical.propDecidable _) none (G4 q)) (fun c o e => by
        have e : @ite _ (F1 c) (Classical.propDecidable _) none (G4 c) = some o := e
        by_cases z : F1 c
        · rw [if_pos z] at e; cases e
        · rw [if_neg z] at e; exact e) (fun c z => if_pos z) (fun c z => if_neg (sn1 c z).2)
      obtain ⟨o, e, _⟩ := Y.solid b hb
      exact ⟨o, e⟩
    obtain ⟨S, hSd⟩ : ∃ S : Hp, ∀ c, S c = @ite _ (F1 c ∨ FtO d oa c ∨ c = wl) (Classical.propDecidable _) none (G5 c) := ⟨fun c => @ite _ (F1 c ∨ FtO d oa c ∨ c = wl) (Classical.propDecidable _) none (G5 c), fun _ => rfl⟩
    have sS : Same S G5 := fun c o e => by
      rw [hSd] at e
      by_cases z : F1 c ∨ FtO d oa c ∨ c = wl
      · rw [if_pos z] at e; cases e
      · rw [if_neg z] at e; exact e
    have Y1 : PrA CB CM CP CK CW CF CH CC CI S G5 F1 p1 (newP ws ls) := by
      have Y := mk1 (fun q => @ite _ (F1 q ∨ q = wl) (Classical.propDecidable _) none (G4 q)) (fun c o e => by
        have e : @ite _ (F1 c ∨ c = wl) (Classical.propDecidable _) none (G4 c) = some o := e
        by_cases z : F1 c ∨ c = wl
        · rw [if_pos z] at e; cases e
        · rw [if_neg z] at e; exact e) (fun c z => if_pos (.inl z)) (fun c z => if_neg (fun y => by
          rcases y with y | y
          · exact (sn1 c z).2 y
          · obtain ⟨u, v, t, e, _⟩ := hw
            have := ns1 c z
            rw [y, e] at this; cases this))
      refine (Y.same s5).base (fun c o e => ?_) sS (fun c z => by rw [hSd]; exact if_pos (.inl z))
      by_cases z : F1 c ∨ c = wl
      · have e : @ite _ (F1 c ∨ c = wl) (Classical.propDecidable _) none (G4 c) = some o := e
        rw [if_pos z] at e; cases e
      · have e : @ite _ (F1 c ∨ c = wl) (Classical.propDecidable _) none (G4 c) = some o := e
        rw [if_neg z] at e
        rw [hSd, if_neg (fun y => ?_)]
        · exact s5 _ _ e
        · rcases y with y | y | y
          · exact z (.inl y)
          · have := fO c y
            rw [e] at this; cases this
          · exact z (.inr y)
    have dis : ∀ b, F1 b → ¬ FtO d oa b := fun b h1 h2 => by
      obtain ⟨o, e⟩ := so1 b h1
      rw [fO b h2] at e; cases e
    have Swl : S wl = none := by rw [hSd]; exact if_pos (.inr (.inr rfl))
    have offO : ∀ b, FtO d oa b → S b = none := fun b z => by rw [hSd]; exact if_pos (.inr (.inl z))
    have Sca : S ca = some (.lst (cs.map V.int)) := by
      rw [hSd, if_neg (fun y => ?_)]
      · exact hca
      · rcases y with y | y | y
        · have := nf1 ca y
          rw [b3 _ _ zca (b2 _ _ zca hca0)] at this; cases this
        · have := fO ca y
          rw [e1 _ _ (b3 _ _ zca (b2 _ _ zca hca0))] at this; cases this
        · exact zca y
    have wlF1 : ¬ F1 wl := fun z => by
      obtain ⟨u, v, t, e, _⟩ := hw
      have := nf1 wl z
      rw [e] at this; cases this
    have wlO : ¬ FtO d oa wl := fun z => by
      obtain ⟨u, v, t, e, _⟩ := hw4
      have := fO wl z
      rw [e] at this; cases this
    have n0 : (newP ws ls).n = 0 := rfl
    generalize newP ws ls = x0 at *
    clear so1 sS hSd mk1 sn1 nf1 ns1 kp1 fn1 fO
    refine ⟨14, rfl, by decide, by decide, ?_⟩
    refine for_range (lo := 0) (n := ((14 : Int)).toNat) (fun i σ H' => ∃ (y7 y8 : Option V) (F1 : Addr → Prop) (oa : Oa) (oe : Oe) (x : Pm), σ = [some (.ref a), some (.int cell), some (.ref wl), some (.ref im), some (.ref ln), some (.ref p1), some (.ref d), y7, y8] ∧ PrA CB CM CP CK CW CF CH CC CI S H' F1 p1 x ∧ Om H' d oa oe x ∧ (∀ b, F1 b → ¬ FtO d oa b) ∧ ¬ F1 wl ∧ ¬ FtO d oa wl ∧ (∀ b, FtO d oa b → S b = none) ∧ WellAt H' wl (20000 + 4 * i) ∧ x.n ≤ 100 * i) ⟨_, _, F1, oa, oe, x0, rfl, Y1, M1, dis, wlF1, wlO, offO, hw5.mono (by omega), by omega⟩ ?_ ?_
    · rintro i σ H0 hi ⟨y7, y8, F1, oa, oe, x, rfl, Y, M, dj, wl1, wlO, offO, hw, xn⟩
      have hi : i < 14 := hi
      refine ⟨_, rfl, wl, 2, 20000 + 4 * i, rfl, hw, by omega, by decide, by decide, fun G1 d1 k1 hw1 d10 d11 => ?_⟩
      have wsol : ∀ b, b = wl → ∃ o, H0 b = some o ∧ ∀ xs, o ≠ .tup xs := fun b hb => by
        obtain ⟨u, v, t, e, _⟩ := hw
        exact ⟨_, by rw [hb]; exact e, fun xs z => by cases z⟩
      have Y := (Y.other (But.fr k1) (fun b hb => by rw [hb]; exact wl1) (fun b hb => by rw [hb]; exact Swl) wsol).1
      have M := (M.other (But.fr k1) (fun b hb => by rw [hb]; exact wlO) wsol).1
      clear wsol hw
      have hw := hw1
      clear k1 hw1
      refine ⟨rfl, _, rfl, ifB (fun _ => ?_) (fun _ => ?_)⟩
      · refine ⟨_, rfl, wl, 10, 20000 + 4 * i + 1, rfl, hw, by omega, by decide, by decide, fun G2 m k2 hw2 m0 m1 => ?_⟩
        have wsol : ∀ b, b = wl → ∃ o, G1 b = some o ∧ ∀ xs, o ≠ .tup xs := fun b hb => by
          obtain ⟨u, v, t, e, _⟩ := hw
          exact ⟨_, by rw [hb]; exact e, fun xs z => by cases z⟩
        have Y := (Y.other (But.fr k2) (fun b hb => by rw [hb]; exact wl1) (fun b hb => by rw [hb]; exact Swl) wsol).1
        have M := (M.other (But.fr k2) (fun b hb => by rw [hb]; exact wlO) wsol).1
        clear wsol hw
        have hw := hw2
        clear k2 hw2
        obtain ⟨ux, _, _, _, _, _, _, _, _, _, hp1⟩ := Y.ins
        refine ⟨_, rfl, p1, ux, _, rfl, hp1, pN_go, _, rfl, S, F1, p1, x, m, rfl, Y, by omega, by omega, by omega, fun G3 F1' q1 v1 w1 nw1 f4 Y4 hq1 hw1_ rz1 => ?_⟩
        have MW := M
        have solY := Y.solid
        have N := Y.2
        have ng := (goP_N Y.2 m .no).2
        obtain ⟨M, dj⟩ := M.other f4 dj solY
        have wl1' : ¬ F1' wl := fun z => by
          obtain ⟨u, v, t, e, _⟩ := hw
          rcases f4.new wl z with y | y
          · exact wl1 y
          · rw [e] at y; cases y
        have hw : WellAt G3 wl (20000 + 4 * i + 1 + 1) := by
          obtain ⟨u, v, t, e, t0, t1⟩ := hw
          exact ⟨u, v, t, f4.keep _ _ wl1 e, t0, t1⟩
        have wl1 := wl1'
        have Y := Y4
        have MS := M
        have w1F : ¬ FtO d oa w1 := fun z => by
          obtain ⟨o, e, _⟩ := MW.w.solid w1 z
          rw [nw1] at e; cases e
        have q1F : ∀ xs, G3 q1 = some (.tup xs) → ¬ FtO d oa q1 := fun xs e z => by
          obtain ⟨o, e2, n⟩ := M.w.solid q1 z
          rw [e] at e2
          exact n xs (Option.some.inj e2).symm
        have q1F := q1F _ hq1
        clear Y4 solY f4 hp1
        refine ⟨_, rfl, _, rfl, ?_⟩
        intro mk nmk
        have r1 := same_upd' (o := .dK []) nmk
        have hmk : upd G3 mk (.dK []) mk = some (.dK []) := upd_same
        have Y := Y.same r1
        have M := M.same r1
        have hw := hw.same r1
        have hq1 := r1 _ _ hq1
        have hw1_ := r1 _ _ hw1_
        have rz1 := rz1.mono fun t xs e => r1 _ _ e
        generalize upd G3 mk (.dK []) = J1 at *
        refine ⟨Nat.zero_le _, fun wd nwd => ?_⟩
        have r2 := same_upd' (o := .lst []) nwd
        have hwd : upd J1 wd (.lst []) wd = some (.lst []) := upd_same
        have hmk := r2 _ _ hmk
        have nwd' := r1.free nwd
        have Y := Y.same r2
        have M := M.same r2
        have hw := hw.same r2
        have hq1 := r2 _ _ hq1
        have hw1_ := r2 _ _ hw1_
        have rz1 := rz1.mono fun t xs e => r2 _ _ e
        generalize upd J1 wd (.lst []) = J2 at *
        have nmkO : ¬ FtO d oa mk := fun z => by
          obtain ⟨o, e, _⟩ := MS.w.solid mk z
          rw [nmk] at e; cases e
        have nwdO : ¬ FtO d oa wd := fun z => by
          obtain ⟨o, e, _⟩ := MS.w.solid wd z
          rw [nwd'] at e; cases e
        refine ⟨d, mk, wd, oa, oe, x, 0, m, rfl, ?_, M, N, hmk, hwd, nmkO, nwdO, by omega, by omega, by omega, fun J3 oa2 oe2 vo fo M2 rzo => ?_⟩
        · omega
        have solO := M.w.solid
        have Ysm := Y.sm
        obtain ⟨Y, dj1⟩ := Y.other fo (fun b hb z => dj b z hb) offO solO
        have offO2 := fo.stn Ysm offO
        have dj1 := fun b h1 h2 => dj1 b h2 h1
        have wlO2 : ¬ FtO d oa2 wl := fun z => by
          obtain ⟨u, v, t, e, _⟩ := hw
          rcases fo.new wl z with y | y
          · exact wlO y
          · rw [e] at y; cases y
        have hw : WellAt J3 wl (20000 + 4 * i + 1 + 1) := by
          obtain ⟨u, v, t, e, t0, t1⟩ := hw
          exact ⟨u, v, t, fo.keep _ _ wlO e, t0, t1⟩
        have tko := tup_keep solO fo.keep
        have hq1 := fo.keep _ _ q1F hq1
        have hw1_ := fo.keep _ _ w1F hw1_
        have rz1 := rz1.mono tko
        clear fo tko solO Ysm r1 r2 hmk hwd nmkO nwdO MS
        refine ⟨Nat.zero_le _, fun l5 n5 => ?_⟩
        have r5 := same_upd' (o := .lst []) n5
        have h5 : upd J3 l5 (.lst []) l5 = some (.lst []) := upd_same
        have Y := Y.same r5
        have M2 := M2.same r5
        have hw := hw.same r5
        have rzo := rzo.mono fun t xs e => r5 _ _ e
        have hq1 := r5 _ _ hq1
        have hw1_ := r5 _ _ hw1_
        have rz1 := rz1.mono fun t xs e => r5 _ _ e
        generalize upd J3 l5 (.lst []) = G5 at *
        refine ⟨(by show 2 ≤ sizeLine; decide), fun t6 n6 => ?_⟩
        have r6 := same_upd' (o := .tup [vo, V.ref l5]) n6
        have h6 : upd G5 t6 (.tup [vo, V.ref l5]) t6 = some (.tup [vo, V.ref l5]) := upd_same
        have h5 := r6 _ _ h5
        have Y := Y.same r6
        have M2 := M2.same r6
        have hw := hw.same r6
        have rzo := rzo.mono fun t xs e => r6 _ _ e
        have hq1 := r6 _ _ hq1
        have hw1_ := r6 _ _ hw1_
        have rz1 := rz1.mono fun t xs e => r6 _ _ e
        generalize upd G5 t6 (.tup [vo, V.ref l5]) = G6 at *
        refine ⟨goD _, goD _, .tup (SqT.of hq1) (.cons (dp_rz rz1) (.cons (.lst (SqL.of hw1_) .nil) .nil)), .tup (SqT.of h6) (.cons (dp_rz rzo) (.cons (.lst (SqL.of h5) .nil) .nil)), pl_go _, pl_go _, dep_go _, _, rfl, ?_⟩
        have eno : enK 0 x.rows.length false = .no := rfl
        rw [eno] at M2 ⊢
        rw [PySem.SeqAt.eqv_refl_plain _ (pl_go _)]
        refine ifN (fun h => by cases h) (fun _ => ?_)
        clear hq1 hw1_ rz1 rzo h5 h6 r5 r6 nw1 M N
        have M := M2
        have dj := dj1
        have wlO := wlO2
        have offO := offO2
        clear M2 dj1 wlO2 offO2
        have ng : (goP m .no x).2.2.n ≤ 100 * i + 10 := by omega
        generalize (goP m .no x).2.2 = x1 at *
        refine ⟨_, rfl, (by show 6 ≤ sizeLine; decide), fun l1 nl1 => ?_⟩
        have r0 := same_upd' (o := .lst [V.int 50, V.int 50, V.int 20, V.int 6, V.int 1, V.int 0]) nl1
        have hl1 : upd G6 l1 (.lst [V.int 50, V.int 50, V.int 20, V.int 6, V.int 1, V.int 0]) l1 = some (.lst [V.int 50, V.int 50, V.int 20, V.int 6, V.int 1, V.int 0]) := upd_same
        have l1w : l1 ≠ wl := fun z => by
          obtain ⟨u, v, t, e, _⟩ := hw
          rw [z, e] at nl1; cases nl1
        have Y := Y.same r0
        have M := M.same r0
        have hw := hw.same r0
        generalize upd G6 l1 (.lst [V.int 50, V.int 50, V.int 20, V.int 6, V.int 1, V.int 0]) = J0 at *
        refine ⟨wl, l1, _, (20000 + 4 * i + 1 + 1), rfl, hw, by omega, l1w, hl1, (by intro h; cases h), (by show 6 ≤ 1000; decide), fun J4 mv k4 hw4 hmem => ?_⟩
        have wsol : ∀ b, b = wl → ∃ o, J0 b = some o ∧ ∀ xs, o ≠ .tup xs := fun b hb => by
          obtain ⟨u, v, t, e, _⟩ := hw
          exact ⟨_, by rw [hb]; exact e, fun xs z => by cases z⟩
        have Y := (Y.other (But.fr k4) (fun b hb => by rw [hb]; exact wl1) (fun b hb => by rw [hb]; exact Swl) wsol).1
        have M := (M.other (But.fr k4) (fun b hb => by rw [hb]; exact wlO) wsol).1
        clear wsol hw
        have hw := hw4
        obtain ⟨m, rfl, m0, m1⟩ : ∃ m : Int, mv = .int m ∧ 0 ≤ m ∧ m ≤ 50 := by
          simp only [List.mem_cons, List.not_mem_nil, or_false] at hmem
          rcases hmem with h | h | h | h | h | h <;> exact ⟨_, h, by decide, by decide⟩
        clear hmem k4 hl1
        refine ⟨_, rfl, _, rfl, S, F1', p1, x1, m, rfl, Y, by omega, by omega, by omega, fun J5 F1x v5 f5 Y5 rz5 => ?_⟩
        have solY := Y.solid
        have N := Y.2
        have ng := (goP_N Y.2 m (.over 0 0 x1.rows.length false)).2
        obtain ⟨M, dj⟩ := M.other f5 dj solY
        have wl1' : ¬ F1x wl := fun z => by
          obtain ⟨u, v, t, e, _⟩ := hw
          rcases f5.new wl z with y | y
          · exact wl1 y
          · rw [e] at y; cases y
        have hw : WellAt J5 wl ((20000 + 4 * i + 1 + 1) + 1) := by
          obtain ⟨u, v, t, e, t0, t1⟩ := hw
          exact ⟨u, v, t, f5.keep _ _ wl1 e, t0, t1⟩
        have wl1 := wl1'
        have Y := Y5
        have MS := M
        clear Y5 solY
        refine ⟨_, rfl, _, rfl, ?_⟩
        intro mk nmk
        have r1 := same_upd' (o := .dK []) nmk
        have hmk : upd J5 mk (.dK []) mk = some (.dK []) := upd_same
        have Y := Y.same r1
        have M := M.same r1
        have hw := hw.same r1
        have rz5 := rz5.mono fun t xs e => r1 _ _ e
        generalize upd J5 mk (.dK []) = J1 at *
        refine ⟨Nat.zero_le _, fun wd nwd => ?_⟩
        have r2 := same_upd' (o := .lst []) nwd
        have hwd : upd J1 wd (.lst []) wd = some (.lst []) := upd_same
        have hmk := r2 _ _ hmk
        have nwd' := r1.free nwd
        have Y := Y.same r2
        have M := M.same r2
        have hw := hw.same r2
        have rz5 := rz5.mono fun t xs e => r2 _ _ e
        generalize upd J1 wd (.lst []) = J2 at *
        have nmkO : ¬ FtO d oa2 mk := fun z => by
          obtain ⟨o, e, _⟩ := MS.w.solid mk z
          rw [nmk] at e; cases e
        have nwdO : ¬ FtO d oa2 wd := fun z => by
          obtain ⟨o, e, _⟩ := MS.w.solid wd z
          rw [nwd'] at e; cases e
        refine ⟨d, mk, wd, oa2, oe2, x1, 1, m, rfl, ?_, M, N, hmk, hwd, nmkO, nwdO, by omega, by omega, by omega, fun J3 oa3 oe3 vo fo M2 rzo => ?_⟩
        · omega
        have solO := M.w.solid
        have Ysm := Y.sm
        obtain ⟨Y, dj1⟩ := Y.other fo (fun b hb z => dj b z hb) offO solO
        have offO2 := fo.stn Ysm offO
        have dj1 := fun b h1 h2 => dj1 b h2 h1
        have wlO2 : ¬ FtO d oa3 wl := fun z => by
          obtain ⟨u, v, t, e, _⟩ := hw
          rcases fo.new wl z with y | y
          · exact wlO y
          · rw [e] at y; cases y
        have hw : WellAt J3 wl ((20000 + 4 * i + 1 + 1) + 1) := by
          obtain ⟨u, v, t, e, t0, t1⟩ := hw
          exact ⟨u, v, t, fo.keep _ _ wlO e, t0, t1⟩
        have tko := tup_keep solO fo.keep
        have rz5 := rz5.mono tko
        refine ⟨czD _, czD _, dp_rz rz5, dp_rz rzo, pl_cz _, pl_cz _, Nat.le_trans (dep_cz _) (by decide), _, rfl, ?_⟩
        have eov : enK 1 x1.rows.length false = .over 0 0 x1.rows.length false := rfl
        rw [eov] at M2 ⊢
        rw [PySem.SeqAt.eqv_refl_plain _ (pl_cz _)]
        refine ifN (fun h => by cases h) (fun _ => ?_)
        refine ⟨_, rfl, _, rfl, S, F1x, p1, d, oa3, oe3, _, rfl, Y, M2, fun J6 s6 => ⟨_, rfl, ifN (fun h => by cases h) (fun _ => ?_)⟩⟩
        exact ⟨_, _, F1x, oa3, oe3, _, rfl, Y.same s6, M2.same s6, dj1, wl1, wlO2, offO2, (hw.same s6).mono (by omega), by omega⟩
      · have ng : x.n ≤ 100 * i + 10 := by omega
        refine ⟨_, rfl, (by show 6 ≤ sizeLine; decide), fun l1 nl1 => ?_⟩
        have r0 := same_upd' (o := .lst [V.int 50, V.int 50, V.int 20, V.int 6, V.int 1, V.int 0]) nl1
        have hl1 : upd G1 l1 (.lst [V.int 50, V.int 50, V.int 20, V.int 6, V.int 1, V.int 0]) l1 = some (.lst [V.int 50, V.int 50, V.int 20, V.int 6, V.int 1, V.int 0]) := upd_same
        have l1w : l1 ≠ wl := fun z => by
          obtain ⟨u, v, t, e, _⟩ := hw
          rw [z, e] at nl1; cases nl1
        have Y := Y.same r0
        have M := M.same r0
        have hw := hw.same r0
        generalize upd G1 l1 (.lst [V.int 50, V.int 50, V.int 20, V.int 6, V.int 1, V.int 0]) = J0 at *
        refine ⟨wl, l1, _, (20000 + 4 * i + 1), rfl, hw, by omega, l1w, hl1, (by intro h; cases h), (by show 6 ≤ 1000; decide), fun J4 mv k4 hw4 hmem => ?_⟩
        have wsol : ∀ b, b = wl → ∃ o, J0 b = some o ∧ ∀ xs, o ≠ .tup xs := fun b hb => by
          obtain ⟨u, v, t, e, _⟩ := hw
          exact ⟨_, by rw [hb]; exact e, fun xs z => by cases z⟩
        have Y := (Y.other (But.fr k4) (fun b hb => by rw [hb]; exact wl1) (fun b hb => by rw [hb]; exact Swl) wsol).1
        have M := (M.other (But.fr k4) (fun b hb => by rw [hb]; exact wlO) wsol).1
        clear wsol hw
        have hw := hw4
        obtain ⟨m, rfl, m0, m1⟩ : ∃ m : Int, mv = .int m ∧ 0 ≤ m ∧ m ≤ 50 := by
          simp only [List.mem_cons, List.not_mem_nil, or_false] at hmem
          rcases hmem with h | h | h | h | h | h <;> exact ⟨_, h, by decide, by decide⟩
        clear hmem k4 hl1
        refine ⟨_, rfl, _, rfl, S, F1, p1, x, m, rfl, Y, by omega, by omega, by omega, fun J5 F1x v5 f5 Y5 rz5 => ?_⟩
        have solY := Y.solid
        have N := Y.2
        have ng := (goP_N Y.2 m (.over 0 0 x.rows.length false)).2
        obtain ⟨M, dj⟩ := M.other f5 dj solY
        have wl1' : ¬ F1x wl := fun z => by
          obtain ⟨u, v, t, e, _⟩ := hw
          rcases f5.new wl z with y | y
          · exact wl1 y
          · rw [e] at y; cases y
        have hw : WellAt J5 wl ((20000 + 4 * i + 1) + 1) := by
          obtain ⟨u, v, t, e, t0, t1⟩ := hw
          exact ⟨u, v, t, f5.keep _ _ wl1 e, t0, t1⟩
        have wl1 := wl1'
        have Y := Y5
        have MS := M
        clear Y5 solY
        refine ⟨_, rfl, _, rfl, ?_⟩
        intro mk nmk
        have r1 := same_upd' (o := .dK []) nmk
        have hmk : upd J5 mk (.dK []) mk = some (.dK []) := upd_same
        have Y := Y.same r1
        have M := M.same r1
        have hw := hw.same r1
        have rz5 := rz5.mono fun t xs e => r1 _ _ e
        generalize upd J5 mk (.dK []) = J1 at *
        refine ⟨Nat.zero_le _, fun wd nwd => ?_⟩
        have r2 := same_upd' (o := .lst []) nwd
        have hwd : upd J1 wd (.lst []) wd = some (.lst []) := upd_same
        have hmk := r2 _ _ hmk
        have nwd' := r1.free nwd
        have Y := Y.same r2
        have M := M.same r2
        have hw := hw.same r2
        have rz5 := rz5.mono fun t xs e => r2 _ _ e
        generalize upd J1 wd (.lst []) = J2 at *
        have nmkO : ¬ FtO d oa mk := fun z => by
          obtain ⟨o, e, _⟩ := MS.w.solid mk z
          rw [nmk] at e; cases e
        have nwdO : ¬ FtO d oa wd := fun z => by
          obtain ⟨o, e, _⟩ := MS.w.solid wd z
          rw [nwd'] at e; cases e
        refine ⟨d, mk, wd, oa, oe, x, 1, m, rfl, ?_, M, N, hmk, hwd, nmkO, nwdO, by omega, by omega, by omega, fun J3 oa2 oe2 vo fo M2 rzo => ?_⟩
        · omega
        have solO := M.w.solid
        have Ysm := Y.sm
        obtain ⟨Y, dj1⟩ := Y.other fo (fun b hb z => dj b z hb) offO solO
        have offO2 := fo.stn Ysm offO
        have dj1 := fun b h1 h2 => dj1 b h2 h1
        have wlO2 : ¬ FtO d oa2 wl := fun z => by
          obtain ⟨u, v, t, e, _⟩ := hw
          rcases fo.new wl z with y | y
          · exact wlO y
          · rw [e] at y; cases y
        have hw : WellAt J3 wl ((20000 + 4 * i + 1) + 1) := by
          obtain ⟨u, v, t, e, t0, t1⟩ := hw
          exact ⟨u, v, t, fo.keep _ _ wlO e, t0, t1⟩
        have tko := tup_keep solO fo.keep
        have rz5 := rz5.mono tko
        refine ⟨czD _, czD _, dp_rz rz5, dp_rz rzo, pl_cz _, pl_cz _, Nat.le_trans (dep_cz _) (by decide), _, rfl, ?_⟩
        have eov : enK 1 x.rows.length false = .over 0 0 x.rows.length false := rfl
        rw [eov] at M2 ⊢
        rw [PySem.SeqAt.eqv_refl_plain _ (pl_cz _)]
        refine ifN (fun h => by cases h) (fun _ => ?_)
        refine ⟨_, rfl, _, rfl, S, F1x, p1, d, oa2, oe2, _, rfl, Y, M2, fun J6 s6 => ⟨_, rfl, ifN (fun h => by cases h) (fun _ => ?_)⟩⟩
        exact ⟨_, _, F1x, oa2, oe2, _, rfl, Y.same s6, M2.same s6, dj1, wl1, wlO2, offO2, (hw.same s6).mono (by omega), by omega⟩
    · rintro σ H0 ⟨y7, y8, F1, oa, oe, x, rfl, Y, M, dj, wl1, wlO, offO, hw, xn⟩
      obtain ⟨ux, _, _, _, _, _, _, _, _, _, hp1⟩ := Y.ins
      refine ⟨_, rfl, p1, ux, _, rfl, hp1, pN_look, S, F1, p1, x, 512, 262, rfl, Y, by decide, by decide, by decide, by decide, fun G2 l2 s2 n2 h2 => ?_⟩
      have M := M.same s2
      have Y := Y.same s2
      obtain ⟨sv, hd, hz⟩ := M.w.hd
      refine ⟨_, rfl, d, _, rfl, dg (k := Sum.inr "m") hd oG_m, _, rfl, _, rfl, oa.m, _, rfl, SqL.of M.w.hm, fun l3 n3 => ?_⟩
      rw [cut_mid _ M.w.lm]
      have s3 := same_upd' (o := .lst (((List.range 262).map fun k : Nat => rd x.b.mem (512 + (k : Int))).map V.int)) n3
      refine ⟨.list (((List.range 262).map fun k : Nat => rd x.b.mem (512 + (k : Int))).map PyData.int), _, .lst (SqL.of (s3 _ _ h2)) (dp_ints _), .lst (SqL.of upd_same) (dp_ints _), pl_L (pl_ints _), pl_L (pl_ints _), Nat.le_trans (dep_L (dep_ints5 _)) (by decide), _, rfl, ?_⟩
      rw [PySem.SeqAt.eqv_refl_plain _ (pl_L (pl_ints _))]
      refine ifN (fun h => by cases h) (fun _ => ?_)
      exact ⟨s3 _ _ (Y.sm _ _ Sca), _, _, _, _, _, _, _, _, rfl⟩
  rintro σ H0 ⟨_, y1, y2, y3, y4, y5, y6, y7, y8, rfl⟩
  exact q _
end
end Bh

namespace Bh
open PySem PySem.Spec PyProof.Rows L2 PySem.W
theorem all_mk {l : PySem.W.OpenLaw} {w : World} {K : PySem.W.Frag} {h : Heap} {mg : Str → Option Value} {fa : Addr} (X : K.In h) (G : h.Ns mainGlobals mg) (hfa : mg "law" = some (.ref fa)) (c : SaysH faL fnL tsL xlL 25 w K)
    : ∃ fd : FuncData, (∀ (s : Shared) (v : Value), BindsTo s fd ⟨[v], []⟩ [("_law_script", v)]) ∧ ∀ base : Heap, K.In base → base.Ns mainGlobals mg → FnOk l.prog w K mg base CX0 13 fa fd ["_law_script"] (spLaw K) := by
  have e := hfa.symm.trans (He.glo_ok X G (c.fact 197 (f := .glo "law") rfl))
  cases e
  have Tb : Tx K mg (He.ga K "Board") (He.ga K "Memory") := {
    g_FLASH_END := He.int_ok X G (c.fact 0 (f := .int "FLASH_END" 512) rfl)
    g_RAM_END := He.int_ok X G (c.fact 1 (f := .int "RAM_END" 768) rfl)
    g_PLACES_END := He.int_ok X G (c.fact 2 (f := .int "PLACES_END" 774) rfl)
    g_COUNT := He.int_ok X G (c.fact 3 (f := .int "COUNT" 768) rfl)
    g_TOP := He.int_ok X G (c.fact 4 (f := .int "TOP" 769) rfl)
    g_FLAGS := He.int_ok X G (c.fact 5 (f := .int "FLAGS" 770) rfl)
    g_MASK := He.int_ok X G (c.fact 6 (f := .int "MASK" 771) rfl)
    g_LINE_IN := He.int_ok X G (c.fact 7 (f := .int "LINE_IN" 772) rfl)
    g_LINE_OUT := He.int_ok X G (c.fact 8 (f := .int "LINE_OUT" 773) rfl)
    g_TIMER_FLAG := He.int_ok X G (c.fact 9 (f := .int "TIMER_FLAG" 1) rfl)
    g_LINE_FLAG := He.int_ok X G (c.fact 10 (f := .int "LINE_FLAG" 2) rfl)
    g_WORD_MOST := He.int_ok X G (c.fact 11 (f := .int "WORD_MOST" 65535) rfl)
    g_ERASED := He.int_ok X G (c.fact 12 (f := .int "ERASED" 65535) rfl)
    g_X_SPAN := He.int_ok X G (c.fact 13 (f := .int "X_SPAN" 1024) rfl)
    g_LINE_MOST := He.int_ok X G (c.fact 14 (f := .int "LINE_MOST" 3) rfl)
    g_STACK_TOP := He.int_ok X G (c.fact 15 (f := .int "STACK_TOP" 767) rfl)
    g_INTERRUPT_BEATS := He.int_ok X G (c.fact 16 (f := .int "INTERRUPT_BEATS" 3) rfl)
    g_TIMER_PC := He.int_ok X G (c.fact 17 (f := .int "TIMER_PC" 1) rfl)
    g_LINE_PC := He.int_ok X G (c.fact 18 (f := .int "LINE_PC" 2) rfl)
    g_WORDS := He.int_ok X G (c.fact 19 (f := .int "WORDS" 65536) rfl)
    g_HIGH := He.int_ok X G (c.fact 20 (f := .int "HIGH" 32768) rfl)
    z_len := (He.free_ok X G (c.fact 21 (f := .free "len") rfl))
    z_range := (He.free_ok X G (c.fact 22 (f := .free "range") rfl))
    z_isinstance := (He.free_ok X G (c.fact 23 (f := .free "isinstance") rfl))
    z_all := (He.free_ok X G (c.fact 24 (f := .free "all") rfl))
    z_int := (He.free_ok X G (c.fact 25 (f := .free "int") rfl))
    z_bool := (He.free_ok X G (c.fact 26 (f := .free "bool") rfl))
    z_list := (He.free_ok X G (c.fact 27 (f := .free "list") rfl))
    z_tuple := (He.free_ok X G (c.fact 28 (f := .free "tuple") rfl))
    z_divmod := (He.free_ok X G (c.fact 29 (f := .free "divmod") rfl))
    g_READS_AT_X := ⟨_, (He.glo_ok X G (c.fact 30 (f := .glo "READS_AT_X") rfl)), fun H => He.tupB_ok (vs := [.str "get", .str "add", .str "sub", .str "and", .str "xor"]) (c.x 0 rfl) H⟩
    g_OP_NAMES := ⟨_, (He.glo_ok X G (c.fact 31 (f := .glo "OP_NAMES") rfl)), fun H => He.tupB_ok (vs := [.str "mark", .str "lit", .str "get", .str "put", .str "add", .str "sub", .str "and", .str "xor", .str "getb", .str "putb", .str "tob", .str "swap", .str "go", .str "ifz", .str "ifn", .str "call", .str "ret", .str "push", .str "pop", .str "sleep", .str "let", .str "back", .str "half"]) (c.x 1 rfl) H⟩
    cB := (He.cls_ok (c.fact 32 (f := .cls "Board") rfl))
    cM := (He.cls_ok (c.fact 33 (f := .cls "Memory") rfl))
    n_registers := He.noat_ok (c.fact 34 (f := .noat "Board" "registers") rfl)
    n_zero := He.noat_ok (c.fact 35 (f := .noat "Board" "zero") rfl)
    n_lets := He.noat_ok (c.fact 36 (f := .noat "Board" "lets") rfl)
    n_asleep := He.noat_ok (c.fact 37 (f := .noat "Board" "asleep") rfl)
    n_beat := He.noat_ok (c.fact 38 (f := .noat "Board" "beat") rfl)
    n_stopped := He.noat_ok (c.fact 39 (f := .noat "Board" "stopped") rfl)
    n_sent := He.noat_ok (c.fact 40 (f := .noat "Board" "sent") rfl)
    n_memory := He.noat_ok (c.fact 41 (f := .noat "Board" "memory") rfl)
    n_line := He.noat_ok (c.fact 42 (f := .noat "Board" "line") rfl)
    n_line_at := He.noat_ok (c.fact 43 (f := .noat "Board" "line_at") rfl)
    n_touched := He.noat_ok (c.fact 44 (f := .noat "Board" "touched") rfl)
    n_did := He.noat_ok (c.fact 45 (f := .noat "Board" "did") rfl)
    n_bend := He.noat_ok (c.fact 46 (f := .noat "Board" "bend") rfl)
    n_words := He.noat_ok (c.fact 47 (f := .noat "Memory" "words") rfl)
    n_swapped := He.noat_ok (c.fact 48 (f := .noat "Memory" "swapped") rfl) }
  have T : Ty K mg (He.ga K "Board") (He.ga K "Memory") (He.ga K "Probe") (He.ga K "Marks") (He.ga K "Watches") (He.ga K "Frames") (He.ga K "History") (He.ga K "Counts") (He.ga K "Mishaps") (He.ga K "Stands") := {
    toTx := Tb
    g_WATCHES := He.int_ok X G (c.fact 49 (f := .int "WATCHES" 2) rfl)
    g_PAGES := He.int_ok X G (c.fact 50 (f := .int "PAGES" 16) rfl)
    g_OUTSIDE := He.int_ok X G (c.fact 51 (f := .int "OUTSIDE" (-1)) rfl)
    g_KEPT_TURNS := He.int_ok X G (c.fact 52 (f := .int "KEPT_TURNS" 32) rfl)
    z_enumerate := (He.free_ok X G (c.fact 53 (f := .free "enumerate") rfl))
    cP := (He.cls_ok (c.fact 54 (f := .cls "Probe") rfl))
    nP_board := He.noat_ok (c.fact 55 (f := .noat "Probe" "board") rfl)
    nP_standing := He.noat_ok (c.fact 56 (f := .noat "Probe" "standing") rfl)
    nP_watching := He.noat_ok (c.fact 57 (f := .noat "Probe" "watching") rfl)
    nP_frames := He.noat_ok (c.fact 58 (f := .noat "Probe" "frames") rfl)
    nP_history := He.noat_ok (c.fact 59 (f := .noat "Probe" "history") rfl)
    nP_counts := He.noat_ok (c.fact 60 (f := .noat "Probe" "counts") rfl)
    nP_mishaps := He.noat_ok (c.fact 61 (f := .noat "Probe" "mishaps") rfl)
    nP_stands := He.noat_ok (c.fact 62 (f := .noat "Probe" "stands") rfl)
    nP_turns_gone := He.noat_ok (c.fact 63 (f := .noat "Probe" "turns_gone") rfl)
    nP_course := He.noat_ok (c.fact 64 (f := .noat "Probe" "course") rfl)
    cK := (He.cls_ok (c.fact 65 (f := .cls "Marks") rfl))
    nK_memory := He.noat_ok (c.fact 66 (f := .noat "Marks" "memory") rfl)
    nK_hard := He.noat_ok (c.fact 67 (f := .noat "Marks" "hard") rfl)
    nK_erased := He.noat_ok (c.fact 68 (f := .noat "Marks" "erased") rfl)
    cW := (He.cls_ok (c.fact 69 (f := .cls "Watches") rfl))
    nW_rows := He.noat_ok (c.fact 70 (f := .noat "Watches" "rows") rfl)
    cF := (He.cls_ok (c.fact 71 (f := .cls "Frames") rfl))
    nF_rows := He.noat_ok (c.fact 72 (f := .noat "Frames" "rows") rfl)
    nF_strays := He.noat_ok (c.fact 73 (f := .noat "Frames" "strays") rfl)
    cH := (He.cls_ok (c.fact 74 (f := .cls "History") rfl))
    nH_rows := He.noat_ok (c.fact 75 (f := .noat "History" "rows") rfl)
    nH_faded := He.noat_ok (c.fact 76 (f := .noat "History" "faded") rfl)
    cC := (He.cls_ok (c.fact 77 (f := .cls "Counts") rfl))
    nC_deeds := He.noat_ok (c.fact 78 (f := .noat "Counts" "deeds") rfl)
    nC_frames := He.noat_ok (c.fact 79 (f := .noat "Counts" "frames") rfl)
    nC_idle := He.noat_ok (c.fact 80 (f := .noat "Counts" "idle") rfl)
    nC_peeked := He.noat_ok (c.fact 81 (f := .noat "Counts" "peeked") rfl)
    cI := (He.cls_ok (c.fact 82 (f := .cls "Mishaps") rfl))
    nI_rows := He.noat_ok (c.fact 83 (f := .noat "Mishaps" "rows") rfl)
    nI_met_rows := He.noat_ok (c.fact 84 (f := .noat "Mishaps" "met_rows") rfl)
    cS := (He.cls_ok (c.fact 85 (f := .cls "Stands") rfl))
    nS_rows := He.noat_ok (c.fact 86 (f := .noat "Stands" "rows") rfl) }
  have TO : To K (He.ga K "OverEnd") (He.ga K "OutEnd") := {
    cO := (He.cls_ok (c.fact 87 (f := .cls "OverEnd") rfl))
    nO_depth := He.noat_ok (c.fact 88 (f := .noat "OverEnd" "depth") rfl)
    nO_deed_done := He.noat_ok (c.fact 89 (f := .noat "OverEnd" "deed_done") rfl) }
  have TR : Tr K mg := {
    g_REGISTERS := ⟨_, (He.glo_ok X G (c.fact 90 (f := .glo "REGISTERS") rfl)), fun H => He.tupB_ok (vs := [.str "a", .str "b", .str "pc", .str "sp"]) (c.x 2 rfl) H⟩
    z_str := (He.free_ok X G (c.fact 91 (f := .free "str") rfl)) }
  obtain ⟨fd_Memoryinit, D_Memoryinit⟩ := c.def_ 0 (d := d_Memoryinit) rfl
  have F_Memoryinit : Fun K "__init__" "Memory.__init__" sCmem _ fd_Memoryinit := He5.fun_of D_Memoryinit
  have b_Memoryinit := F_Memoryinit.binds (ps := ["self", "image"]) fun _ _ _ _ _ _ us hl => match us, hl with | [_, _], _ => rfl
  obtain ⟨fd_firstregisters, D_firstregisters⟩ := c.def_ 1 (d := d_firstregisters) rfl
  have F_firstregisters : Fun K "first_registers" "first_registers" sFfirst _ fd_firstregisters := He5.fun_of D_firstregisters
  have b_firstregisters := F_firstregisters.binds (ps := []) fun _ _ _ _ _ _ us hl => match us, hl with | [], _ => rfl
  obtain ⟨fd_iswhole, D_iswhole⟩ := c.def_ 2 (d := d_iswhole) rfl
  have F_iswhole : Fun K "is_whole" "is_whole" sFwhole _ fd_iswhole := He5.fun_of D_iswhole
  have b_iswhole := F_iswhole.binds (ps := ["thing"]) fun _ _ _ _ _ _ us hl => match us, hl with | [_], _ => rfl
  obtain ⟨fd_isbetween, D_isbetween⟩ := c.def_ 3 (d := d_isbetween) rfl
  have F_isbetween : Fun K "is_between" "is_between" sFbetw _ fd_isbetween := He5.fun_of D_isbetween
  have b_isbetween := F_isbetween.binds (ps := ["thing", "least", "greatest"]) fun _ _ _ _ _ _ us hl => match us, hl with | [_, _, _], _ => rfl
  obtain ⟨fd_isword, D_isword⟩ := c.def_ 4 (d := d_isword) rfl
  have F_isword : Fun K "is_word" "is_word" sFword _ fd_isword := He5.fun_of D_isword
  have b_isword := F_isword.binds (ps := ["thing"]) fun _ _ _ _ _ _ us hl => match us, hl with | [_], _ => rfl
  obtain ⟨fd_isimage, D_isimage⟩ := c.def_ 5 (d := d_isimage) rfl
  have F_isimage : Fun K "is_image" "is_image" sFimage _ fd_isimage := He5.fun_of D_isimage
  have b_isimage := F_isimage.binds (ps := ["thing"]) fun _ _ _ _ _ _ us hl => match us, hl with | [_], _ => rfl
  obtain ⟨fd_islinerow, D_islinerow⟩ := c.def_ 6 (d := d_islinerow) rfl
  have F_islinerow : Fun K "is_line_row" "is_line_row" sFlrow _ fd_islinerow := He5.fun_of D_islinerow
  have b_islinerow := F_islinerow.binds (ps := ["row", "last"]) fun _ _ _ _ _ _ us hl => match us, hl with | [_, _], _ => rfl
  obtain ⟨fd_isline, D_isline⟩ := c.def_ 7 (d := d_isline) rfl
  have F_isline : Fun K "is_line" "is_line" sFline _ fd_isline := He5.fun_of D_isline
  have b_isline := F_isline.binds (ps := ["thing"]) fun _ _ _ _ _ _ us hl => match us, hl with | [_], _ => rfl
  obtain ⟨fd_Boardinit, D_Boardinit⟩ := c.def_ 8 (d := d_Boardinit) rfl
  have F_Boardinit : Fun K "__init__" "Board.__init__" sCboard _ fd_Boardinit := He5.fun_of D_Boardinit
  have b_Boardinit := F_Boardinit.binds (ps := ["self", "image", "line"]) fun _ _ _ _ _ _ us hl => match us, hl with | [_, _, _], _ => rfl
  obtain ⟨fd_Countsinit, D_Countsinit⟩ := c.def_ 9 (d := d_Countsinit) rfl
  have F_Countsinit : Fun K "__init__" "Counts.__init__" sCcou _ fd_Countsinit := He5.fun_of D_Countsinit
  have b_Countsinit := F_Countsinit.binds (ps := ["self"]) fun _ _ _ _ _ _ us hl => match us, hl with | [_], _ => rfl
  obtain ⟨fd_Framesinit, D_Framesinit⟩ := c.def_ 10 (d := d_Framesinit) rfl
  have F_Framesinit : Fun K "__init__" "Frames.__init__" sCfra _ fd_Framesinit := He5.fun_of D_Framesinit
  have b_Framesinit := F_Framesinit.binds (ps := ["self"]) fun _ _ _ _ _ _ us hl => match us, hl with | [_], _ => rfl
  obtain ⟨fd_Historyinit, D_Historyinit⟩ := c.def_ 11 (d := d_Historyinit) rfl
  have F_Historyinit : Fun K "__init__" "History.__init__" sChis _ fd_Historyinit := He5.fun_of D_Historyinit
  have b_Historyinit := F_Historyinit.binds (ps := ["self"]) fun _ _ _ _ _ _ us hl => match us, hl with | [_], _ => rfl
  obtain ⟨fd_Marksinit, D_Marksinit⟩ := c.def_ 12 (d := d_Marksinit) rfl
  have F_Marksinit : Fun K "__init__" "Marks.__init__" sCmar _ fd_Marksinit := He5.fun_of D_Marksinit
  have b_Marksinit := F_Marksinit.binds (ps := ["self", "memory"]) fun _ _ _ _ _ _ us hl => match us, hl with | [_, _], _ => rfl
  obtain ⟨fd_Mishapsinit, D_Mishapsinit⟩ := c.def_ 13 (d := d_Mishapsinit) rfl
  have F_Mishapsinit : Fun K "__init__" "Mishaps.__init__" sCmis _ fd_Mishapsinit := He5.fun_of D_Mishapsinit
  have b_Mishapsinit := F_Mishapsinit.binds (ps := ["self"]) fun _ _ _ _ _ _ us hl => match us, hl with | [_], _ => rfl
  obtain ⟨fd_Standsinit, D_Standsinit⟩ := c.def_ 14 (d := d_Standsinit) rfl
  have F_Standsinit : Fun K "__init__" "Stands.__init__" sCsta _ fd_Standsinit := He5.fun_of D_Standsinit
  have b_Standsinit := F_Standsinit.binds (ps := ["self"]) fun _ _ _ _ _ _ us hl => match us, hl with | [_], _ => rfl
  obtain ⟨fd_Watchesinit, D_Watchesinit⟩ := c.def_ 15 (d := d_Watchesinit) rfl
  have F_Watchesinit : Fun K "__init__" "Watches.__init__" sCwat _ fd_Watchesinit := He5.fun_of D_Watchesinit
  have b_Watchesinit := F_Watchesinit.binds (ps := ["self"]) fun _ _ _ _ _ _ us hl => match us, hl with | [_], _ => rfl
  obtain ⟨fd_Probeinit, D_Probeinit⟩ := c.def_ 16 (d := d_Probeinit) rfl
  have F_Probeinit : Fun K "__init__" "Probe.__init__" sCprb _ fd_Probeinit := He5.fun_of D_Probeinit
  have b_Probeinit := F_Probeinit.binds (ps := ["self", "image", "line"]) fun _ _ _ _ _ _ us hl => match us, hl with | [_, _, _], _ => rfl
  obtain ⟨fd_OverEndinit, D_OverEndinit⟩ := c.def_ 17 (d := d_OverEndinit) rfl
  have F_OverEndinit : Fun K "__init__" "OverEnd.__init__" sCove _ fd_OverEndinit := He5.fun_of D_OverEndinit
  have b_OverEndinit := F_OverEndinit.binds (ps := ["self", "depth"]) fun _ _ _ _ _ _ us hl => match us, hl with | [_, _], _ => rfl
  obtain ⟨fd_Memorycalledflags, D_Memorycalledflags⟩ := c.def_ 18 (d := d_Memorycalledflags) rfl
  have F_Memorycalledflags : Fun K "called_flags" "Memory.called_flags" sMcalled _ fd_Memorycalledflags := He5.fun_of D_Memorycalledflags
  have b_Memorycalledflags := F_Memorycalledflags.binds (ps := ["self"]) fun _ _ _ _ _ _ us hl => match us, hl with | [_], _ => rfl
  obtain ⟨fd_Boardcoming, D_Boardcoming⟩ := c.def_ 19 (d := d_Boardcoming) rfl
  have F_Boardcoming : Fun K "coming" "Board.coming" sMcoming _ fd_Boardcoming := He5.fun_of D_Boardcoming
  have b_Boardcoming := F_Boardcoming.binds (ps := ["self"]) fun _ _ _ _ _ _ us hl => match us, hl with | [_], _ => rfl
  obtain ⟨fd_Marksstandsat, D_Marksstandsat⟩ := c.def_ 20 (d := d_Marksstandsat) rfl
  have F_Marksstandsat : Fun K "stands_at" "Marks.stands_at" sMsta _ fd_Marksstandsat := He5.fun_of D_Marksstandsat
  have b_Marksstandsat := F_Marksstandsat.binds (ps := ["self", "address"]) fun _ _ _ _ _ _ us hl => match us, hl with | [_, _], _ => rfl
  obtain ⟨fd_Probemeetsmark, D_Probemeetsmark⟩ := c.def_ 21 (d := d_Probemeetsmark) rfl
  have F_Probemeetsmark : Fun K "meets_mark" "Probe.meets_mark" sMmm _ fd_Probemeetsmark := He5.fun_of D_Probemeetsmark
  have b_Probemeetsmark := F_Probemeetsmark.binds (ps := ["self"]) fun _ _ _ _ _ _ us hl => match us, hl with | [_], _ => rfl
  obtain ⟨fd_Probenotegone, D_Probenotegone⟩ := c.def_ 22 (d := d_Probenotegone) rfl
  have F_Probenotegone : Fun K "note_gone" "Probe.note_gone" sMngv _ fd_Probenotegone := He5.fun_of D_Probenotegone
  have b_Probenotegone := F_Probenotegone.binds (ps := ["self", "addresses", "whole"]) fun _ _ _ _ _ _ us hl => match us, hl with | [_, _, _], _ => rfl
  obtain ⟨fd_Probepeek, D_Probepeek⟩ := c.def_ 23 (d := d_Probepeek) rfl
  have F_Probepeek : Fun K "peek" "Probe.peek" sMpeek _ fd_Probepeek := He5.fun_of D_Probepeek
  have b_Probepeek := F_Probepeek.binds (ps := ["self", "address"]) fun _ _ _ _ _ _ us hl => match us, hl with | [_, _], _ => rfl
  obtain ⟨fd_OverEndcomes, D_OverEndcomes⟩ := c.def_ 24 (d := d_OverEndcomes) rfl
  have F_OverEndcomes : Fun K "comes" "OverEnd.comes" sMcomO _ fd_OverEndcomes := He5.fun_of D_OverEndcomes
  have b_OverEndcomes := F_OverEndcomes.binds (ps := ["self", "sort", "ahead", "now"]) fun _ _ _ _ _ _ us hl => match us, hl with | [_, _, _, _], _ => rfl
  obtain ⟨fd_Mishapsbending, D_Mishapsbending⟩ := c.def_ 25 (d := d_Mishapsbending) rfl
  have F_Mishapsbending : Fun K "bending" "Mishaps.bending" sMbnd _ fd_Mishapsbending := He5.fun_of D_Mishapsbending
  have b_Mishapsbending := F_Mishapsbending.binds (ps := ["self", "beat"]) fun _ _ _ _ _ _ us hl => match us, hl with | [_, _], _ => rfl
  obtain ⟨fd_Mishapscome, D_Mishapscome⟩ := c.def_ 26 (d := d_Mishapscome) rfl
  have F_Mishapscome : Fun K "come" "Mishaps.come" sMcme _ fd_Mishapscome := He5.fun_of D_Mishapscome
  have b_Mishapscome := F_Mishapscome.binds (ps := ["self", "fault", "beat"]) fun _ _ _ _ _ _ us hl => match us, hl with | [_, _, _], _ => rfl
  obtain ⟨fd_Framesgobackfrom, D_Framesgobackfrom⟩ := c.def_ 27 (d := d_Framesgobackfrom) rfl
  have F_Framesgobackfrom : Fun K "go_back_from" "Frames.go_back_from" sMgbf _ fd_Framesgobackfrom := He5.fun_of D_Framesgobackfrom
  have b_Framesgobackfrom := F_Framesgobackfrom.binds (ps := ["self", "kind"]) fun _ _ _ _ _ _ us hl => match us, hl with | [_, _], _ => rfl
  obtain ⟨fd_Framesfollow, D_Framesfollow⟩ := c.def_ 28 (d := d_Framesfollow) rfl
  have F_Framesfollow : Fun K "follow" "Frames.follow" sMfol _ fd_Framesfollow := He5.fun_of D_Framesfollow
  have b_Framesfollow := F_Framesfollow.binds (ps := ["self", "sort", "did", "at", "to"]) fun _ _ _ _ _ _ us hl => match us, hl with | [_, _, _, _, _], _ => rfl
  obtain ⟨fd_Historynote, D_Historynote⟩ := c.def_ 29 (d := d_Historynote) rfl
  have F_Historynote : Fun K "note" "History.note" sMhno _ fd_Historynote := He5.fun_of D_Historynote
  have b_Historynote := F_Historynote.binds (ps := ["self", "beat", "sort", "pc"]) fun _ _ _ _ _ _ us hl => match us, hl with | [_, _, _, _], _ => rfl
  obtain ⟨fd_Framesinnermost, D_Framesinnermost⟩ := c.def_ 30 (d := d_Framesinnermost) rfl
  have F_Framesinnermost : Fun K "innermost" "Frames.innermost" sMinn _ fd_Framesinnermost := He5.fun_of D_Framesinnermost
  have b_Framesinnermost := F_Framesinnermost.binds (ps := ["self"]) fun _ _ _ _ _ _ us hl => match us, hl with | [_], _ => rfl
  obtain ⟨fd_Countsnotebeats, D_Countsnotebeats⟩ := c.def_ 31 (d := d_Countsnotebeats) rfl
  have F_Countsnotebeats : Fun K "note_beats" "Counts.note_beats" sMnbe _ fd_Countsnotebeats := He5.fun_of D_Countsnotebeats
  have b_Countsnotebeats := F_Countsnotebeats.binds (ps := ["self", "beats", "to"]) fun _ _ _ _ _ _ us hl => match us, hl with | [_, _, _], _ => rfl
  obtain ⟨fd_Countsnoteturn, D_Countsnoteturn⟩ := c.def_ 32 (d := d_Countsnoteturn) rfl
  have F_Countsnoteturn : Fun K "note_turn" "Counts.note_turn" sMntu _ fd_Countsnoteturn := He5.fun_of D_Countsnoteturn
  have b_Countsnoteturn := F_Countsnoteturn.binds (ps := ["self", "sort", "pc", "beats", "to"]) fun _ _ _ _ _ _ us hl => match us, hl with | [_, _, _, _, _], _ => rfl
  obtain ⟨fd_barof, D_barof⟩ := c.def_ 33 (d := d_barof) rfl
  have F_barof : Fun K "bar_of" "bar_of" sFbar _ fd_barof := He5.fun_of D_barof
  have b_barof := F_barof.binds (ps := ["kind", "address"]) fun _ _ _ _ _ _ us hl => match us, hl with | [_, _], _ => rfl
  obtain ⟨fd_Boardstop, D_Boardstop⟩ := c.def_ 34 (d := d_Boardstop) rfl
  have F_Boardstop : Fun K "stop" "Board.stop" sMstop _ fd_Boardstop := He5.fun_of D_Boardstop
  have b_Boardstop := F_Boardstop.binds (ps := ["self", "stop"]) fun _ _ _ _ _ _ us hl => match us, hl with | [_, _], _ => rfl
  obtain ⟨fd_Boardmaytouch, D_Boardmaytouch⟩ := c.def_ 35 (d := d_Boardmaytouch) rfl
  have F_Boardmaytouch : Fun K "may_touch" "Board.may_touch" sMmay _ fd_Boardmaytouch := He5.fun_of D_Boardmaytouch
  have b_Boardmaytouch := F_Boardmaytouch.binds (ps := ["self", "touches"]) fun _ _ _ _ _ _ us hl => match us, hl with | [_, _], _ => rfl
  obtain ⟨fd_Memorytakeline, D_Memorytakeline⟩ := c.def_ 36 (d := d_Memorytakeline) rfl
  have F_Memorytakeline : Fun K "take_line" "Memory.take_line" sMtake _ fd_Memorytakeline := He5.fun_of D_Memorytakeline
  have b_Memorytakeline := F_Memorytakeline.binds (ps := ["self", "value"]) fun _ _ _ _ _ _ us hl => match us, hl with | [_, _], _ => rfl
  obtain ⟨fd_Boardcomeline, D_Boardcomeline⟩ := c.def_ 37 (d := d_Boardcomeline) rfl
  have F_Boardcomeline : Fun K "come_line" "Board.come_line" sMcome _ fd_Boardcomeline := He5.fun_of D_Boardcomeline
  have b_Boardcomeline := F_Boardcomeline.binds (ps := ["self"]) fun _ _ _ _ _ _ us hl => match us, hl with | [_], _ => rfl
  obtain ⟨fd_Memorygotimer, D_Memorygotimer⟩ := c.def_ 38 (d := d_Memorygotimer) rfl
  have F_Memorygotimer : Fun K "go_timer" "Memory.go_timer" sMtimer _ fd_Memorygotimer := He5.fun_of D_Memorygotimer
  have b_Memorygotimer := F_Memorygotimer.binds (ps := ["self"]) fun _ _ _ _ _ _ us hl => match us, hl with | [_], _ => rfl
  obtain ⟨fd_Boardpassbeats, D_Boardpassbeats⟩ := c.def_ 39 (d := d_Boardpassbeats) rfl
  have F_Boardpassbeats : Fun K "pass_beats" "Board.pass_beats" sMpass _ fd_Boardpassbeats := He5.fun_of D_Boardpassbeats
  have b_Boardpassbeats := F_Boardpassbeats.binds (ps := ["self", "many"]) fun _ _ _ _ _ _ us hl => match us, hl with | [_, _], _ => rfl
  obtain ⟨fd_Memoryput, D_Memoryput⟩ := c.def_ 40 (d := d_Memoryput) rfl
  have F_Memoryput : Fun K "put" "Memory.put" sMput _ fd_Memoryput := He5.fun_of D_Memoryput
  have b_Memoryput := F_Memoryput.binds (ps := ["self", "address", "word"]) fun _ _ _ _ _ _ us hl => match us, hl with | [_, _, _], _ => rfl
  obtain ⟨fd_Boardputword, D_Boardputword⟩ := c.def_ 41 (d := d_Boardputword) rfl
  have F_Boardputword : Fun K "put_word" "Board.put_word" sMpw _ fd_Boardputword := He5.fun_of D_Boardputword
  have b_Boardputword := F_Boardputword.binds (ps := ["self", "address", "word"]) fun _ _ _ _ _ _ us hl => match us, hl with | [_, _, _], _ => rfl
  obtain ⟨fd_Boardputbyturn, D_Boardputbyturn⟩ := c.def_ 42 (d := d_Boardputbyturn) rfl
  have F_Boardputbyturn : Fun K "put_by_turn" "Board.put_by_turn" sMpbt _ fd_Boardputbyturn := He5.fun_of D_Boardputbyturn
  have b_Boardputbyturn := F_Boardputbyturn.binds (ps := ["self", "address", "word"]) fun _ _ _ _ _ _ us hl => match us, hl with | [_, _, _], _ => rfl
  obtain ⟨fd_Boardbegininterrupt, D_Boardbegininterrupt⟩ := c.def_ 43 (d := d_Boardbegininterrupt) rfl
  have F_Boardbegininterrupt : Fun K "begin_interrupt" "Board.begin_interrupt" sMbegin _ fd_Boardbegininterrupt := He5.fun_of D_Boardbegininterrupt
  have b_Boardbegininterrupt := F_Boardbegininterrupt.binds (ps := ["self"]) fun _ _ _ _ _ _ us hl => match us, hl with | [_], _ => rfl
  obtain ⟨fd_touchesof, D_touchesof⟩ := c.def_ 44 (d := d_touchesof) rfl
  have F_touchesof : Fun K "touches_of" "touches_of" sFtou _ fd_touchesof := He5.fun_of D_touchesof
  have b_touchesof := F_touchesof.binds (ps := ["name", "x", "registers"]) fun _ _ _ _ _ _ us hl => match us, hl with | [_, _, _], _ => rfl
  obtain ⟨fd_Memoryread, D_Memoryread⟩ := c.def_ 45 (d := d_Memoryread) rfl
  have F_Memoryread : Fun K "read" "Memory.read" sMread _ fd_Memoryread := He5.fun_of D_Memoryread
  have b_Memoryread := F_Memoryread.binds (ps := ["self", "address", "pc"]) fun _ _ _ _ _ _ us hl => match us, hl with | [_, _, _], _ => rfl
  obtain ⟨fd_give, D_give⟩ := c.def_ 46 (d := d_give) rfl
  have F_give : Fun K "give" "give" sFgive _ fd_give := He5.fun_of D_give
  have b_give := F_give.binds (ps := ["board", "word"]) fun _ _ _ _ _ _ us hl => match us, hl with | [_, _], _ => rfl
  obtain ⟨fd_dolit, D_dolit⟩ := c.def_ 47 (d := d_dolit) rfl
  have F_dolit : Fun K "do_lit" "do_lit" sD1 _ fd_dolit := He5.fun_of D_dolit
  have b_dolit := F_dolit.binds (ps := ["board", "x", "words"]) fun _ _ _ _ _ _ us hl => match us, hl with | [_, _, _], _ => rfl
  obtain ⟨fd_doget, D_doget⟩ := c.def_ 48 (d := d_doget) rfl
  have F_doget : Fun K "do_get" "do_get" sD2 _ fd_doget := He5.fun_of D_doget
  have b_doget := F_doget.binds (ps := ["board", "x", "words"]) fun _ _ _ _ _ _ us hl => match us, hl with | [_, _, _], _ => rfl
  obtain ⟨fd_doput, D_doput⟩ := c.def_ 49 (d := d_doput) rfl
  have F_doput : Fun K "do_put" "do_put" sD3 _ fd_doput := He5.fun_of D_doput
  have b_doput := F_doput.binds (ps := ["board", "x", "words"]) fun _ _ _ _ _ _ us hl => match us, hl with | [_, _, _], _ => rfl
  obtain ⟨fd_doadd, D_doadd⟩ := c.def_ 50 (d := d_doadd) rfl
  have F_doadd : Fun K "do_add" "do_add" sD4 _ fd_doadd := He5.fun_of D_doadd
  have b_doadd := F_doadd.binds (ps := ["board", "x", "words"]) fun _ _ _ _ _ _ us hl => match us, hl with | [_, _, _], _ => rfl
  obtain ⟨fd_dosub, D_dosub⟩ := c.def_ 51 (d := d_dosub) rfl
  have F_dosub : Fun K "do_sub" "do_sub" sD5 _ fd_dosub := He5.fun_of D_dosub
  have b_dosub := F_dosub.binds (ps := ["board", "x", "words"]) fun _ _ _ _ _ _ us hl => match us, hl with | [_, _, _], _ => rfl
  obtain ⟨fd_doand, D_doand⟩ := c.def_ 52 (d := d_doand) rfl
  have F_doand : Fun K "do_and" "do_and" sD6 _ fd_doand := He5.fun_of D_doand
  have b_doand := F_doand.binds (ps := ["board", "x", "words"]) fun _ _ _ _ _ _ us hl => match us, hl with | [_, _, _], _ => rfl
  obtain ⟨fd_doxor, D_doxor⟩ := c.def_ 53 (d := d_doxor) rfl
  have F_doxor : Fun K "do_xor" "do_xor" sD7 _ fd_doxor := He5.fun_of D_doxor
  have b_doxor := F_doxor.binds (ps := ["board", "x", "words"]) fun _ _ _ _ _ _ us hl => match us, hl with | [_, _, _], _ => rfl
  obtain ⟨fd_doputb, D_doputb⟩ := c.def_ 54 (d := d_doputb) rfl
  have F_doputb : Fun K "do_putb" "do_putb" sD9 _ fd_doputb := He5.fun_of D_doputb
  have b_doputb := F_doputb.binds (ps := ["board", "x", "words"]) fun _ _ _ _ _ _ us hl => match us, hl with | [_, _, _], _ => rfl
  obtain ⟨fd_dotob, D_dotob⟩ := c.def_ 55 (d := d_dotob) rfl
  have F_dotob : Fun K "do_tob" "do_tob" sD10 _ fd_dotob := He5.fun_of D_dotob
  have b_dotob := F_dotob.binds (ps := ["board", "x", "words"]) fun _ _ _ _ _ _ us hl => match us, hl with | [_, _, _], _ => rfl
  obtain ⟨fd_doswap, D_doswap⟩ := c.def_ 56 (d := d_doswap) rfl
  have F_doswap : Fun K "do_swap" "do_swap" sD11 _ fd_doswap := He5.fun_of D_doswap
  have b_doswap := F_doswap.binds (ps := ["board", "x", "words"]) fun _ _ _ _ _ _ us hl => match us, hl with | [_, _, _], _ => rfl
  obtain ⟨fd_dogo, D_dogo⟩ := c.def_ 57 (d := d_dogo) rfl
  have F_dogo : Fun K "do_go" "do_go" sD12 _ fd_dogo := He5.fun_of D_dogo
  have b_dogo := F_dogo.binds (ps := ["board", "x", "words"]) fun _ _ _ _ _ _ us hl => match us, hl with | [_, _, _], _ => rfl
  obtain ⟨fd_doifz, D_doifz⟩ := c.def_ 58 (d := d_doifz) rfl
  have F_doifz : Fun K "do_ifz" "do_ifz" sD13 _ fd_doifz := He5.fun_of D_doifz
  have b_doifz := F_doifz.binds (ps := ["board", "x", "words"]) fun _ _ _ _ _ _ us hl => match us, hl with | [_, _, _], _ => rfl
  obtain ⟨fd_doifn, D_doifn⟩ := c.def_ 59 (d := d_doifn) rfl
  have F_doifn : Fun K "do_ifn" "do_ifn" sD14 _ fd_doifn := He5.fun_of D_doifn
  have b_doifn := F_doifn.binds (ps := ["board", "x", "words"]) fun _ _ _ _ _ _ us hl => match us, hl with | [_, _, _], _ => rfl
  obtain ⟨fd_docall, D_docall⟩ := c.def_ 60 (d := d_docall) rfl
  have F_docall : Fun K "do_call" "do_call" sD15 _ fd_docall := He5.fun_of D_docall
  have b_docall := F_docall.binds (ps := ["board", "x", "words"]) fun _ _ _ _ _ _ us hl => match us, hl with | [_, _, _], _ => rfl
  obtain ⟨fd_doret, D_doret⟩ := c.def_ 61 (d := d_doret) rfl
  have F_doret : Fun K "do_ret" "do_ret" sD16 _ fd_doret := He5.fun_of D_doret
  have b_doret := F_doret.binds (ps := ["board", "x", "words"]) fun _ _ _ _ _ _ us hl => match us, hl with | [_, _, _], _ => rfl
  obtain ⟨fd_dopush, D_dopush⟩ := c.def_ 62 (d := d_dopush) rfl
  have F_dopush : Fun K "do_push" "do_push" sD17 _ fd_dopush := He5.fun_of D_dopush
  have b_dopush := F_dopush.binds (ps := ["board", "x", "words"]) fun _ _ _ _ _ _ us hl => match us, hl with | [_, _, _], _ => rfl
  obtain ⟨fd_dopop, D_dopop⟩ := c.def_ 63 (d := d_dopop) rfl
  have F_dopop : Fun K "do_pop" "do_pop" sD18 _ fd_dopop := He5.fun_of D_dopop
  have b_dopop := F_dopop.binds (ps := ["board", "x", "words"]) fun _ _ _ _ _ _ us hl => match us, hl with | [_, _, _], _ => rfl
  obtain ⟨fd_dosleep, D_dosleep⟩ := c.def_ 64 (d := d_dosleep) rfl
  have F_dosleep : Fun K "do_sleep" "do_sleep" sD19 _ fd_dosleep := He5.fun_of D_dosleep
  have b_dosleep := F_dosleep.binds (ps := ["board", "x", "words"]) fun _ _ _ _ _ _ us hl => match us, hl with | [_, _, _], _ => rfl
  obtain ⟨fd_dolet, D_dolet⟩ := c.def_ 65 (d := d_dolet) rfl
  have F_dolet : Fun K "do_let" "do_let" sD20 _ fd_dolet := He5.fun_of D_dolet
  have b_dolet := F_dolet.binds (ps := ["board", "x", "words"]) fun _ _ _ _ _ _ us hl => match us, hl with | [_, _, _], _ => rfl
  obtain ⟨fd_doback, D_doback⟩ := c.def_ 66 (d := d_doback) rfl
  have F_doback : Fun K "do_back" "do_back" sD21 _ fd_doback := He5.fun_of D_doback
  have b_doback := F_doback.binds (ps := ["board", "x", "words"]) fun _ _ _ _ _ _ us hl => match us, hl with | [_, _, _], _ => rfl
  obtain ⟨fd_dohalf, D_dohalf⟩ := c.def_ 67 (d := d_dohalf) rfl
  have F_dohalf : Fun K "do_half" "do_half" sD22 _ fd_dohalf := He5.fun_of D_dohalf
  have b_dohalf := F_dohalf.binds (ps := ["board", "x", "words"]) fun _ _ _ _ _ _ us hl => match us, hl with | [_, _, _], _ => rfl
  obtain ⟨fd_Boarddodeed, D_Boarddodeed⟩ := c.def_ 68 (d := d_Boarddodeed) rfl
  have F_Boarddodeed : Fun K "do_deed" "Board.do_deed" sMdo _ fd_Boarddodeed := He5.fun_of D_Boarddodeed
  have b_Boarddodeed := F_Boarddodeed.binds (ps := ["self"]) fun _ _ _ _ _ _ us hl => match us, hl with | [_], _ => rfl
  obtain ⟨fd_Boardturn, D_Boardturn⟩ := c.def_ 69 (d := d_Boardturn) rfl
  have F_Boardturn : Fun K "turn" "Board.turn" sMturn _ fd_Boardturn := He5.fun_of D_Boardturn
  have b_Boardturn := F_Boardturn.binds (ps := ["self"]) fun _ _ _ _ _ _ us hl => match us, hl with | [_], _ => rfl
  obtain ⟨fd_Probenoteturn, D_Probenoteturn⟩ := c.def_ 70 (d := d_Probenoteturn) rfl
  have F_Probenoteturn : Fun K "note_turn" "Probe.note_turn" sMnt _ fd_Probenoteturn := He5.fun_of D_Probenoteturn
  have b_Probenoteturn := F_Probenoteturn.binds (ps := ["self"]) fun _ _ _ _ _ _ us hl => match us, hl with | [_], _ => rfl
  obtain ⟨fd_Mishapsdue, D_Mishapsdue⟩ := c.def_ 71 (d := d_Mishapsdue) rfl
  have F_Mishapsdue : Fun K "due" "Mishaps.due" sMdue _ fd_Mishapsdue := He5.fun_of D_Mishapsdue
  have b_Mishapsdue := F_Mishapsdue.binds (ps := ["self", "beat"]) fun _ _ _ _ _ _ us hl => match us, hl with | [_, _], _ => rfl
  obtain ⟨fd_Boardlosepower, D_Boardlosepower⟩ := c.def_ 72 (d := d_Boardlosepower) rfl
  have F_Boardlosepower : Fun K "lose_power" "Board.lose_power" sMlose _ fd_Boardlosepower := He5.fun_of D_Boardlosepower
  have b_Boardlosepower := F_Boardlosepower.binds (ps := ["self"]) fun _ _ _ _ _ _ us hl => match us, hl with | [_], _ => rfl
  obtain ⟨fd_Memoryturnbit, D_Memoryturnbit⟩ := c.def_ 73 (d := d_Memoryturnbit) rfl
  have F_Memoryturnbit : Fun K "turn_bit" "Memory.turn_bit" sMtbit _ fd_Memoryturnbit := He5.fun_of D_Memoryturnbit
  have b_Memoryturnbit := F_Memoryturnbit.binds (ps := ["self", "address", "bit"]) fun _ _ _ _ _ _ us hl => match us, hl with | [_, _, _], _ => rfl
  obtain ⟨fd_Probetakefaults, D_Probetakefaults⟩ := c.def_ 74 (d := d_Probetakefaults) rfl
  have F_Probetakefaults : Fun K "take_faults" "Probe.take_faults" sMtf _ fd_Probetakefaults := He5.fun_of D_Probetakefaults
  have b_Probetakefaults := F_Probetakefaults.binds (ps := ["self"]) fun _ _ _ _ _ _ us hl => match us, hl with | [_], _ => rfl
  obtain ⟨fd_Probefollowturn, D_Probefollowturn⟩ := c.def_ 75 (d := d_Probefollowturn) rfl
  have F_Probefollowturn : Fun K "follow_turn" "Probe.follow_turn" sMft _ fd_Probefollowturn := He5.fun_of D_Probefollowturn
  have b_Probefollowturn := F_Probefollowturn.binds (ps := ["self"]) fun _ _ _ _ _ _ us hl => match us, hl with | [_], _ => rfl
  obtain ⟨fd_Watchesmet, D_Watchesmet⟩ := c.def_ 76 (d := d_Watchesmet) rfl
  have F_Watchesmet : Fun K "met" "Watches.met" sMmet _ fd_Watchesmet := He5.fun_of D_Watchesmet
  have b_Watchesmet := F_Watchesmet.binds (ps := ["self", "touches"]) fun _ _ _ _ _ _ us hl => match us, hl with | [_, _], _ => rfl
  obtain ⟨fd_Probepassturn, D_Probepassturn⟩ := c.def_ 77 (d := d_Probepassturn) rfl
  have F_Probepassturn : Fun K "pass_turn" "Probe.pass_turn" sMpt _ fd_Probepassturn := He5.fun_of D_Probepassturn
  have b_Probepassturn := F_Probepassturn.binds (ps := ["self", "end"]) fun _ _ _ _ _ _ us hl => match us, hl with | [_, _], _ => rfl
  obtain ⟨fd_Probeletgo, D_Probeletgo⟩ := c.def_ 78 (d := d_Probeletgo) rfl
  have F_Probeletgo : Fun K "let_go" "Probe.let_go" sMlg _ fd_Probeletgo := He5.fun_of D_Probeletgo
  have b_Probeletgo := F_Probeletgo.binds (ps := ["self", "most", "peeks", "words", "end"]) fun _ _ _ _ _ _ us hl => match us, hl with | [_, _, _, _, _], _ => rfl
  obtain ⟨fd_stepover, D_stepover⟩ := c.def_ 79 (d := d_stepover) rfl
  have F_stepover : Fun K "step_over" "step_over" sFsov _ fd_stepover := He5.fun_of D_stepover
  have b_stepover := F_stepover.binds (ps := ["probe", "most"]) fun _ _ _ _ _ _ us hl => match us, hl with | [_, _], _ => rfl
  obtain ⟨fd_lawcellat, D_lawcellat⟩ := c.def_ 80 (d := d_lawcellat) rfl
  have F_lawcellat : Fun K "_law_cell_at" "_law_cell_at" sLcell _ fd_lawcellat := He5.fun_of D_lawcellat
  have b_lawcellat := F_lawcellat.binds (ps := ["_law_script", "_law_k"]) fun _ _ _ _ _ _ us hl => match us, hl with | [_, _], _ => rfl
  obtain ⟨fd_lawdraw, D_lawdraw⟩ := c.def_ 81 (d := d_lawdraw) rfl
  have F_lawdraw : Fun K "_law_draw" "_law_draw" sLdraw _ fd_lawdraw := He5.fun_of D_lawdraw
  have b_lawdraw := F_lawdraw.binds (ps := ["_law_well_here", "_law_many"]) fun _ _ _ _ _ _ us hl => match us, hl with | [_, _], _ => rfl
  obtain ⟨fd_lawone, D_lawone⟩ := c.def_ 82 (d := d_lawone) rfl
  have F_lawone : Fun K "_law_one" "_law_one" sLone _ fd_lawone := He5.fun_of D_lawone
  have b_lawone := F_lawone.binds (ps := ["_law_well_here", "_law_some"]) fun _ _ _ _ _ _ us hl => match us, hl with | [_, _], _ => rfl
  obtain ⟨fd_lawdeeds, D_lawdeeds⟩ := c.def_ 83 (d := d_lawdeeds) rfl
  have F_lawdeeds : Fun K "_law_deeds" "_law_deeds" sLdeeds _ fd_lawdeeds := He5.fun_of D_lawdeeds
  have b_lawdeeds := F_lawdeeds.binds (ps := ["_law_well_here", "_law_starts", "_law_k", "_law_many"]) fun _ _ _ _ _ _ us hl => match us, hl with | [_, _, _, _], _ => rfl
  obtain ⟨fd_lawfilled, D_lawfilled⟩ := c.def_ 84 (d := d_lawfilled) rfl
  have F_lawfilled : Fun K "_law_filled" "_law_filled" sLfil _ fd_lawfilled := He5.fun_of D_lawfilled
  have b_lawfilled := F_lawfilled.binds (ps := ["_law_row", "_law_many"]) fun _ _ _ _ _ _ us hl => match us, hl with | [_, _], _ => rfl
  obtain ⟨fd_lawimage, D_lawimage⟩ := c.def_ 85 (d := d_lawimage) rfl
  have F_lawimage : Fun K "_law_image" "_law_image" sLimg _ fd_lawimage := He5.fun_of D_lawimage
  have b_lawimage := F_lawimage.binds (ps := ["_law_well_here"]) fun _ _ _ _ _ _ us hl => match us, hl with | [_], _ => rfl
  obtain ⟨fd_lawline, D_lawline⟩ := c.def_ 86 (d := d_lawline) rfl
  have F_lawline : Fun K "_law_line" "_law_line" sLlin _ fd_lawline := He5.fun_of D_lawline
  have b_lawline := F_lawline.binds (ps := ["_law_well_here"]) fun _ _ _ _ _ _ us hl => match us, hl with | [_], _ => rfl
  obtain ⟨fd_lawnew, D_lawnew⟩ := c.def_ 87 (d := d_lawnew) rfl
  have F_lawnew : Fun K "_law_new" "_law_new" sLnew _ fd_lawnew := He5.fun_of D_lawnew
  have b_lawnew := F_lawnew.binds (ps := ["_law_image_here", "_law_line_here"]) fun _ _ _ _ _ _ us hl => match us, hl with | [_, _], _ => rfl
  obtain ⟨fd_lawmet, D_lawmet⟩ := c.def_ 88 (d := d_lawmet) rfl
  have F_lawmet : Fun K "_law_met" "_law_met" sLmet _ fd_lawmet := He5.fun_of D_lawmet
  have b_lawmet := F_lawmet.binds (ps := ["_law_s", "_law_windows"]) fun _ _ _ _ _ _ us hl => match us, hl with | [_, _], _ => rfl
  obtain ⟨fd_lawmarked, D_lawmarked⟩ := c.def_ 89 (d := d_lawmarked) rfl
  have F_lawmarked : Fun K "_law_marked" "_law_marked" sLmkd _ fd_lawmarked := He5.fun_of D_lawmarked
  have b_lawmarked := F_lawmarked.binds (ps := ["_law_s", "_law_marks"]) fun _ _ _ _ _ _ us hl => match us, hl with | [_, _], _ => rfl
  obtain ⟨fd_lawclosed, D_lawclosed⟩ := c.def_ 90 (d := d_lawclosed) rfl
  have F_lawclosed : Fun K "_law_closed" "_law_closed" sLclo _ fd_lawclosed := He5.fun_of D_lawclosed
  have b_lawclosed := F_lawclosed.binds (ps := ["_law_s", "_law_kind"]) fun _ _ _ _ _ _ us hl => match us, hl with | [_, _], _ => rfl
  obtain ⟨fd_lawinner, D_lawinner⟩ := c.def_ 91 (d := d_lawinner) rfl
  have F_lawinner : Fun K "_law_inner" "_law_inner" sLinn _ fd_lawinner := He5.fun_of D_lawinner
  have b_lawinner := F_lawinner.binds (ps := ["_law_s"]) fun _ _ _ _ _ _ us hl => match us, hl with | [_], _ => rfl
  obtain ⟨fd_lawbar, D_lawbar⟩ := c.def_ 92 (d := d_lawbar) rfl
  have F_lawbar : Fun K "_law_bar" "_law_bar" sLbar _ fd_lawbar := He5.fun_of D_lawbar
  have b_lawbar := F_lawbar.binds (ps := ["_law_address", "_law_puts"]) fun _ _ _ _ _ _ us hl => match us, hl with | [_, _], _ => rfl
  obtain ⟨fd_lawlay, D_lawlay⟩ := c.def_ 93 (d := d_lawlay) rfl
  have F_lawlay : Fun K "_law_lay" "_law_lay" sLlay _ fd_lawlay := He5.fun_of D_lawlay
  have b_lawlay := F_lawlay.binds (ps := ["_law_s", "_law_address", "_law_word"]) fun _ _ _ _ _ _ us hl => match us, hl with | [_, _, _], _ => rfl
  obtain ⟨fd_lawdo, D_lawdo⟩ := c.def_ 94 (d := d_lawdo) rfl
  have F_lawdo : Fun K "_law_do" "_law_do" sLdo _ fd_lawdo := He5.fun_of D_lawdo
  have b_lawdo := F_lawdo.binds (ps := ["_law_s", "_law_op", "_law_x", "_law_spots"]) fun _ _ _ _ _ _ us hl => match us, hl with | [_, _, _, _], _ => rfl
  obtain ⟨fd_lawhalt, D_lawhalt⟩ := c.def_ 95 (d := d_lawhalt) rfl
  have F_lawhalt : Fun K "_law_halt" "_law_halt" sLhalt _ fd_lawhalt := He5.fun_of D_lawhalt
  have b_lawhalt := F_lawhalt.binds (ps := ["_law_s", "_law_cause"]) fun _ _ _ _ _ _ us hl => match us, hl with | [_, _], _ => rfl
  obtain ⟨fd_lawpass, D_lawpass⟩ := c.def_ 96 (d := d_lawpass) rfl
  have F_lawpass : Fun K "_law_pass" "_law_pass" sLpass _ fd_lawpass := He5.fun_of D_lawpass
  have b_lawpass := F_lawpass.binds (ps := ["_law_s", "_law_many"]) fun _ _ _ _ _ _ us hl => match us, hl with | [_, _], _ => rfl
  obtain ⟨fd_lawtouches, D_lawtouches⟩ := c.def_ 97 (d := d_lawtouches) rfl
  have F_lawtouches : Fun K "_law_touches" "_law_touches" sLtou _ fd_lawtouches := He5.fun_of D_lawtouches
  have b_lawtouches := F_lawtouches.binds (ps := ["_law_s", "_law_op", "_law_x"]) fun _ _ _ _ _ _ us hl => match us, hl with | [_, _, _], _ => rfl
  obtain ⟨fd_lawdeed, D_lawdeed⟩ := c.def_ 98 (d := d_lawdeed) rfl
  have F_lawdeed : Fun K "_law_deed" "_law_deed" sLdeed _ fd_lawdeed := He5.fun_of D_lawdeed
  have b_lawdeed := F_lawdeed.binds (ps := ["_law_s"]) fun _ _ _ _ _ _ us hl => match us, hl with | [_], _ => rfl
  obtain ⟨fd_lawturn, D_lawturn⟩ := c.def_ 99 (d := d_lawturn) rfl
  have F_lawturn : Fun K "_law_turn" "_law_turn" sLturn _ fd_lawturn := He5.fun_of D_lawturn
  have b_lawturn := F_lawturn.binds (ps := ["_law_s"]) fun _ _ _ _ _ _ us hl => match us, hl with | [_], _ => rfl
  obtain ⟨fd_lawseen, D_lawseen⟩ := c.def_ 100 (d := d_lawseen) rfl
  have F_lawseen : Fun K "_law_seen" "_law_seen" sLseen _ fd_lawseen := He5.fun_of D_lawseen
  have b_lawseen := F_lawseen.binds (ps := ["_law_s"]) fun _ _ _ _ _ _ us hl => match us, hl with | [_], _ => rfl
  obtain ⟨fd_lawrun, D_lawrun⟩ := c.def_ 101 (d := d_lawrun) rfl
  have F_lawrun : Fun K "_law_run" "_law_run" sLrun _ fd_lawrun := He5.fun_of D_lawrun
  have b_lawrun := F_lawrun.binds (ps := ["_law_s", "_law_many", "_law_word", "_law_marks", "_law_windows"]) fun _ _ _ _ _ _ us hl => match us, hl with | [_, _, _, _, _], _ => rfl
  obtain ⟨fd_framesof, D_framesof⟩ := c.def_ 102 (d := d_framesof) rfl
  have F_framesof : Fun K "frames_of" "frames_of" sFfrs _ fd_framesof := He5.fun_of D_framesof
  have b_framesof := F_framesof.binds (ps := ["probe"]) fun _ _ _ _ _ _ us hl => match us, hl with | [_], _ => rfl
  obtain ⟨fd_straysof, D_straysof⟩ := c.def_ 103 (d := d_straysof) rfl
  have F_straysof : Fun K "strays_of" "strays_of" sFstr _ fd_straysof := He5.fun_of D_straysof
  have b_straysof := F_straysof.binds (ps := ["probe"]) fun _ _ _ _ _ _ us hl => match us, hl with | [_], _ => rfl
  obtain ⟨fd_Proberegisterof, D_Proberegisterof⟩ := c.def_ 104 (d := d_Proberegisterof) rfl
  have F_Proberegisterof : Fun K "register_of" "Probe.register_of" sMreg _ fd_Proberegisterof := He5.fun_of D_Proberegisterof
  have b_Proberegisterof := F_Proberegisterof.binds (ps := ["self", "name"]) fun _ _ _ _ _ _ us hl => match us, hl with | [_, _], _ => rfl
  obtain ⟨fd_Probestoptold, D_Probestoptold⟩ := c.def_ 105 (d := d_Probestoptold) rfl
  have F_Probestoptold : Fun K "stop_told" "Probe.stop_told" sMstp _ fd_Probestoptold := He5.fun_of D_Probestoptold
  have b_Probestoptold := F_Probestoptold.binds (ps := ["self"]) fun _ _ _ _ _ _ us hl => match us, hl with | [_], _ => rfl
  obtain ⟨fd_Probeturns, D_Probeturns⟩ := c.def_ 106 (d := d_Probeturns) rfl
  have F_Probeturns : Fun K "turns" "Probe.turns" sMtns _ fd_Probeturns := He5.fun_of D_Probeturns
  have b_Probeturns := F_Probeturns.binds (ps := ["self"]) fun _ _ _ _ _ _ us hl => match us, hl with | [_], _ => rfl
  obtain ⟨fd_lawsame, D_lawsame⟩ := c.def_ 107 (d := d_lawsame) rfl
  have F_lawsame : Fun K "_law_same" "_law_same" sLsame _ fd_lawsame := He5.fun_of D_lawsame
  have b_lawsame := F_lawsame.binds (ps := ["_law_held", "_law_s"]) fun _ _ _ _ _ _ us hl => match us, hl with | [_, _], _ => rfl
  obtain ⟨fd_lawwell, D_lawwell⟩ := c.def_ 108 (d := d_lawwell) rfl
  have F_lawwell : Fun K "_law_well" "_law_well" sLwell _ fd_lawwell := He5.fun_of D_lawwell
  have b_lawwell := F_lawwell.binds (ps := ["_law_cell"]) fun _ _ _ _ _ _ us hl => match us, hl with | [_], _ => rfl
  obtain ⟨fd_peeksbyturn, D_peeksbyturn⟩ := c.def_ 109 (d := d_peeksbyturn) rfl
  have F_peeksbyturn : Fun K "peeks_by_turn" "peeks_by_turn" sFpbt _ fd_peeksbyturn := He5.fun_of D_peeksbyturn
  have b_peeksbyturn := F_peeksbyturn.binds (ps := ["peeks"]) fun _ _ _ _ _ _ us hl => match us, hl with | [_], _ => rfl
  obtain ⟨fd_Probego, D_Probego⟩ := c.def_ 110 (d := d_Probego) rfl
  have F_Probego : FunD K "go" "Probe.go" (defArgs sMgo) (defBody sMgo) (defScope sMgo) [.non] [] _ fd_Probego := D_Probego
  have b_Probego : Binds K fd_Probego ["self", "most", "peeks"] [.none] := by
    obtain ⟨ds, rv, hb⟩ := F_Probego.binds1 (ps := ["self", "most", "peeks"]) 2 0 (by intro h; cases h) rfl (fun T kV doc pm an cdv ct us its hu hi => match us, its, hu, hi with | [_, _], [_], _, _ => ⟨_, rfl, rfl⟩)
    obtain ⟨u, rfl, ru⟩ := L2.Vals.one rv
    have ru : u = Value.none := ru
    subst ru
    exact hb
  obtain ⟨fd_Memorywordat, D_Memorywordat⟩ := c.def_ 111 (d := d_Memorywordat) rfl
  have F_Memorywordat : Fun K "word_at" "Memory.word_at" sMat _ fd_Memorywordat := He5.fun_of D_Memorywordat
  have b_Memorywordat := F_Memorywordat.binds (ps := ["self", "address"]) fun _ _ _ _ _ _ us hl => match us, hl with | [_, _], _ => rfl
  obtain ⟨fd_Probelook, D_Probelook⟩ := c.def_ 112 (d := d_Probelook) rfl
  have F_Probelook : Fun K "look" "Probe.look" sMlookg _ fd_Probelook := He5.fun_of D_Probelook
  have b_Probelook := F_Probelook.binds (ps := ["self", "address", "many"]) fun _ _ _ _ _ _ us hl => match us, hl with | [_, _, _], _ => rfl
  obtain ⟨fd_law, D_law⟩ := c.def_ 113 (d := d_law) rfl
  have F_law : Fun K "law" "law" sLaw _ fd_law := He5.fun_of D_law
  refine ⟨fd_law, fun s v => (FunD.bindsA (ps := ["_law_script"]) D_law fun _ _ _ _ _ _ us hl => match us, hl with | [_], _ => rfl) s [v] rfl, fun base _ _ => ?_⟩
  have X_C_mem : CalC l.prog w K mg base (He.ga K "Memory") 1 "Memory" ["self", "image"] (spMI (He.ga K "Memory")) _ _ := ⟨He.mkr_ok (c.fact 92 (f := .mkr "Memory") rfl), (He.glo_ok X G (c.fact 93 (f := .glo "Memory") rfl)), b_Memoryinit, ok_Cmem F_Memoryinit Tb⟩
  have X_F_first : CalF l.prog w K mg base 1 "first_registers" [] (spFirst) _ _ := ⟨(He.glo_ok X G (c.fact 94 (f := .glo "first_registers") rfl)), F_firstregisters.kp, b_firstregisters, ok_Ffirst F_firstregisters Tb⟩
  have X_F_whole : CalF l.prog w K mg base 1 "is_whole" ["thing"] (spWhole) _ _ := ⟨(He.glo_ok X G (c.fact 95 (f := .glo "is_whole") rfl)), F_iswhole.kp, b_iswhole, ok_Fwhole F_iswhole Tb⟩
  have X_F_betw : CalF l.prog w K mg base 2 "is_between" ["thing", "least", "greatest"] (spBetw) _ _ := ⟨(He.glo_ok X G (c.fact 96 (f := .glo "is_between") rfl)), F_isbetween.kp, b_isbetween, ok_Fbetw F_isbetween Tb X_F_whole⟩
  have X_F_word : CalF l.prog w K mg base 3 "is_word" ["thing"] (spWord) _ _ := ⟨(He.glo_ok X G (c.fact 97 (f := .glo "is_word") rfl)), F_isword.kp, b_isword, ok_Fword F_isword Tb X_F_betw⟩
  have X_F_image : CalF l.prog w K mg base 4 "is_image" ["thing"] (spImg) _ _ := ⟨(He.glo_ok X G (c.fact 98 (f := .glo "is_image") rfl)), F_isimage.kp, b_isimage, ok_Fimage F_isimage Tb X_F_word⟩
  have X_F_lrow : CalF l.prog w K mg base 3 "is_line_row" ["row", "last"] (spLRow) _ _ := ⟨(He.glo_ok X G (c.fact 99 (f := .glo "is_line_row") rfl)), F_islinerow.kp, b_islinerow, ok_Flrow F_islinerow Tb X_F_betw X_F_whole⟩
  have X_F_line : CalF l.prog w K mg base 4 "is_line" ["thing"] (spLine) _ _ := ⟨(He.glo_ok X G (c.fact 100 (f := .glo "is_line") rfl)), F_isline.kp, b_isline, ok_Fline F_isline Tb X_F_lrow⟩
  have X_C_board : CalC l.prog w K mg base (He.ga K "Board") 6 "Board" ["self", "image", "line"] (spBI (He.ga K "Board") (He.ga K "Memory")) _ _ := ⟨He.mkr_ok (c.fact 101 (f := .mkr "Board") rfl), (He.glo_ok X G (c.fact 102 (f := .glo "Board") rfl)), b_Boardinit, ok_Cboard F_Boardinit Tb X_C_mem X_F_first X_F_image X_F_line⟩
  have X_C_cou : CalC l.prog w K mg base (He.ga K "Counts") 1 "Counts" ["self"] (spMkC (He.ga K "Counts")) _ _ := ⟨He.mkr_ok (c.fact 103 (f := .mkr "Counts") rfl), (He.glo_ok X G (c.fact 104 (f := .glo "Counts") rfl)), b_Countsinit, ok_Ccou F_Countsinit T⟩
  have X_C_fra : CalC l.prog w K mg base (He.ga K "Frames") 1 "Frames" ["self"] (spMkF (He.ga K "Frames")) _ _ := ⟨He.mkr_ok (c.fact 105 (f := .mkr "Frames") rfl), (He.glo_ok X G (c.fact 106 (f := .glo "Frames") rfl)), b_Framesinit, ok_Cfra F_Framesinit T⟩
  have X_C_his : CalC l.prog w K mg base (He.ga K "History") 1 "History" ["self"] (spMkH (He.ga K "History")) _ _ := ⟨He.mkr_ok (c.fact 107 (f := .mkr "History") rfl), (He.glo_ok X G (c.fact 108 (f := .glo "History") rfl)), b_Historyinit, ok_Chis F_Historyinit T⟩
  have X_C_mar : CalC l.prog w K mg base (He.ga K "Marks") 1 "Marks" ["self", "memory"] (spMkK (He.ga K "Marks")) _ _ := ⟨He.mkr_ok (c.fact 109 (f := .mkr "Marks") rfl), (He.glo_ok X G (c.fact 110 (f := .glo "Marks") rfl)), b_Marksinit, ok_Cmar F_Marksinit T⟩
  have X_C_mis : CalC l.prog w K mg base (He.ga K "Mishaps") 1 "Mishaps" ["self"] (spMkI (He.ga K "Mishaps")) _ _ := ⟨He.mkr_ok (c.fact 111 (f := .mkr "Mishaps") rfl), (He.glo_ok X G (c.fact 112 (f := .glo "Mishaps") rfl)), b_Mishapsinit, ok_Cmis F_Mishapsinit T⟩
  have X_C_sta : CalC l.prog w K mg base (He.ga K "Stands") 1 "Stands" ["self"] (spMade (He.ga K "Stands")) _ _ := ⟨He.mkr_ok (c.fact 113 (f := .mkr "Stands") rfl), (He.glo_ok X G (c.fact 114 (f := .glo "Stands") rfl)), b_Standsinit, ok_Csta F_Standsinit T⟩
  have X_C_wat : CalC l.prog w K mg base (He.ga K "Watches") 1 "Watches" ["self"] (spMkW (He.ga K "Watches")) _ _ := ⟨He.mkr_ok (c.fact 115 (f := .mkr "Watches") rfl), (He.glo_ok X G (c.fact 116 (f := .glo "Watches") rfl)), b_Watchesinit, ok_Cwat F_Watchesinit T⟩
  have X_C_prb : CalC l.prog w K mg base (He.ga K "Probe") 8 "Probe" ["self", "image", "line"] (spPrI (He.ga K "Board") (He.ga K "Memory") (He.ga K "Probe") (He.ga K "Marks") (He.ga K "Watches") (He.ga K "Frames") (He.ga K "History") (He.ga K "Counts") (He.ga K "Mishaps")) _ _ := ⟨He.mkr_ok (c.fact 117 (f := .mkr "Probe") rfl), (He.glo_ok X G (c.fact 118 (f := .glo "Probe") rfl)), b_Probeinit, ok_Cprb F_Probeinit T X_C_board X_C_cou X_C_fra X_C_his X_C_mar X_C_mis X_C_sta X_C_wat⟩
  have X_C_ove : CalC l.prog w K mg base (He.ga K "OverEnd") 1 "OverEnd" ["self", "depth"] (spOvI (He.ga K "OverEnd")) _ _ := ⟨He.mkr_ok (c.fact 119 (f := .mkr "OverEnd") rfl), (He.glo_ok X G (c.fact 120 (f := .glo "OverEnd") rfl)), b_OverEndinit, ok_Cove F_OverEndinit T TO⟩
  have X_M_called : CalM l.prog w K mg base (He.ga K "Memory") 1 "called_flags" ["self"] (spMCall (He.ga K "Memory")) _ _ := ⟨(He.cls_ok (c.fact 33 (f := .cls "Memory") rfl)), He.meth_ok (c.fact 121 (f := .meth "Memory" "called_flags") rfl), b_Memorycalledflags, ok_Mcalled F_Memorycalledflags Tb⟩
  have X_M_coming : CalM l.prog w K mg base (He.ga K "Board") 2 "coming" ["self"] (spComing (He.ga K "Board") (He.ga K "Memory")) _ _ := ⟨(He.cls_ok (c.fact 32 (f := .cls "Board") rfl)), He.meth_ok (c.fact 122 (f := .meth "Board" "coming") rfl), b_Boardcoming, ok_Mcoming F_Boardcoming Tb X_M_called⟩
  have X_M_sta : CalM l.prog w K mg base (He.ga K "Marks") 1 "stands_at" ["self", "address"] (spSta (He.ga K "Marks") (He.ga K "Memory")) _ _ := ⟨(He.cls_ok (c.fact 65 (f := .cls "Marks") rfl)), He.meth_ok (c.fact 123 (f := .meth "Marks" "stands_at") rfl), b_Marksstandsat, ok_Msta F_Marksstandsat T⟩
  have X_M_mm : CalM l.prog w K mg base (He.ga K "Probe") 3 "meets_mark" ["self"] (spMm (He.ga K "Board") (He.ga K "Memory") (He.ga K "Probe") (He.ga K "Marks") (He.ga K "Watches") (He.ga K "Frames") (He.ga K "History") (He.ga K "Counts") (He.ga K "Mishaps")) _ _ := ⟨(He.cls_ok (c.fact 54 (f := .cls "Probe") rfl)), He.meth_ok (c.fact 124 (f := .meth "Probe" "meets_mark") rfl), b_Probemeetsmark, ok_Mmm F_Probemeetsmark T X_M_coming X_M_sta⟩
  have X_M_ngv : CalM l.prog w K mg base (He.ga K "Probe") 1 "note_gone" ["self", "addresses", "whole"] (spNo) _ _ := ⟨(He.cls_ok (c.fact 54 (f := .cls "Probe") rfl)), He.meth_ok (c.fact 125 (f := .meth "Probe" "note_gone") rfl), b_Probenotegone, ok_Mngv F_Probenotegone T⟩
  have X_M_ng : CalM l.prog w K mg base (He.ga K "Probe") 2 "note_gone" ["self", "addresses", "whole"] (spNG (He.ga K "Board") (He.ga K "Memory") (He.ga K "Probe") (He.ga K "Marks") (He.ga K "Watches") (He.ga K "Frames") (He.ga K "History") (He.ga K "Counts") (He.ga K "Mishaps")) _ _ := ⟨(He.cls_ok (c.fact 54 (f := .cls "Probe") rfl)), He.meth_ok (c.fact 125 (f := .meth "Probe" "note_gone") rfl), b_Probenotegone, ok_Mng F_Probenotegone T X_M_ngv⟩
  have X_M_peek : CalM l.prog w K mg base (He.ga K "Probe") 1 "peek" ["self", "address"] (spNo) _ _ := ⟨(He.cls_ok (c.fact 54 (f := .cls "Probe") rfl)), He.meth_ok (c.fact 126 (f := .meth "Probe" "peek") rfl), b_Probepeek, ok_Mpeek F_Probepeek T⟩
  have X_M_comO : CalM l.prog w K mg base (He.ga K "OverEnd") 1 "comes" ["self", "sort", "ahead", "now"] (spComO (He.ga K "OverEnd")) _ _ := ⟨(He.cls_ok (c.fact 87 (f := .cls "OverEnd") rfl)), He.meth_ok (c.fact 127 (f := .meth "OverEnd" "comes") rfl), b_OverEndcomes, ok_McomO F_OverEndcomes T TO⟩
  have X_M_bnd : CalM l.prog w K mg base (He.ga K "Mishaps") 1 "bending" ["self", "beat"] (spBnd (He.ga K "Mishaps")) _ _ := ⟨(He.cls_ok (c.fact 82 (f := .cls "Mishaps") rfl)), He.meth_ok (c.fact 128 (f := .meth "Mishaps" "bending") rfl), b_Mishapsbending, ok_Mbnd F_Mishapsbending T⟩
  have X_M_cme : CalM l.prog w K mg base (He.ga K "Mishaps") 1 "come" ["self", "fault", "beat"] (spNo) _ _ := ⟨(He.cls_ok (c.fact 82 (f := .cls "Mishaps") rfl)), He.meth_ok (c.fact 129 (f := .meth "Mishaps" "come") rfl), b_Mishapscome, ok_Mcme F_Mishapscome T⟩
  have X_M_gbf : CalM l.prog w K mg base (He.ga K "Frames") 1 "go_back_from" ["self", "kind"] (spGbf (He.ga K "Frames")) _ _ := ⟨(He.cls_ok (c.fact 71 (f := .cls "Frames") rfl)), He.meth_ok (c.fact 130 (f := .meth "Frames" "go_back_from") rfl), b_Framesgobackfrom, ok_Mgbf F_Framesgobackfrom T⟩
  have X_M_fol : CalM l.prog w K mg base (He.ga K "Frames") 2 "follow" ["self", "sort", "did", "at", "to"] (spFol (He.ga K "Frames")) _ _ := ⟨(He.cls_ok (c.fact 71 (f := .cls "Frames") rfl)), He.meth_ok (c.fact 131 (f := .meth "Frames" "follow") rfl), b_Framesfollow, ok_Mfol F_Framesfollow T X_M_gbf⟩
  have X_M_hno : CalM l.prog w K mg base (He.ga K "History") 1 "note" ["self", "beat", "sort", "pc"] (spHno (He.ga K "History")) _ _ := ⟨(He.cls_ok (c.fact 74 (f := .cls "History") rfl)), He.meth_ok (c.fact 132 (f := .meth "History" "note") rfl), b_Historynote, ok_Mhno F_Historynote T⟩
  have X_M_inn : CalM l.prog w K mg base (He.ga K "Frames") 1 "innermost" ["self"] (spInn (He.ga K "Frames")) _ _ := ⟨(He.cls_ok (c.fact 71 (f := .cls "Frames") rfl)), He.meth_ok (c.fact 133 (f := .meth "Frames" "innermost") rfl), b_Framesinnermost, ok_Minn F_Framesinnermost T⟩
  have X_M_nbe : CalM l.prog w K mg base (He.ga K "Counts") 1 "note_beats" ["self", "beats", "to"] (spNbe (He.ga K "Counts")) _ _ := ⟨(He.cls_ok (c.fact 77 (f := .cls "Counts") rfl)), He.meth_ok (c.fact 134 (f := .meth "Counts" "note_beats") rfl), b_Countsnotebeats, ok_Mnbe F_Countsnotebeats T⟩
  have X_M_ntu : CalM l.prog w K mg base (He.ga K "Counts") 2 "note_turn" ["self", "sort", "pc", "beats", "to"] (spNtu (He.ga K "Counts")) _ _ := ⟨(He.cls_ok (c.fact 77 (f := .cls "Counts") rfl)), He.meth_ok (c.fact 135 (f := .meth "Counts" "note_turn") rfl), b_Countsnoteturn, ok_Mntu F_Countsnoteturn T X_M_nbe⟩
  have X_F_bar : CalF l.prog w K mg base 1 "bar_of" ["kind", "address"] (spBar) _ _ := ⟨(He.glo_ok X G (c.fact 136 (f := .glo "bar_of") rfl)), F_barof.kp, b_barof, ok_Fbar F_barof Tb⟩
  have X_M_stop : CalM l.prog w K mg base (He.ga K "Board") 1 "stop" ["self", "stop"] (spStop (He.ga K "Board") (He.ga K "Memory")) _ _ := ⟨(He.cls_ok (c.fact 32 (f := .cls "Board") rfl)), He.meth_ok (c.fact 137 (f := .meth "Board" "stop") rfl), b_Boardstop, ok_Mstop F_Boardstop Tb⟩
  have X_M_may : CalM l.prog w K mg base (He.ga K "Board") 2 "may_touch" ["self", "touches"] (spMay (He.ga K "Board") (He.ga K "Memory")) _ _ := ⟨(He.cls_ok (c.fact 32 (f := .cls "Board") rfl)), He.meth_ok (c.fact 138 (f := .meth "Board" "may_touch") rfl), b_Boardmaytouch, ok_Mmay F_Boardmaytouch Tb X_F_bar X_M_stop⟩
  have X_M_take : CalM l.prog w K mg base (He.ga K "Memory") 1 "take_line" ["self", "value"] (spMTake (He.ga K "Memory")) _ _ := ⟨(He.cls_ok (c.fact 33 (f := .cls "Memory") rfl)), He.meth_ok (c.fact 139 (f := .meth "Memory" "take_line") rfl), b_Memorytakeline, ok_Mtake F_Memorytakeline Tb⟩
  have X_M_come : CalM l.prog w K mg base (He.ga K "Board") 2 "come_line" ["self"] (spCome (He.ga K "Board") (He.ga K "Memory")) _ _ := ⟨(He.cls_ok (c.fact 32 (f := .cls "Board") rfl)), He.meth_ok (c.fact 140 (f := .meth "Board" "come_line") rfl), b_Boardcomeline, ok_Mcome F_Boardcomeline Tb X_M_take⟩
  have X_M_timer : CalM l.prog w K mg base (He.ga K "Memory") 1 "go_timer" ["self"] (spMTim (He.ga K "Memory")) _ _ := ⟨(He.cls_ok (c.fact 33 (f := .cls "Memory") rfl)), He.meth_ok (c.fact 141 (f := .meth "Memory" "go_timer") rfl), b_Memorygotimer, ok_Mtimer F_Memorygotimer Tb⟩
  have X_M_pass : CalM l.prog w K mg base (He.ga K "Board") 3 "pass_beats" ["self", "many"] (spPass (He.ga K "Board") (He.ga K "Memory")) _ _ := ⟨(He.cls_ok (c.fact 32 (f := .cls "Board") rfl)), He.meth_ok (c.fact 142 (f := .meth "Board" "pass_beats") rfl), b_Boardpassbeats, ok_Mpass F_Boardpassbeats Tb X_M_come X_M_timer⟩
  have X_M_put : CalM l.prog w K mg base (He.ga K "Memory") 1 "put" ["self", "address", "word"] (spMPut (He.ga K "Memory")) _ _ := ⟨(He.cls_ok (c.fact 33 (f := .cls "Memory") rfl)), He.meth_ok (c.fact 143 (f := .meth "Memory" "put") rfl), b_Memoryput, ok_Mput F_Memoryput Tb⟩
  have X_M_pw : CalM l.prog w K mg base (He.ga K "Board") 2 "put_word" ["self", "address", "word"] (spPw (He.ga K "Board") (He.ga K "Memory")) _ _ := ⟨(He.cls_ok (c.fact 32 (f := .cls "Board") rfl)), He.meth_ok (c.fact 144 (f := .meth "Board" "put_word") rfl), b_Boardputword, ok_Mpw F_Boardputword Tb X_M_put⟩
  have X_M_pbt : CalM l.prog w K mg base (He.ga K "Board") 3 "put_by_turn" ["self", "address", "word"] (spPw (He.ga K "Board") (He.ga K "Memory")) _ _ := ⟨(He.cls_ok (c.fact 32 (f := .cls "Board") rfl)), He.meth_ok (c.fact 145 (f := .meth "Board" "put_by_turn") rfl), b_Boardputbyturn, ok_Mpbt F_Boardputbyturn Tb X_M_pw⟩
  have X_M_begin : CalM l.prog w K mg base (He.ga K "Board") 4 "begin_interrupt" ["self"] (spBegin (He.ga K "Board") (He.ga K "Memory")) _ _ := ⟨(He.cls_ok (c.fact 32 (f := .cls "Board") rfl)), He.meth_ok (c.fact 146 (f := .meth "Board" "begin_interrupt") rfl), b_Boardbegininterrupt, ok_Mbegin F_Boardbegininterrupt Tb X_M_called X_M_may X_M_pass X_M_pbt⟩
  have X_F_tou : CalF l.prog w K mg base 1 "touches_of" ["name", "x", "registers"] (spTou) _ _ := ⟨(He.glo_ok X G (c.fact 147 (f := .glo "touches_of") rfl)), F_touchesof.kp, b_touchesof, ok_Ftou F_touchesof Tb⟩
  have X_M_read : CalM l.prog w K mg base (He.ga K "Memory") 1 "read" ["self", "address", "pc"] (spMRead (He.ga K "Memory")) _ _ := ⟨(He.cls_ok (c.fact 33 (f := .cls "Memory") rfl)), He.meth_ok (c.fact 148 (f := .meth "Memory" "read") rfl), b_Memoryread, ok_Mread F_Memoryread Tb⟩
  have X_F_give : CalF l.prog w K mg base 1 "give" ["board", "word"] (spGive (He.ga K "Board") (He.ga K "Memory")) _ _ := ⟨(He.glo_ok X G (c.fact 149 (f := .glo "give") rfl)), F_give.kp, b_give, ok_Fgive F_give Tb⟩
  have FD : DoF l.prog w K mg base (He.ga K "Board") (He.ga K "Memory") (fun op => match op with | 1 => He.ga K "do_lit" | 2 => He.ga K "do_get" | 3 => He.ga K "do_put" | 4 => He.ga K "do_add" | 5 => He.ga K "do_sub" | 6 => He.ga K "do_and" | 7 => He.ga K "do_xor" | 8 => He.ga K "do_get" | 9 => He.ga K "do_putb" | 10 => He.ga K "do_tob" | 11 => He.ga K "do_swap" | 12 => He.ga K "do_go" | 13 => He.ga K "do_ifz" | 14 => He.ga K "do_ifn" | 15 => He.ga K "do_call" | 16 => He.ga K "do_ret" | 17 => He.ga K "do_push" | 18 => He.ga K "do_pop" | 19 => He.ga K "do_sleep" | 20 => He.ga K "do_let" | 21 => He.ga K "do_back" | _ => He.ga K "do_half") (fun op => match op with | 1 => fd_dolit | 2 => fd_doget | 3 => fd_doput | 4 => fd_doadd | 5 => fd_dosub | 6 => fd_doand | 7 => fd_doxor | 8 => fd_doget | 9 => fd_doputb | 10 => fd_dotob | 11 => fd_doswap | 12 => fd_dogo | 13 => fd_doifz | 14 => fd_doifn | 15 => fd_docall | 16 => fd_doret | 17 => fd_dopush | 18 => fd_dopop | 19 => fd_dosleep | 20 => fd_dolet | 21 => fd_doback | _ => fd_dohalf) := {
    G := fun op h1 h2 => match op, h1, h2 with
      | 1, _, _ => ok_D1 F_dolit Tb X_F_give
      | 2, _, _ => ok_D2 F_doget Tb X_F_give
      | 3, _, _ => ok_D3 F_doput Tb X_M_pbt
      | 4, _, _ => ok_D4 F_doadd Tb X_F_give
      | 5, _, _ => ok_D5 F_dosub Tb X_F_give
      | 6, _, _ => ok_D6 F_doand Tb X_F_give
      | 7, _, _ => ok_D7 F_doxor Tb X_F_give
      | 8, _, _ => ok_D8 F_doget Tb X_F_give
      | 9, _, _ => ok_D9 F_doputb Tb X_M_pbt
      | 10, _, _ => ok_D10 F_dotob Tb 
      | 11, _, _ => ok_D11 F_doswap Tb X_F_give
      | 12, _, _ => ok_D12 F_dogo Tb 
      | 13, _, _ => ok_D13 F_doifz Tb 
      | 14, _, _ => ok_D14 F_doifn Tb 
      | 15, _, _ => ok_D15 F_docall Tb X_M_pbt
      | 16, _, _ => ok_D16 F_doret Tb 
      | 17, _, _ => ok_D17 F_dopush Tb X_M_pbt
      | 18, _, _ => ok_D18 F_dopop Tb X_F_give
      | 19, _, _ => ok_D19 F_dosleep Tb 
      | 20, _, _ => ok_D20 F_dolet Tb 
      | 21, _, _ => ok_D21 F_doback Tb 
      | 22, _, _ => ok_D22 F_dohalf Tb X_F_give
      | 0, h, _ => by omega
      | n + 23, _, h => by omega
    kp := fun op h1 h2 => match op, h1, h2 with
      | 1, _, _ => F_dolit.kp
      | 2, _, _ => F_doget.kp
      | 3, _, _ => F_doput.kp
      | 4, _, _ => F_doadd.kp
      | 5, _, _ => F_dosub.kp
      | 6, _, _ => F_doand.kp
      | 7, _, _ => F_doxor.kp
      | 8, _, _ => F_doget.kp
      | 9, _, _ => F_doputb.kp
      | 10, _, _ => F_dotob.kp
      | 11, _, _ => F_doswap.kp
      | 12, _, _ => F_dogo.kp
      | 13, _, _ => F_doifz.kp
      | 14, _, _ => F_doifn.kp
      | 15, _, _ => F_docall.kp
      | 16, _, _ => F_doret.kp
      | 17, _, _ => F_dopush.kp
      | 18, _, _ => F_dopop.kp
      | 19, _, _ => F_dosleep.kp
      | 20, _, _ => F_dolet.kp
      | 21, _, _ => F_doback.kp
      | 22, _, _ => F_dohalf.kp
      | 0, h, _ => by omega
      | n + 23, _, h => by omega
    b := fun op h1 h2 => match op, h1, h2 with
      | 1, _, _ => b_dolit
      | 2, _, _ => b_doget
      | 3, _, _ => b_doput
      | 4, _, _ => b_doadd
      | 5, _, _ => b_dosub
      | 6, _, _ => b_doand
      | 7, _, _ => b_doxor
      | 8, _, _ => b_doget
      | 9, _, _ => b_doputb
      | 10, _, _ => b_dotob
      | 11, _, _ => b_doswap
      | 12, _, _ => b_dogo
      | 13, _, _ => b_doifz
      | 14, _, _ => b_doifn
      | 15, _, _ => b_docall
      | 16, _, _ => b_doret
      | 17, _, _ => b_dopush
      | 18, _, _ => b_dopop
      | 19, _, _ => b_dosleep
      | 20, _, _ => b_dolet
      | 21, _, _ => b_doback
      | 22, _, _ => b_dohalf
      | 0, h, _ => by omega
      | n + 23, _, h => by omega
    D := by
      obtain ⟨es, n, lk, kl, _⟩ := c.tab 0 (t := tabD) rfl
      exact ⟨_, (He.glo_ok X G (c.fact 150 (f := .glo "DOINGS") rfl)), fun op h1 h2 => match op, h1, h2 with
      | 1, _, _ => ⟨es, n, _, lk, kl, He.eqO_ok (c.x 3 rfl), rfl⟩
      | 2, _, _ => ⟨es, n, _, lk, kl, He.eqO_ok (c.x 4 rfl), rfl⟩
      | 3, _, _ => ⟨es, n, _, lk, kl, He.eqO_ok (c.x 5 rfl), rfl⟩
      | 4, _, _ => ⟨es, n, _, lk, kl, He.eqO_ok (c.x 6 rfl), rfl⟩
      | 5, _, _ => ⟨es, n, _, lk, kl, He.eqO_ok (c.x 7 rfl), rfl⟩
      | 6, _, _ => ⟨es, n, _, lk, kl, He.eqO_ok (c.x 8 rfl), rfl⟩
      | 7, _, _ => ⟨es, n, _, lk, kl, He.eqO_ok (c.x 9 rfl), rfl⟩
      | 8, _, _ => ⟨es, n, _, lk, kl, He.eqO_ok (c.x 10 rfl), rfl⟩
      | 9, _, _ => ⟨es, n, _, lk, kl, He.eqO_ok (c.x 11 rfl), rfl⟩
      | 10, _, _ => ⟨es, n, _, lk, kl, He.eqO_ok (c.x 12 rfl), rfl⟩
      | 11, _, _ => ⟨es, n, _, lk, kl, He.eqO_ok (c.x 13 rfl), rfl⟩
      | 12, _, _ => ⟨es, n, _, lk, kl, He.eqO_ok (c.x 14 rfl), rfl⟩
      | 13, _, _ => ⟨es, n, _, lk, kl, He.eqO_ok (c.x 15 rfl), rfl⟩
      | 14, _, _ => ⟨es, n, _, lk, kl, He.eqO_ok (c.x 16 rfl), rfl⟩
      | 15, _, _ => ⟨es, n, _, lk, kl, He.eqO_ok (c.x 17 rfl), rfl⟩
      | 16, _, _ => ⟨es, n, _, lk, kl, He.eqO_ok (c.x 18 rfl), rfl⟩
      | 17, _, _ => ⟨es, n, _, lk, kl, He.eqO_ok (c.x 19 rfl), rfl⟩
      | 18, _, _ => ⟨es, n, _, lk, kl, He.eqO_ok (c.x 20 rfl), rfl⟩
      | 19, _, _ => ⟨es, n, _, lk, kl, He.eqO_ok (c.x 21 rfl), rfl⟩
      | 20, _, _ => ⟨es, n, _, lk, kl, He.eqO_ok (c.x 22 rfl), rfl⟩
      | 21, _, _ => ⟨es, n, _, lk, kl, He.eqO_ok (c.x 23 rfl), rfl⟩
      | 22, _, _ => ⟨es, n, _, lk, kl, He.eqO_ok (c.x 24 rfl), rfl⟩
      | 0, h, _ => by omega
      | n + 23, _, h => by omega⟩ }
  have X_M_do : CalM l.prog w K mg base (He.ga K "Board") 5 "do_deed" ["self"] (spDeed (He.ga K "Board") (He.ga K "Memory")) _ _ := ⟨(He.cls_ok (c.fact 32 (f := .cls "Board") rfl)), He.meth_ok (c.fact 151 (f := .meth "Board" "do_deed") rfl), b_Boarddodeed, ok_Mdo F_Boarddodeed Tb X_F_tou X_M_may X_M_pass X_M_read X_M_stop FD⟩
  have X_M_turn : CalM l.prog w K mg base (He.ga K "Board") 6 "turn" ["self"] (spTurn (He.ga K "Board") (He.ga K "Memory")) _ _ := ⟨(He.cls_ok (c.fact 32 (f := .cls "Board") rfl)), He.meth_ok (c.fact 152 (f := .meth "Board" "turn") rfl), b_Boardturn, ok_Mturn F_Boardturn Tb X_M_begin X_M_coming X_M_do X_M_pass⟩
  have X_M_nt : CalM l.prog w K mg base (He.ga K "Probe") 7 "note_turn" ["self"] (spNT (He.ga K "Board") (He.ga K "Memory") (He.ga K "Probe") (He.ga K "Marks") (He.ga K "Watches") (He.ga K "Frames") (He.ga K "History") (He.ga K "Counts") (He.ga K "Mishaps")) _ _ := ⟨(He.cls_ok (c.fact 54 (f := .cls "Probe") rfl)), He.meth_ok (c.fact 153 (f := .meth "Probe" "note_turn") rfl), b_Probenoteturn, ok_Mnt F_Probenoteturn T X_M_fol X_M_hno X_M_inn X_M_ntu X_M_turn⟩
  have X_M_due : CalM l.prog w K mg base (He.ga K "Mishaps") 1 "due" ["self", "beat"] (spDue (He.ga K "Mishaps")) _ _ := ⟨(He.cls_ok (c.fact 82 (f := .cls "Mishaps") rfl)), He.meth_ok (c.fact 154 (f := .meth "Mishaps" "due") rfl), b_Mishapsdue, ok_Mdue F_Mishapsdue T⟩
  have X_M_lose : CalM l.prog w K mg base (He.ga K "Board") 1 "lose_power" ["self"] (spNo) _ _ := ⟨(He.cls_ok (c.fact 32 (f := .cls "Board") rfl)), He.meth_ok (c.fact 155 (f := .meth "Board" "lose_power") rfl), b_Boardlosepower, ok_Mlose F_Boardlosepower T⟩
  have X_M_tbit : CalM l.prog w K mg base (He.ga K "Memory") 1 "turn_bit" ["self", "address", "bit"] (spNo) _ _ := ⟨(He.cls_ok (c.fact 33 (f := .cls "Memory") rfl)), He.meth_ok (c.fact 156 (f := .meth "Memory" "turn_bit") rfl), b_Memoryturnbit, ok_Mtbit F_Memoryturnbit T⟩
  have X_M_tf : CalM l.prog w K mg base (He.ga K "Probe") 3 "take_faults" ["self"] (spTf (He.ga K "Board") (He.ga K "Memory") (He.ga K "Probe") (He.ga K "Marks") (He.ga K "Watches") (He.ga K "Frames") (He.ga K "History") (He.ga K "Counts") (He.ga K "Mishaps")) _ _ := ⟨(He.cls_ok (c.fact 54 (f := .cls "Probe") rfl)), He.meth_ok (c.fact 157 (f := .meth "Probe" "take_faults") rfl), b_Probetakefaults, ok_Mtf F_Probetakefaults T X_C_fra X_M_cme X_M_due X_M_lose X_M_tbit⟩
  have X_M_ft : CalM l.prog w K mg base (He.ga K "Probe") 8 "follow_turn" ["self"] (spFT (He.ga K "Board") (He.ga K "Memory") (He.ga K "Probe") (He.ga K "Marks") (He.ga K "Watches") (He.ga K "Frames") (He.ga K "History") (He.ga K "Counts") (He.ga K "Mishaps")) _ _ := ⟨(He.cls_ok (c.fact 54 (f := .cls "Probe") rfl)), He.meth_ok (c.fact 158 (f := .meth "Probe" "follow_turn") rfl), b_Probefollowturn, ok_Mft F_Probefollowturn T X_M_bnd X_M_cme X_M_nt X_M_tf⟩
  have X_M_met : CalM l.prog w K mg base (He.ga K "Watches") 1 "met" ["self", "touches"] (spMet (He.ga K "Watches")) _ _ := ⟨(He.cls_ok (c.fact 69 (f := .cls "Watches") rfl)), He.meth_ok (c.fact 159 (f := .meth "Watches" "met") rfl), b_Watchesmet, ok_Mmet F_Watchesmet T⟩
  have X_M_pt : CalM l.prog w K mg base (He.ga K "Probe") 9 "pass_turn" ["self", "end"] (spPT (He.ga K "Board") (He.ga K "Memory") (He.ga K "Probe") (He.ga K "Marks") (He.ga K "Watches") (He.ga K "Frames") (He.ga K "History") (He.ga K "Counts") (He.ga K "Mishaps") (He.ga K "OverEnd") (He.ga K "OutEnd") 1) _ _ := ⟨(He.cls_ok (c.fact 54 (f := .cls "Probe") rfl)), He.meth_ok (c.fact 160 (f := .meth "Probe" "pass_turn") rfl), b_Probepassturn, ok_Mpt F_Probepassturn T X_M_comO X_M_ft X_M_met⟩
  have X_M_lg : CalM l.prog w K mg base (He.ga K "Probe") 10 "let_go" ["self", "most", "peeks", "words", "end"] (spLG (He.ga K "Board") (He.ga K "Memory") (He.ga K "Probe") (He.ga K "Marks") (He.ga K "Watches") (He.ga K "Frames") (He.ga K "History") (He.ga K "Counts") (He.ga K "Mishaps") (He.ga K "OverEnd") (He.ga K "OutEnd") 1) _ _ := ⟨(He.cls_ok (c.fact 54 (f := .cls "Probe") rfl)), He.meth_ok (c.fact 161 (f := .meth "Probe" "let_go") rfl), b_Probeletgo, ok_Mlg F_Probeletgo T X_M_mm X_M_ng X_M_peek X_M_pt⟩
  have X_F_sov : CalF l.prog w K mg base 11 "step_over" ["probe", "most"] (spOver (He.ga K "Board") (He.ga K "Memory") (He.ga K "Probe") (He.ga K "Marks") (He.ga K "Watches") (He.ga K "Frames") (He.ga K "History") (He.ga K "Counts") (He.ga K "Mishaps")) _ _ := ⟨(He.glo_ok X G (c.fact 162 (f := .glo "step_over") rfl)), F_stepover.kp, b_stepover, ok_Fsov F_stepover T X_C_ove X_M_lg⟩
  have X_L_cell : CalF l.prog w K mg base 1 "_law_cell_at" ["_law_script", "_law_k"] (spCellAt K) _ _ := ⟨(He.glo_ok X G (c.fact 163 (f := .glo "_law_cell_at") rfl)), F_lawcellat.kp, b_lawcellat, ok_Lcell F_lawcellat T⟩
  have X_L_draw : CalF l.prog w K mg base 1 "_law_draw" ["_law_well_here", "_law_many"] (spDraw) _ _ := ⟨(He.glo_ok X G (c.fact 164 (f := .glo "_law_draw") rfl)), F_lawdraw.kp, b_lawdraw, ok_Ldraw F_lawdraw T⟩
  have X_L_one : CalF l.prog w K mg base 2 "_law_one" ["_law_well_here", "_law_some"] (spOne) _ _ := ⟨(He.glo_ok X G (c.fact 165 (f := .glo "_law_one") rfl)), F_lawone.kp, b_lawone, ok_Lone F_lawone T X_L_draw⟩
  have X_L_deeds : CalF l.prog w K mg base 3 "_law_deeds" ["_law_well_here", "_law_starts", "_law_k", "_law_many"] (spDeeds) _ _ := ⟨(He.glo_ok X G (c.fact 166 (f := .glo "_law_deeds") rfl)), F_lawdeeds.kp, b_lawdeeds, ok_Ldeeds F_lawdeeds T X_L_draw X_L_one⟩
  have X_L_fil : CalF l.prog w K mg base 1 "_law_filled" ["_law_row", "_law_many"] (spFil) _ _ := ⟨(He.glo_ok X G (c.fact 167 (f := .glo "_law_filled") rfl)), F_lawfilled.kp, b_lawfilled, ok_Lfil F_lawfilled T⟩
  have X_L_img : CalF l.prog w K mg base 4 "_law_image" ["_law_well_here"] (spImgF) _ _ := ⟨(He.glo_ok X G (c.fact 168 (f := .glo "_law_image") rfl)), F_lawimage.kp, b_lawimage, ok_Limg F_lawimage T X_L_deeds X_L_draw X_L_fil⟩
  have X_L_lin : CalF l.prog w K mg base 2 "_law_line" ["_law_well_here"] (spLinF) _ _ := ⟨(He.glo_ok X G (c.fact 169 (f := .glo "_law_line") rfl)), F_lawline.kp, b_lawline, ok_Llin F_lawline T X_L_draw⟩
  have X_L_new : CalF l.prog w K mg base 1 "_law_new" ["_law_image_here", "_law_line_here"] (spONew) _ _ := ⟨(He.glo_ok X G (c.fact 171 (f := .glo "_law_new") rfl)), F_lawnew.kp, b_lawnew, ok_Lnew F_lawnew Tb (He.free_ok X G (c.fact 170 (f := .free "dict") rfl))⟩
  have X_L_met : CalF l.prog w K mg base 1 "_law_met" ["_law_s", "_law_windows"] (spOMet) _ _ := ⟨(He.glo_ok X G (c.fact 172 (f := .glo "_law_met") rfl)), F_lawmet.kp, b_lawmet, ok_Lmet F_lawmet Tb (He.free_ok X G (c.fact 53 (f := .free "enumerate") rfl))⟩
  have X_L_mkd : CalF l.prog w K mg base 1 "_law_marked" ["_law_s", "_law_marks"] (spOMarked) _ _ := ⟨(He.glo_ok X G (c.fact 173 (f := .glo "_law_marked") rfl)), F_lawmarked.kp, b_lawmarked, ok_Lmkd F_lawmarked Tb⟩
  have X_L_clo : CalF l.prog w K mg base 1 "_law_closed" ["_law_s", "_law_kind"] (spOClosed) _ _ := ⟨(He.glo_ok X G (c.fact 174 (f := .glo "_law_closed") rfl)), F_lawclosed.kp, b_lawclosed, ok_Lclo F_lawclosed Tb⟩
  have X_L_inn : CalF l.prog w K mg base 1 "_law_inner" ["_law_s"] (spOInner) _ _ := ⟨(He.glo_ok X G (c.fact 175 (f := .glo "_law_inner") rfl)), F_lawinner.kp, b_lawinner, ok_Linn F_lawinner Tb⟩
  have X_L_bar : CalF l.prog w K mg base 1 "_law_bar" ["_law_address", "_law_puts"] (spOBar) _ _ := ⟨(He.glo_ok X G (c.fact 176 (f := .glo "_law_bar") rfl)), F_lawbar.kp, b_lawbar, ok_Lbar F_lawbar Tb⟩
  have X_L_lay : CalF l.prog w K mg base 1 "_law_lay" ["_law_s", "_law_address", "_law_word"] (spOLay) _ _ := ⟨(He.glo_ok X G (c.fact 177 (f := .glo "_law_lay") rfl)), F_lawlay.kp, b_lawlay, ok_Llay F_lawlay Tb⟩
  have X_L_do : CalF l.prog w K mg base 2 "_law_do" ["_law_s", "_law_op", "_law_x", "_law_spots"] (spODo) _ _ := ⟨(He.glo_ok X G (c.fact 178 (f := .glo "_law_do") rfl)), F_lawdo.kp, b_lawdo, ok_Ldo F_lawdo Tb X_L_lay⟩
  have X_L_halt : CalF l.prog w K mg base 1 "_law_halt" ["_law_s", "_law_cause"] (spOHalt) _ _ := ⟨(He.glo_ok X G (c.fact 179 (f := .glo "_law_halt") rfl)), F_lawhalt.kp, b_lawhalt, ok_Lhalt F_lawhalt Tb⟩
  have X_L_pass : CalF l.prog w K mg base 1 "_law_pass" ["_law_s", "_law_many"] (spOPass) _ _ := ⟨(He.glo_ok X G (c.fact 180 (f := .glo "_law_pass") rfl)), F_lawpass.kp, b_lawpass, ok_Lpass F_lawpass Tb⟩
  have X_L_tou : CalF l.prog w K mg base 1 "_law_touches" ["_law_s", "_law_op", "_law_x"] (spOTou) _ _ := ⟨(He.glo_ok X G (c.fact 181 (f := .glo "_law_touches") rfl)), F_lawtouches.kp, b_lawtouches, ok_Ltou F_lawtouches Tb⟩
  have X_L_deed : CalF l.prog w K mg base 3 "_law_deed" ["_law_s"] (spODeed) _ _ := ⟨(He.glo_ok X G (c.fact 182 (f := .glo "_law_deed") rfl)), F_lawdeed.kp, b_lawdeed, ok_Ldeed F_lawdeed Tb X_L_bar X_L_do X_L_halt X_L_pass X_L_tou⟩
  have X_L_turn : CalF l.prog w K mg base 4 "_law_turn" ["_law_s"] (spOTurn) _ _ := ⟨(He.glo_ok X G (c.fact 183 (f := .glo "_law_turn") rfl)), F_lawturn.kp, b_lawturn, ok_Lturn F_lawturn Tb X_L_bar X_L_deed X_L_halt X_L_lay X_L_pass⟩
  have X_L_seen : CalF l.prog w K mg base 5 "_law_seen" ["_law_s"] (spOSeen) _ _ := ⟨(He.glo_ok X G (c.fact 184 (f := .glo "_law_seen") rfl)), F_lawseen.kp, b_lawseen, ok_Lseen F_lawseen Tb X_L_clo X_L_inn X_L_turn⟩
  have X_L_run : CalF l.prog w K mg base 6 "_law_run" ["_law_s", "_law_many", "_law_word", "_law_marks", "_law_windows"] (spORun) _ _ := ⟨(He.glo_ok X G (c.fact 185 (f := .glo "_law_run") rfl)), F_lawrun.kp, b_lawrun, ok_Lrun F_lawrun Tb X_L_met X_L_mkd X_L_seen⟩
  have X_F_frs : CalF l.prog w K mg base 1 "frames_of" ["probe"] (spFrs (He.ga K "Board") (He.ga K "Memory") (He.ga K "Probe") (He.ga K "Marks") (He.ga K "Watches") (He.ga K "Frames") (He.ga K "History") (He.ga K "Counts") (He.ga K "Mishaps")) _ _ := ⟨(He.glo_ok X G (c.fact 186 (f := .glo "frames_of") rfl)), F_framesof.kp, b_framesof, ok_Ffrs F_framesof T⟩
  have X_F_str : CalF l.prog w K mg base 1 "strays_of" ["probe"] (spStr (He.ga K "Board") (He.ga K "Memory") (He.ga K "Probe") (He.ga K "Marks") (He.ga K "Watches") (He.ga K "Frames") (He.ga K "History") (He.ga K "Counts") (He.ga K "Mishaps")) _ _ := ⟨(He.glo_ok X G (c.fact 187 (f := .glo "strays_of") rfl)), F_straysof.kp, b_straysof, ok_Fstr F_straysof T⟩
  have X_M_reg : CalM l.prog w K mg base (He.ga K "Probe") 1 "register_of" ["self", "name"] (spReg (He.ga K "Board") (He.ga K "Memory") (He.ga K "Probe") (He.ga K "Marks") (He.ga K "Watches") (He.ga K "Frames") (He.ga K "History") (He.ga K "Counts") (He.ga K "Mishaps")) _ _ := ⟨(He.cls_ok (c.fact 54 (f := .cls "Probe") rfl)), He.meth_ok (c.fact 188 (f := .meth "Probe" "register_of") rfl), b_Proberegisterof, ok_Mreg F_Proberegisterof T TR⟩
  have X_M_stp : CalM l.prog w K mg base (He.ga K "Probe") 1 "stop_told" ["self"] (spStp (He.ga K "Board") (He.ga K "Memory") (He.ga K "Probe") (He.ga K "Marks") (He.ga K "Watches") (He.ga K "Frames") (He.ga K "History") (He.ga K "Counts") (He.ga K "Mishaps")) _ _ := ⟨(He.cls_ok (c.fact 54 (f := .cls "Probe") rfl)), He.meth_ok (c.fact 189 (f := .meth "Probe" "stop_told") rfl), b_Probestoptold, ok_Mstp F_Probestoptold T⟩
  have X_M_tns : CalM l.prog w K mg base (He.ga K "Probe") 1 "turns" ["self"] (spTurns (He.ga K "Board") (He.ga K "Memory") (He.ga K "Probe") (He.ga K "Marks") (He.ga K "Watches") (He.ga K "Frames") (He.ga K "History") (He.ga K "Counts") (He.ga K "Mishaps")) _ _ := ⟨(He.cls_ok (c.fact 54 (f := .cls "Probe") rfl)), He.meth_ok (c.fact 190 (f := .meth "Probe" "turns") rfl), b_Probeturns, ok_Mtns F_Probeturns T⟩
  have X_L_same : CalF l.prog w K mg base 4 "_law_same" ["_law_held", "_law_s"] (spSame (He.ga K "Board") (He.ga K "Memory") (He.ga K "Probe") (He.ga K "Marks") (He.ga K "Watches") (He.ga K "Frames") (He.ga K "History") (He.ga K "Counts") (He.ga K "Mishaps")) _ _ := ⟨(He.glo_ok X G (c.fact 191 (f := .glo "_law_same") rfl)), F_lawsame.kp, b_lawsame, ok_Lsame F_lawsame T X_F_frs X_F_str X_M_reg X_M_stp X_M_tns⟩
  have X_L_well : CalF l.prog w K mg base 1 "_law_well" ["_law_cell"] (spWell) _ _ := ⟨(He.glo_ok X G (c.fact 192 (f := .glo "_law_well") rfl)), F_lawwell.kp, b_lawwell, ok_Lwell F_lawwell T⟩
  have X_F_pbt : CalF l.prog w K mg base 1 "peeks_by_turn" ["peeks"] (spPbt) _ _ := ⟨(He.glo_ok X G (c.fact 193 (f := .glo "peeks_by_turn") rfl)), F_peeksbyturn.kp, b_peeksbyturn, ok_Fpbt F_peeksbyturn T⟩
  have X_M_go : CalMd l.prog w K mg base (He.ga K "Probe") 11 "go" ["self", "most", "peeks"] (spGo (He.ga K "Board") (He.ga K "Memory") (He.ga K "Probe") (He.ga K "Marks") (He.ga K "Watches") (He.ga K "Frames") (He.ga K "History") (He.ga K "Counts") (He.ga K "Mishaps")) _ _ := ⟨(He.cls_ok (c.fact 54 (f := .cls "Probe") rfl)), He.meth_ok (c.fact 194 (f := .meth "Probe" "go") rfl), b_Probego, ok_Mgo F_Probego T X_F_pbt X_M_lg⟩
  have X_M_at : CalM l.prog w K mg base (He.ga K "Memory") 1 "word_at" ["self", "address"] (spMAt (He.ga K "Memory")) _ _ := ⟨(He.cls_ok (c.fact 33 (f := .cls "Memory") rfl)), He.meth_ok (c.fact 195 (f := .meth "Memory" "word_at") rfl), b_Memorywordat, ok_Mat F_Memorywordat Tb⟩
  have X_M_lookg : CalM l.prog w K mg base (He.ga K "Probe") 3 "look" ["self", "address", "many"] (spLookG (He.ga K "Board") (He.ga K "Memory") (He.ga K "Probe") (He.ga K "Marks") (He.ga K "Watches") (He.ga K "Frames") (He.ga K "History") (He.ga K "Counts") (He.ga K "Mishaps")) _ _ := ⟨(He.cls_ok (c.fact 54 (f := .cls "Probe") rfl)), He.meth_ok (c.fact 196 (f := .meth "Probe" "look") rfl), b_Probelook, ok_Mlookg F_Probelook T X_F_betw X_M_at⟩
  exact ok_Llaw F_law T X_C_prb X_F_sov X_L_cell X_L_draw X_L_img X_L_lin X_L_new X_L_one X_L_run X_L_same X_L_well X_M_go X_M_lookg
end Bh
open PySem PySem.W PySem.Calls PyProof.Rows
set_option maxRecDepth 100000 in
set_option maxHeartbeats 0 in
theorem PySem.Challenge.cw_boardheld_k42_whole_steps_over_holds : PySem.Challenge.rw_boardheld_k42_whole_steps_over.Holds := by
  w_on; o_law
  refine HandSHeadRun.head_any (r := Bh.RR) (q := Bh.qV) (H := Bh.hkH) (ob := Bh.obL) (M := 10000) (loose := Bh.looseL) (d := HandSHeadRun.topDef Bh.RR.prog 125) (kwd := []) Bh.obL_eq
    (by kernel_rfl) (fun s => by kernel_rfl) Bh.run (by kernel_rfl) (by kernel_rfl) (by kernel_rfl) (by rfl) (by first | assumption | decide +kernel) (by decide +kernel) ⟨rfl, rfl, rfl, rfl, rfl, by decide +kernel⟩ ?hw ?hc
  case hw => w_witness2
  case hc =>
    refine L2.walk_ofE (l := PySem.Challenge.rw_boardheld_k42_whole_steps_over) (n := 63) (k := 13) (x := "_law_script") (CX := L2.CX0) rfl (by decide) (by kernel_rfl) ⟨rfl, by decide, by decide⟩ ?F (fun _ _ _ _ z => z)
    intro w mg fa h Y G hmg0
    obtain ⟨K, KX, c⟩ := Y
    have hmg : mg ("law" : PySem.Str) = some (.ref fa) := by
      have e : (HandSHeadRun.topDef Bh.RR.prog 125).name = ("law" : PySem.Str) := by kernel_rfl
      rw [← e]
      exact hmg0
    obtain ⟨fd, hb, hF⟩ := Bh.all_mk (l := PySem.Challenge.rw_boardheld_k42_whole_steps_over) (w := w) KX G hmg c
    exact ⟨K, fd, Bh.spLaw K, KX, hb, fun H a ns hl _ hS => ⟨a, ns, rfl, hS, hl, fun _ => rfl⟩, hF⟩

