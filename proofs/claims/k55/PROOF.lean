import PyProof.Rows.All
import Wide.All
import OpenK.AllK
import Wide.FinOn
import HandS.Head0
import HandS.Head1
import HandS.Head2
import HandS.HeadEnd
import HandS.HeadHook1
import HandS.HeadHook2
import HandS.HeadHook3
import HandS.HeadHook4
import HandS.ExcField
import HandS.Words
import HandS.Nested
import HandS.HeadWalk
import HandS.Evl
import HandS.ForMost
import KE.GoesMore
import KE.GoesEnum
import PyProof.Draws
import HandS.DictComp
import HandS.ForExc
import HandS.IsInst
import HandS.Conv
import HandS.MakeKwOnly
import HandS.TupAny
import HandS.Flow
import HandS.Steps
import HandS.Defaults
import HandS.Walk
import HandS.Zip
import HandS.Style
import HandS.ExcInit
import HandS.Base
import HandS.Call
import HandS.List
import HandS.OwnEq
import HandS.WordsExc
import PyProof.EqKinds
import PyProof.SeqRoads2
import PyProof.InstNe
import PyProof.FactsAll.dict
import KE.KDictPairs
import KE.KDictZip
import KE.KEqDict
import HandS.Dict
import HandS.More
import HandS.ExcIs
import HandS.ExcValue
import HandS.MakeKw
import HandS.Lambda
import HandS.Iter
import HandS.DictTup
import HandS.Comp
import HandS.Hot
import HandS.HotCalls
import HandS.ExcInitHot
import KE.KOpsOwn
import PyProof.SeqRoads
import PyProof.FactsAll.int
import HandS.Wide
import HandS.TryOnly
import KE.KDictWalk
import PyProof.P3Eq
import KE.KDictDisplayH
import HandS.ListEq
import HandS.IterVal
import KE.KOwnIter
import PyProof.FactsSeq
import HandS.ExcCtx
import HandS.Star
import HandS.FStr
import HandS.CallSlots
import PyProof.FactsAll.bool_2
import PySem.Challenge.RW_blockshares_k55_texts_refused
set_option Elab.async false
set_option linter.all false
set_option maxRecDepth 100000
set_option maxHeartbeats 4000000
namespace Bk
open PySem PySem.Spec PyProof.Rows
def topS (i : Nat) : Stmt := PySem.Challenge.pw_blockshares_k55_texts_refused.main.body.getD i (.Pass ⟨0, 0, 0, 0⟩)
end Bk

/-! what a law's top is asked, as truth values -/
namespace Bk
open PySem PySem.Spec PyProof.Rows L2
def mroE (C : Addr) : List Value → Bool
  | .ref C' :: bm => decide (C' = C) && PySem.HandSPX.refsVE bm
  | _ => false
def sixE : List (Option Value) → Bool
  | [_, _, _, _, some (.builtin n), _] => decide (n = "ValueError.__new__")
  | _ => false
/-- the class at C is an own error class whose maker is ValueError's -/
def ownErr (K : PySem.W.Frag) (C : Addr) : Bool := match K.lookup C with
  | some ⟨.type t, _, .cls cd, sl⟩ => decide (t = "type") && (cd.hasDict && (!cd.hasDel && (mroE C cd.mro && sixE sl.toList)))
  | _ => false
/-- what the law asks of an own error class beyond its facts by name -/
def errB (K : PySem.W.Frag) (C f : Addr) : Bool := ownErr K C && (xfB K C && (decide (PySem.W.subIn K (.ref C) (.type "BaseException") = some true) && (decide (PySem.W.typeIn K (.ref C) = some (.type "type")) && (PySem.W.keepIn K (.ref C) && (decide (PySem.W.typeIn K (.ref f) = some (.type "function")) &&
  decide (PySem.W.findIn K (.ref C) "__setattr__" = some (some (.builtin "object.__setattr__"))))))))
/-- isinstance of the instances of the class at C -/
def insB (K : PySem.W.Frag) (C : Addr) : Bool := decide (PySem.W.findIn K (.ref C) "__class__" = some (some (.builtin "object.__class__"))) && (decide (PySem.W.specialIn K (.builtin "object.__class__") "__get__" = some (some (.builtin "getset_descriptor.__get__"))) &&
  (decide (PySem.W.takesIn K (.builtin "object.__class__") = some true) && decide (PySem.W.mroIn K C (.type "object") = some true)))
def sixB : List (Option Value) → Bool
  | [_, _, _, _, some (.builtin _), _] => true
  | _ => false
def eqCls (K : PySem.W.Frag) (C f : Addr) : Bool := match K.lookup C with
  | some ⟨.type t, _, .cls cd, sl⟩ => decide (t = "type") && (decide (cd.mro = [.ref C, .type "object"]) && (!cd.hasDel && (sixB sl.toList && (PySem.W.nsOkIn K cd.ns && (decide (PySem.W.nsIn K cd.ns "__eq__" = some (some (.ref f))) && decide (PySem.W.nsIn K cd.ns "__ne__" = some none))))))
  | _ => false
/-- the pair (0, 1), kept by the module -/
def pairB (K : PySem.W.Frag) (a : Addr) : Bool := match K.lookup a with
  | some ⟨.type c, _, .seq its _, _⟩ => decide (c = "tuple") && (match its.toList with
    | [.int i _, .int j _] => decide (i = 0) && decide (j = 1)
    | _ => false)
  | _ => false
/-- no error of a later class is one of an earlier class -/
def exAll (K : PySem.W.Frag) (cs : List Addr) : Bool := (List.range cs.length).all fun j => (List.range j).all fun i => decide (PySem.W.exmOne K (.ref (cs.getD j 0)) (.ref (cs.getD i 0)) = some false)
end Bk

/-! a law's head in parts: what is looked at is told by its addresses; each part runs the top anew -/
namespace Bk
open PySem PySem.Spec PyProof.Rows L2
def obsA (as : List Addr) (fa : List He.Fa) (fn : List He.DefD) (tf : List He.Defn) (ex : PySem.W.Frag → Bool) (g : Addr → Option Obj) : He.AlX := (He.obsT fa fn [] (He.frT g as), ex (He.frT g as) && He.tabsB g tf (He.frT g as))
theorem saysA {as : List Addr} {fa : List He.Fa} {fn : List He.DefD} {tf : List He.Defn} {ex : PySem.W.Frag → Bool} {w : World} {h : Heap} (e : obsA as fa fn tf ex h.get? = He.valX fn [] w) : He.SaysX fa fn [] tf ex w h (He.frT h.get? as) := by
  have e2 : (ex (He.frT h.get? as) && He.tabsB h.get? tf (He.frT h.get? as)) = true := congrArg (fun z : He.AlX => z.2) e
  obtain ⟨m1, m2⟩ := Bool.and_eq_true_iff.mp e2
  have one : ∀ p ∈ tf, PySem.W.codeHdIn (He.frT h.get? as) (He.cT (He.frT h.get? as) p).1 (He.cT (He.frT h.get? as) p).2 = true ∧ ∃ o, h.get? (He.cT (He.frT h.get? as) p).2 = some o ∧ He.emptyTab o = true := fun p hp => by
    obtain ⟨a, b⟩ := Bool.and_eq_true_iff.mp (List.all_eq_true.mp m2 p hp)
    refine ⟨a, ?_⟩
    cases q : h.get? (He.cT (He.frT h.get? as) p).2 with
    | none => rw [q] at b; cases b
    | some o => rw [q] at b; exact ⟨o, rfl, b⟩
  refine ⟨congrArg (fun z : He.AlX => z.1) e, m1, fun p m => (one p m).1, fun p m => ?_, fun p m => ?_⟩
  · obtain ⟨_, o, a, b⟩ := one p m
    exact He.frT_none a b
  · obtain ⟨_, o, a, b⟩ := one p m
    rw [a, He.emptyTab_eq b]
def hookA (as : List Addr) (fa : List He.Fa) (fn : List He.DefD) (tf : List He.Defn) (ex : PySem.W.Frag → Bool) : PySem.W.Hook where
  α := He.AlX
  obs := fun s => obsA as fa fn tf ex s.heap.get?
  val := fun w => He.valX fn [] w
  says := fun w h => ∃ K : PySem.W.Frag, K.In h ∧ He.SaysX fa fn [] tf ex w h K
  of := fun _ _ e => ⟨_, He.frT_in, saysA e⟩
  keeps := fun _ _ _ ⟨K, hK, c⟩ k => ⟨K, PySem.W.Frag.In.keeps hK k, c.t, c.more, c.hd, c.out, fun p m => k _ _ (c.empty p m)⟩
theorem obsA_eq {as : List Addr} {fa : List He.Fa} {fn : List He.DefD} {tf : List He.Defn} {ex : PySem.W.Frag → Bool} {g : Addr → Option Obj} {s : Shared} (h : ∀ a, g a = s.heap.get? a) : obsA as fa fn tf ex g = (hookA as fa fn tf ex).obs s := by
  rw [funext h]
  rfl
section
open HandSHeadRun PySem.W
theorem run_parts {r : OpenRow} {q : Program} {as : List Addr} {fa : List He.Fa} {fn : List He.DefD} {tf : List He.Defn} {ex : PySem.W.Frag → Bool} {M : Nat} {loose : List PySem.Str}
    (h1 : ∀ w os, ((endF (stepQ (denQ tabQ) r.prog w) M r.prog w os).map fun s => (looksF r.prog (boot_heap w.params) s.abs, seenQ q loose (importedModules r.prog.main.body) (fun s => xlAt q [] s && recOk r.toRowW.records s) s.abs)) = some (true, openGood q loose))
    (h2 : ∀ w os, ((endF (stepQ (denQ tabQ) r.prog w) M r.prog w os).map fun s => fa.all fun f => f.ok (He.frT (getT s) as)) = some true)
    (h3 : ∀ w os, ((endF (stepQ (denQ tabQ) r.prog w) M r.prog w os).map fun s => ((fn.all fun d => d.ok (He.frT (getT s) as)), (fn.map fun d => He.fnW (He.frT (getT s) as) d.at_), ex (He.frT (getT s) as) && He.tabsB (getT s) tf (He.frT (getT s) as))) = some (true, fn.map He.DefD.val, true))
    (w : World) : RunEq r q (hookA as fa fn tf ex) (fun s => obsA as fa fn tf ex (getT s)) M loose w := fun os => by
  have a1 := h1 w os
  have a2 := h2 w os
  have a3 := h3 w os
  cases e : endF (stepQ (denQ tabQ) r.prog w) M r.prog w os with
  | none => rw [e] at a1; cases a1
  | some s =>
    rw [e] at a1 a2 a3
    have b1 := Option.some.inj a1
    have b2 : (fa.all fun f => f.ok (He.frT (getT s) as)) = true := Option.some.inj a2
    have b3 := Option.some.inj a3
    rw [Prod.mk.injEq] at b1
    rw [Prod.mk.injEq, Prod.mk.injEq] at b3
    obtain ⟨c1, c2⟩ := b1
    obtain ⟨c3, c4, c5⟩ := b3
    refine congrArg some (Prod.ext c1 (Prod.ext c2 ?_))
    show obsA as fa fn tf ex (getT s) = He.valX fn [] w
    unfold obsA He.obsT He.obsD
    rw [b2, c3, c4, c5]
    rfl
end
end Bk

set_option maxHeartbeats 0
namespace Bk
open PySem PySem.Spec PyProof.Rows L2
def gd (x : Str) (st : Stmt) : He.DefD := ⟨(x, none), x, x, defArgs st, defBody st, defScope st, [], []⟩
def md (c m q : Str) (st : Stmt) (kws : List (Str × He.Dv)) : He.DefD := ⟨(c, some m), m, q, defArgs st, defBody st, defScope st, [], kws⟩
def mdd (c m q : Str) (st : Stmt) (dfl : List He.Dv) : He.DefD := ⟨(c, some m), m, q, defArgs st, defBody st, defScope st, dfl, []⟩
def fnL : List He.DefD := [gd "is_integer" (topS 18), gd "is_list" (topS 19), gd "is_name" (topS 20), gd "greatest_divisor" (topS 21), gd "fraction" (topS 22), gd "size_of" (topS 23), gd "plus" (topS 24), gd "times" (topS 25), gd "sum_of" (topS 27), gd "first_wrong" (topS 33), gd "choices" (topS 34), gd "choices_of" (topS 35), gd "rows_of_neighbours" (topS 36), gd "lot_of" (topS 37), gd "by_lots" (topS 41), gd "numbers_by_lots" (topS 46), gd "place_in" (topS 60), gd "is_end" (topS 61), gd "ends_of" (topS 62), gd "read" (topS 73), gd "line_of_size" (topS 74), gd "line_of_telling" (topS 75), gd "head_told" (topS 76), gd "store_told" (topS 77), gd "book_told" (topS 78), gd "size_told" (topS 79), gd "telling_told" (topS 80), gd "weights_told" (topS 81), gd "integer_told" (topS 82), gd "_law_start" (topS 84), gd "_law_draw" (topS 85), gd "_law_pick" (topS 86), gd "_law_same" (topS 87), gd "_law_bad_heads" (topS 88), gd "_law_bad_store_lines" (topS 89), gd "_law_bad_book_lines" (topS 90), gd "_law_tried" (topS 91), gd "_law_are_refused" (topS 92), gd "law" (topS 93), md "BadFolders" "__init__" "BadFolders.__init__" (inClass (topS 3) 0) [], md "BadText" "__init__" "BadText.__init__" (inClass (topS 13) 0) [], md "Folders" "__init__" "Folders.__init__" (inClass (topS 32) 0) [("chain", .bl false)], md "Folders" "__len__" "Folders.__len__" (inClass (topS 32) 1) [], md "Folders" "__eq__" "Folders.__eq__" (inClass (topS 32) 3) [], mdd "Question" "__init__" "Question.__init__" (inClass (topS 45) 0) [.non], md "Question" "__eq__" "Question.__eq__" (inClass (topS 45) 1) [], md "Question" "counts" "Question.counts" (inClass (topS 45) 9) [], mdd "Store" "__init__" "Store.__init__" (inClass (topS 40) 0) [.non], md "Book" "__init__" "Book.__init__" (inClass (topS 59) 0) [], md "Book" "__setitem__" "Book.__setitem__" (inClass (topS 59) 2) [], md "Book" "__contains__" "Book.__contains__" (inClass (topS 59) 4) []]
def faL : List He.Fa := [.glo "is_integer", .glo "is_list", .glo "is_name", .glo "greatest_divisor", .glo "fraction", .glo "size_of", .glo "plus", .glo "times", .glo "sum_of", .glo "first_wrong", .glo "choices", .glo "choices_of", .glo "rows_of_neighbours", .glo "lot_of", .glo "by_lots", .glo "numbers_by_lots", .glo "place_in", .glo "is_end", .glo "ends_of", .glo "read", .glo "line_of_size", .glo "line_of_telling", .glo "head_told", .glo "store_told", .glo "book_told", .glo "size_told", .glo "telling_told", .glo "weights_told", .glo "integer_told", .glo "_law_start", .glo "_law_draw", .glo "_law_pick", .glo "_law_same", .glo "_law_bad_heads", .glo "_law_bad_store_lines", .glo "_law_bad_book_lines", .glo "_law_tried", .glo "_law_are_refused", .glo "law", .glo "BadFolders", .glo "BadText", .glo "Folders", .glo "Question", .glo "Store", .glo "Book", .glo "NOTHING", .str "LETTERS" "abcdefghijklmnopqrstuvwxyz", .int "LONGEST_NAME" 8, .int "MOST_FOLDERS" 5, .int "MOST_IN_CHAIN" 12, .str "FIGURES" "0123456789", .meth "BadFolders" "__init__", .noat "BadFolders" "index", .exm "BadFolders" "BadFolders" true, .meth "BadText" "__init__", .noat "BadText" "line", .exm "BadText" "BadText" true, .cls "Folders", .noat "Folders" "names", .noat "Folders" "chain", .noat "Folders" "places", .mkr "Folders", .meth "Folders" "__len__", .meth "Folders" "__eq__", .cls "Question", .noat "Question" "folders", .noat "Question" "table", .mkr "Question", .meth "Question" "__eq__", .meth "Question" "counts", .cls "Store", .noat "Store" "folders", .noat "Store" "table", .mkr "Store", .cls "Book", .noat "Book" "folders", .noat "Book" "questions", .noat "Book" "ends", .mkr "Book", .meth "Book" "__setitem__", .meth "Book" "__contains__", .free "len", .free "list", .free "tuple", .free "isinstance", .free "all", .free "any", .free "zip", .free "enumerate", .free "range", .free "int", .free "str", .free "bool", .free "dict", .free "abs"]

def exL (K : PySem.W.Frag) : Bool := errB K (He.ga K "BadFolders") (He.ma K (He.ga K "BadFolders") "__init__") && (errB K (He.ga K "BadText") (He.ma K (He.ga K "BadText") "__init__") && (insB K (He.ga K "Folders") && (insB K (He.ga K "Question") && (insB K (He.ga K "Store") && (insB K (He.ga K "Book") && (eqCls K (He.ga K "Folders") (He.ma K (He.ga K "Folders") "__eq__") && (decide (PySem.W.kitOne K (.ref (He.ga K "Folders")) (.ref (He.ga K "Folders")) = some true) && (decide (PySem.W.kitOne K (.type "str") (.ref (He.ga K "Folders")) = some false) && (decide (PySem.W.subIn K (.ref (He.ga K "Folders")) (.type "str") = some false) && (PySem.W.notFirst K (He.ga K "Folders") (.ref (He.ga K "Folders")) && (eqCls K (He.ga K "Question") (He.ma K (He.ga K "Question") "__eq__") && (decide (PySem.W.kitOne K (.ref (He.ga K "Question")) (.ref (He.ga K "Question")) = some true) && (PySem.W.notFirst K (He.ga K "Question") (.ref (He.ga K "Question")) && (pairB K (He.ga K "NOTHING") && (PySem.W.noSeq K (He.ga K "Book"))))))))))))))))
abbrev RowL : PySem.W.OpenRow := PySem.W.OpenLaw.row PySem.Challenge.rw_blockshares_k55_texts_refused
abbrev lsL : List Str := "_wall" :: "__name__" :: "ShareError" :: "BadFolders" :: "BadLot" :: "BadSize" :: "BadNumber" :: "NoFolder" :: "Taken" :: "UnlikeFolders" :: "BadTelling" :: "NotTold" :: "Wrong" :: "BadText" :: "LETTERS" :: "LONGEST_NAME" :: "NOTHING" :: "is_integer" :: "is_list" :: "is_name" :: "greatest_divisor" :: "fraction" :: "size_of" :: "plus" :: "times" :: "is_less" :: "sum_of" :: "shortened" :: "MOST_FOLDERS" :: "MOST_IN_CHAIN" :: "Folders" :: "first_wrong" :: "choices" :: "choices_of" :: "rows_of_neighbours" :: "lot_of" :: "check_named" :: "Store" :: "by_lots" :: "sizes_seen" :: "check_names" :: "Question" :: "numbers_by_lots" :: "row_of" :: "added" :: "first_more" :: "Step" :: "Tableau" :: "cleared" :: "greatest_in" :: "least_in" :: "is_settled_in" :: "Bound" :: "Book" :: "place_in" :: "is_end" :: "ends_of" :: "check_about" :: "places_of" :: "questions_at" :: "tableau_of" :: "settled_tableau" :: "aimed_at" :: "bound_of" :: "store_with" :: "FIGURES" :: "read" :: "line_of_size" :: "line_of_telling" :: "head_told" :: "store_told" :: "book_told" :: "size_told" :: "telling_told" :: "weights_told" :: "integer_told" :: "_law_start" :: "_law_draw" :: "_law_pick" :: "_law_same" :: "_law_bad_heads" :: "_law_bad_store_lines" :: "_law_bad_book_lines" :: "_law_tried" :: "_law_are_refused" :: []
def asL : List Addr := [3, 6, 4, 21, 31, 51, 234, 237, 244, 251, 256, 263, 270, 277, 284, 291, 305, 354, 365, 370, 375, 380, 385, 544, 555, 649, 660, 1023, 1034, 1041, 1048, 1103, 1110, 1115, 1122, 1129, 1136, 1143, 1150, 1157, 1162, 1169, 1176, 1183, 1188, 1195, 1202, 1209, 1216, 1223, 1230, 0, 20, 30, 50, 233, 243, 250, 255, 262, 269, 276, 283, 290, 304, 353, 364, 369, 374, 379, 384, 543, 554, 648, 659, 1022, 1033, 1040, 1047, 1102, 1109, 1114, 1121, 1128, 1135, 1142, 1149, 1156, 1161, 1168, 1175, 1182, 1187, 1194, 1201, 1208, 1215, 1222, 1229, 15, 16, 17, 18, 19, 29, 32, 48, 49, 231, 232, 238, 239, 240, 241, 242, 245, 246, 247, 248, 249, 252, 253, 254, 257, 258, 259, 260, 261, 264, 265, 266, 267, 268, 271, 272, 273, 274, 275, 278, 279, 280, 281, 282, 285, 286, 287, 288, 289, 299, 300, 301, 302, 303, 323, 330, 337, 344, 351, 352, 355, 356, 359, 360, 361, 362, 363, 366, 367, 368, 371, 372, 373, 376, 377, 378, 381, 382, 383, 405, 414, 420, 427, 434, 441, 448, 455, 460, 465, 470, 477, 484, 489, 494, 499, 506, 513, 520, 527, 534, 541, 542, 545, 546, 549, 550, 551, 552, 553, 580, 587, 594, 601, 608, 615, 620, 627, 634, 639, 646, 647, 650, 651, 654, 655, 656, 657, 658, 896, 903, 910, 917, 924, 931, 936, 943, 950, 957, 964, 971, 978, 985, 992, 999, 1006, 1013, 1020, 1021, 1024, 1025, 1028, 1029, 1030, 1031, 1032, 1035, 1036, 1037, 1038, 1039, 1042, 1043, 1044, 1045, 1046, 1097, 1098, 1099, 1100, 1101, 1104, 1105, 1106, 1107, 1108, 1111, 1112, 1113, 1116, 1117, 1118, 1119, 1120, 1123, 1124, 1125, 1126, 1127, 1130, 1131, 1132, 1133, 1134, 1137, 1138, 1139, 1140, 1141, 1144, 1145, 1146, 1147, 1148, 1151, 1152, 1153, 1154, 1155, 1158, 1159, 1160, 1163, 1164, 1165, 1166, 1167, 1170, 1171, 1172, 1173, 1174, 1177, 1178, 1179, 1180, 1181, 1184, 1185, 1186, 1189, 1190, 1191, 1192, 1193, 1196, 1197, 1198, 1199, 1200, 1203, 1204, 1205, 1206, 1207, 1210, 1211, 1212, 1213, 1214, 1217, 1218, 1219, 1220, 1221, 1224, 1225, 1226, 1227, 1228, 47, 230, 322, 318, 329, 336, 343, 350, 404, 400, 412, 413, 419, 426, 433, 440, 447, 454, 459, 464, 469, 476, 483, 488, 493, 498, 505, 512, 519, 526, 533, 540, 579, 575, 586, 593, 600, 607, 614, 619, 626, 633, 638, 645, 895, 902, 909, 916, 923, 930, 935, 942, 949, 956, 963, 970, 977, 984, 991, 998, 1005, 1012, 1019]
abbrev hkL : PySem.W.Hook := hookA asL faL fnL [] exL
def obL (s : PySem.W.SharedT) : He.AlX := obsA asL faL fnL [] exL (HandSHeadRun.getT s)
theorem obL_eq (s : PySem.W.SharedT) : obL s = hkL.obs s.abs := obsA_eq (HandSHeadRun.getT_eq s)
section
open HandSHeadRun PySem.W
theorem run1 (w : World) (os : OsState) : ((endF (stepQ (denQ tabQ) RowL.prog w) 13000 RowL.prog w os).map fun s => (looksF RowL.prog (boot_heap w.params) s.abs, seenQ (PySem.W.view RowL.prog [93]) lsL (importedModules RowL.prog.main.body) (fun s => xlAt (PySem.W.view RowL.prog [93]) [] s && recOk RowL.toRowW.records s) s.abs)) = some (true, openGood (PySem.W.view RowL.prog [93]) lsL) := by
  kernel_rfl
theorem run2 (w : World) (os : OsState) : ((endF (stepQ (denQ tabQ) RowL.prog w) 13000 RowL.prog w os).map fun s => faL.all fun f => f.ok (He.frT (getT s) asL)) = some true := by
  kernel_rfl
theorem run3 (w : World) (os : OsState) : ((endF (stepQ (denQ tabQ) RowL.prog w) 13000 RowL.prog w os).map fun s => ((fnL.all fun d => d.ok (He.frT (getT s) asL)), (fnL.map fun d => He.fnW (He.frT (getT s) asL) d.at_), exL (He.frT (getT s) asL) && He.tabsB (getT s) [] (He.frT (getT s) asL))) = some (true, fnL.map He.DefD.val, true) := by
  kernel_rfl
theorem runL (w : World) : RunEq RowL (PySem.W.view RowL.prog [93]) hkL obL 13000 lsL w := run_parts run1 run2 run3 w
end
end Bk

set_option maxHeartbeats 2000000
/-! enumerate over a tuple, in a for or a comprehension: my own rule beside the layer's for lists -/
namespace Bk
open PySem PySem.Spec PyProof.Rows L2
theorem two_le {b n : Nat} (hb : b ∈ [n + 1, n]) : n ≤ b := by
  simp at hb
  omega
/-- a new enumerate object over the iterator at p -/
abbrev enumO (p : Addr) : Obj := { cls := .type "enumerate", data := .fields #[.none, .bool false, .ref p, rawInt 0, .none, .none] }
theorem meets_enum1 {v : Value} {o : Obj} {G : Heap → Prop} (B : Begins v o G) :
    Meets (Builtin.«enumerate.__new__» ⟨[.type "enumerate", v], []⟩) (fun _ R s => G s.heap ∧ R (.ok (.ret (.ref (s.heap.push o).objs.size))) { s with heap := (s.heap.push o).push (enumO s.heap.objs.size) }) := by
  refine .of_wp fun prog w A R s hh => ?_
  obtain ⟨hp, gs, dr, tk, os⟩ := s
  obtain ⟨hG, hR⟩ := hh
  have sb := sub_enumerate
  have it1 : ∀ {A1 : Around} {E1 Q1 : Value → Shared → Prop}, Q1 (.ref hp.objs.size) ⟨hp.push o, gs, dr, tk, os⟩ → wpAny (model prog w) A1 (pyIter v) Q1 E1 ⟨hp, gs, dr, tk, os⟩ := fun z => B.iter prog w _ _ ⟨hp, gs, dr, tk, os⟩ _ hG z
  wp_walk using it1
  refine wpAny_stack_any fun st => wpAny_pure ?_
  split
  · rename_i c _ _ _ _ _
    cases (c == Value.type "enumerate") <;> (wp_walk using it1; exact ⟨_, rfl, hR⟩)
  · wp_walk using it1
    exact ⟨_, rfl, hR⟩
theorem call_enum1 {prog : Program} {w : World} {A : Around} {E : Value → Shared → Prop} {s : Shared} {v : Value} {o : Obj} {G : Heap → Prop} {Q : Value → Shared → Prop} (B : Begins v o G) (hG : G s.heap)
    (h : Q (.ref (s.heap.objs.size + 1)) { s with heap := (s.heap.push o).push (enumO s.heap.objs.size) }) : wpAny (model prog w) A (call (.type "enumerate") [v]) Q E s := by
  refine callType_new F.called_enumerate (by decide) (F.typeCall_enumerate_1 _) (F.newCall_enumerate_1 _) (fun obj => F.args_object_init_2 obj _) F.entry_enumerate_new (meets_enum1 B) ⟨hG, ?_⟩
  have hz : (s.heap.push o).objs.size = s.heap.objs.size + 1 := Heap.size_push ..
  show _ ∧ _
  rw [hz]
  exact ⟨⟨_, by rw [← hz]; exact Heap.get?_push_size _ rfl, rfl⟩, h⟩
/-- the tuple at a as it stands at each turn, each item in a new pair -/
def IteT (K : PySem.W.Frag) (a : Addr) : It :=
  ⟨fun i H => ∃ (xs : List V) (x : V), SqT K H a xs ∧ xs[i]? = some x,
    fun i H v H' => ∃ T x, v = .ref T ∧ H T = none ∧ H' = upd H T (.tup [.int (i : Nat), x]) ∧ ∀ xs, SqT K H a xs → xs[i]? = some x,
    fun i H => ∃ xs : List V, SqT K H a xs ∧ xs.length = i⟩
theorem tup_iter_ne {h : Heap} {a it : Addr} {its : Array Value} {i : Nat} (t : h.IsTuple a its) (u : h.IsTupleIter it a i) : a ≠ it := by
  rintro rfl
  obtain ⟨o, e, c, _⟩ := t
  obtain ⟨o', e', c', _⟩ := u
  rw [e] at e'
  cases e'
  rw [c] at c'
  exact absurd c' (by decide)
theorem turn_enumT {P : Program} {w : World} {K : PySem.W.Frag} {elts : List Expr} {kk : Nat} {tpos : Pos} (a e it : Addr) :
    Turn P w K (.Tuple elts kk tpos) (IteT K a) [e, it] e (fun i h => (∃ old, IsEnum h e it ((i : Nat) : Int) old) ∧ h.IsTupleIter it a i ∧ e ≠ it) where
  mem := List.mem_cons_self
  obj := fun i h st b hb => by
    obtain ⟨⟨old, he⟩, ⟨o, ho, hc, hd⟩, _⟩ := st
    rcases List.mem_cons.mp hb with rfl | hb
    · exact ⟨_, he, fun v q => nomatch q⟩
    · obtain rfl := List.mem_singleton.mp hb
      exact ⟨o, ho, fun v q => by rw [hd] at q; cases q⟩
  keep := fun i h h' st k => ⟨st.1.imp fun old he => k e List.mem_cons_self _ he, st.2.1.at fun o q => k it (List.mem_cons_of_mem _ List.mem_cons_self) o q, st.2.2⟩
  item := by
    rintro X rfl rfl rfl hc i pins s σ H E I hf ⟨⟨old, he⟩, hit, hne⟩ ⟨xs, x, hq, hx⟩
    obtain ⟨its, rv, p, hz⟩ := I.tuple hq
    have p' : s.heap.IsTuple a its.toArray := p
    have hai := tup_iter_ne p' hit
    have hl : i < its.toArray.size := by
      have l1 := rv.length
      have l2 := (List.getElem?_eq_some_iff.mp hx).1
      simp only [List.size_toArray]
      omega
    have hea : e ≠ a := by
      rintro rfl
      obtain ⟨o, e1, c, _⟩ := p'
      rw [show s.heap.get? e = _ from he] at e1
      obtain rfl := Option.some.inj e1
      exact absurd c (show ¬ Value.type "enumerate" = Value.type "tuple" by decide)
    have D := Draws.tuple (prog := X.prog) (w := X.w) (A := X.A.in1) (I.ok.hd hc) it a hai its.toArray
    refine wpAny_pyNext_enum_itemD D he ⟨hit, p'⟩ hl hne (by simp [hne, hea]) fun u h' tk hu ho st' hT hsz hk => ?_
    have ru : RelV x u := by
      obtain ⟨u', hu', ru⟩ := rv.get hx
      have : its[i]? = some u := by simpa using hu
      rw [hu'] at this
      cases this
      exact ru
    have hel : e < s.heap.objs.size := Heap.lt_size he
    have hil : it < s.heap.objs.size := by
      obtain ⟨_, q, _⟩ := hit
      exact Heap.lt_size q
    refine ⟨_, rfl, wpAny_letOwnedTupleGo_enum (s := { s with heap := h', toks := tk + 1 }) ho fun h2 he2 sb => ?_⟩
    have hT2 : h2.get? s.heap.objs.size = some { cls := .type "tuple", data := .seq #[.int i tk, u] } := (sb.2 _ (Nat.ne_of_gt hel)).trans hT
    have new : ObjOk X.prog X.w (upd H s.heap.objs.size (.tup [.int (i : Nat), x])) h2 s.heap.objs.size (.tup [.int (i : Nat), x]) :=
      ⟨by show 2 ≤ sizeLine; decide, [.int i tk, u], .cons ⟨_, rfl⟩ (.cons ru .nil), ⟨_, hT2, rfl, _, rfl⟩⟩
    have I1 := I.turnedNew (t' := tk + 1) (ch := [e, it]) (fun b ob hb q => (sb.2 b (fun z => hb (by simp [z]))).trans (hk b ob (fun z => hb (by simp [z])) (fun z => hb (by simp [z])) q)) hf (Nat.le_refl _) new
    refine ⟨.ref s.heap.objs.size, _, I1, rfl, ⟨_, x, rfl, I.hok.fresh (Nat.le_refl _), rfl, fun ys hy => by rw [I.tuple_inj hy hq]; exact hx⟩, ⟨⟨u, ?_⟩, st'.1.at fun o q => (sb.2 it (Ne.symm hne)).trans q, hne⟩, fun b hb => ?_⟩
    · rw [show ((i + 1 : Nat) : Int) = (i : Int) + 1 by omega]
      exact he2
    · have hlt : b < s.heap.objs.size := by
        rcases List.mem_cons.mp hb with rfl | hb
        · exact hel
        · rw [List.mem_singleton.mp hb]
          exact hil
      rw [upd_ne (Nat.ne_of_lt hlt)]
      exact (hf b hb).1
  done := by
    rintro X rfl rfl rfl hc i pins s σ H E I hf ⟨⟨old, he⟩, hit, hne⟩ ⟨xs, hq, hx⟩
    obtain ⟨its, rv, p, hz⟩ := I.tuple hq
    have p' : s.heap.IsTuple a its.toArray := p
    obtain ⟨f0, f1, f2, f3, f4, f5⟩ := hf it (List.mem_cons_of_mem _ List.mem_cons_self)
    have l1 := rv.length
    have en : i = its.toArray.size := by
      simp only [List.size_toArray]
      omega
    have hit' : s.heap.IsTupleIter it a its.toArray.size := en ▸ hit
    have D := Draws.tuple (prog := X.prog) (w := X.w) (A := X.A.in1) (I.ok.hd hc) it a (tup_iter_ne p' hit) its.toArray
    exact wpAny_pyNext_enum_endD D he ⟨hit', p'⟩ fun h' eb => ⟨rfl, I.turned (t' := s.toks) (fun b o hb q => eb b o hb q) f0 f1 f3 f4 f5⟩
  self := fun A i s Q E st h => wpAny_pyIter_enum st.1.choose_spec h
/-- enumerate(xs), xs a list or a tuple -/
def iEnS (K : PySem.W.Frag) (ta : TA) : TI := fun σ H R => ta σ H fun vs H1 => ∃ a, vs = [.ref a] ∧ ((∃ xs, SqL K H1 a xs ∧ R (Ite K a) H1) ∨ (∃ xs, SqT K H1 a xs ∧ R (IteT K a) H1))
theorem pi_enS {X : Cx} {e : Expr} {ta : TA} {p pos tpos : Pos} {elts : List Expr} {kk : Nat} (hg : Gl X "enumerate") (hm : X.mg "enumerate" = none) (ha : PA X [e] ta) (hs : starEach [e] X.env = [(false, eval e X.env)] := by rfl) :
    PI X (.Tuple elts kk tpos) (.Call (.Name "enumerate" p) [e] [] pos) (iEnS X.K ta) := by
  refine ⟨fun pins s σ H R I h => Call_ (ld_blt I hg hm boot_enumerate (PyProof.Rows.callWith_type1 (thn (ha.run pos pins s σ H _ I h) fun us s1 ⟨vs, H1, I1, r1, a, ev, q⟩ => ?_) hs rfl))⟩
  subst ev
  obtain ⟨u, rfl, r⟩ : ∃ u, us = [u] ∧ RelV (.ref a) u := by
    cases r1 with
    | cons r rr => cases rr; exact ⟨_, rfl, r⟩
  cases (show u = Value.ref a from r)
  rcases q with ⟨xs, hq, q⟩ | ⟨xs, hq, q⟩
  · obtain ⟨its, rv, p', hz⟩ := I1.list hq
    refine call_enumerate_list p'.isList fun h' he hit hsz hk => wpAny_pyIter_enum he ?_
    have I2 : Inv X pins σ H1 { s1 with heap := h' } := I1.kept (t' := s1.toks) hk
    refine ⟨s1.heap.objs.size + 1, [s1.heap.objs.size + 1, s1.heap.objs.size], _, _, H1, rfl, I2, turn_enum a _ s1.heap.objs.size, ⟨⟨.none, he⟩, hit, Nat.succ_ne_self _⟩, fun b hb => ?_, q⟩
    have hle : s1.heap.objs.size ≤ b := two_le hb
    exact I1.fpOk hle (I1.hok.fresh hle)
  · obtain ⟨its, rv, p', hz⟩ := I1.tuple hq
    have pt : s1.heap.IsTuple a its.toArray := p'
    generalize ho : ({ cls := .type "tuple_iterator", data := .fields #[.ref a, .int 0 0] } : Obj) = oi
    have hz1 : (s1.heap.push oi).objs.size = s1.heap.objs.size + 1 := Heap.size_push ..
    have kk1 : ∀ b o, s1.heap.get? b = some o → ((s1.heap.push oi).push (enumO s1.heap.objs.size)).get? b = some o := fun b o x => Heap.get?_push_of_some _ (Heap.get?_push_of_some _ x)
    have he : IsEnum ((s1.heap.push oi).push (enumO s1.heap.objs.size)) (s1.heap.objs.size + 1) s1.heap.objs.size ((0 : Nat) : Int) .none := by
      rw [← hz1]
      exact Heap.get?_push_size _ rfl
    have hit : ((s1.heap.push oi).push (enumO s1.heap.objs.size)).IsTupleIter s1.heap.objs.size a 0 := by
      refine ⟨oi, Heap.get?_push_of_some _ (Heap.get?_push_size _ (by rw [← ho]; rfl)), ?_, ?_⟩ <;> rw [← ho] <;> rfl
    have I2 : Inv X pins σ H1 { s1 with heap := (s1.heap.push oi).push (enumO s1.heap.objs.size) } := I1.kept (t' := s1.toks) kk1
    refine call_enum1 (o := oi) (ho ▸ begins_tuple a its.toArray) pt (wpAny_pyIter_enum he ?_)
    refine ⟨s1.heap.objs.size + 1, [s1.heap.objs.size + 1, s1.heap.objs.size], _, _, H1, rfl, I2, turn_enumT a _ s1.heap.objs.size, ⟨⟨.none, he⟩, hit, Nat.succ_ne_self _⟩, fun b hb => ?_, q⟩
    have hle : s1.heap.objs.size ≤ b := two_le hb
    exact I1.fpOk hle (I1.hok.fresh hle)
end Bk

/-! a dict comprehension whose keys are tuples (of ints and texts): beside the layer's, whose keys are ints and texts -/
namespace Bk
open PySem PySem.Spec PyProof.Rows L2
/-- a comprehension's store, by a key that is a tuple -/
theorem put_tup {X : Cx} {pins : List (Addr × Obj)} {σ : L2.St} {H : Hp} {s : Shared} {E : Value → Shared → Prop} {D b : Addr} {kvs : List (List Key × V)} {k : List Key} {v : V} {u r : Value} {Q : Unit → Shared → Prop} (hu : X.A.units < cLine) (I : Inv X pins σ H s)
    (hD : H D = some (.dT kvs)) (hz : kvs.length < sizeLine) (hb : H b = some (.tup (k.map kV))) (ry : RelV (.ref b) u) (rv : RelV v r) (h : ∀ s', Inv X pins σ (upd H D (.dT (putK kvs k v))) s' → Q () s') : wpAny (model X.prog X.w) X.A (dictSet D u r) Q E s := by
  cases (show u = Value.ref b from ry)
  obtain ⟨z, hd, xs, rel, dd⟩ := dt_of I.hok hD
  have len1 : xs.length ≤ sizeLine := (Paired.length rel) ▸ z
  have len2 := length_putK kvs k v
  refine wpAny_dictSet_heap (hsz := len1) (knd := tupleKind (mixKind X.prog X.w)) hu (key_of I.hok hb) dd fun h' dd' same => h _ ?_
  obtain ⟨q, es, ep, hq, h2, h3, h4, _, h5⟩ := dd'
  refine d_write I (by rw [hD]; exact True.intro) same ⟨q, hq⟩ ⟨by omega, hd, _, (rel.put k hb rv).keeps fun c ys ec => ?_, q, es, ep, hq, h2, h3, h4, h5⟩
  rwa [upd_ne (ne_of ec hD (fun z => nomatch z))]
section
variable {X : Cx}
/-- {k: v for target in iter}, the keys tuples: D the new dict -/
def tDcT (wi : TI) (g : TG) (tk tv : TE) (vs : List Nat) : TE := fun σ H Q => wi σ H fun J H1 => ∀ D, H1 D = none → ∃ W : Nat → Nat → Hp → Prop, (∃ m, W 0 m (upd H1 D (.dT []))) ∧ ∀ i m H, W i m H →
  (J.stop i H ∧ Q (.ref D) H) ∨ (J.go i H ∧ ∃ Nx : Hp → Prop, (∀ H', Nx H' → ∃ m', m' < m ∧ W (i + 1) m' H') ∧ ∀ x H', J.yld i H x H' → g x (wipe σ vs) H' fun σ2 H2 => wipe σ2 vs = wipe σ vs ∧
    tk σ2 H2 fun y H4 => tv σ2 H4 fun z H5 => ∃ kvs k b, y = .ref b ∧ H5 b = some (.tup (k.map kV)) ∧ H5 D = some (.dT kvs) ∧ kvs.length < sizeLine ∧ Nx (upd H5 D (.dT (putK kvs k z))))
theorem pe_dcT {kx vx tg iter : Expr} {scope : Scope} {own : List (Str × Nat)} {pos : Pos} {wi : TI} {g : TG} {tk tv : TE} (hu : X.A.units < cLine) (hc : X.calm = true) (hN : X.N.Nodup) (hi : PI X tg iter wi) (ok : BlkOk X.N X.env.scope scope own)
    (hg : ∀ (s : Shared) (H : Hp) (C : Addr) (cl : List (Str × Addr)) (fp : List Addr), PG (X.blk s H scope (compEnvC scope cl C X.env) fp) tg g)
    (hk : ∀ (s : Shared) (H : Hp) (C : Addr) (cl : List (Str × Addr)) (fp : List Addr), PE (X.blk s H scope (compEnvC scope cl C X.env) fp) kx tk)
    (he : ∀ (s : Shared) (H : Hp) (C : Addr) (cl : List (Str × Addr)) (fp : List Addr), PE (X.blk s H scope (compEnvC scope cl C X.env) fp) vx tv) (hs : ∀ x, foldedSetIterable iter X.env x = pure x := by intro _; rfl) :
    PE X (.DictComp kx vx [⟨tg, iter, [], 0⟩] scope pos) (tDcT wi g tk tv (own.map (·.2))) := by
  refine ⟨fun pins s σ H Q I h => ?_⟩
  rw [arm_eval_DictComp]
  have fr : ∀ y ∈ scope.names, y.2 = .free → ∃ c, X.env.cells.lookup y.1 = some c := fun y hy e => (ok.free y hy e).elim (fun k => I.ok.has _ (.inl k)) fun k => I.ok.has _ (.inr k)
  refine wpAny_comprehension_free rfl hs (closure_ok fr) ok.kind (fun y hy e => by rw [ok.uniq y hy, e]) (thn (hi.run pins s σ H _ I h) fun xv s1 hx => thn hx fun itv s2 h2 => ?_)
  obtain ⟨it, fp, tn, J, H2, rfl, I2, T, st2, f2, q⟩ := h2
  refine wpAny_newObj_type (newEnv_comp ?_)
  -- the new dict stands at D
  obtain ⟨D, hD⟩ : ∃ D, D = s2.heap.objs.size := ⟨_, rfl⟩
  obtain ⟨W, ⟨m0, w0⟩, turn⟩ := q D (I2.hok.fresh (Nat.le_of_eq hD.symm))
  obtain ⟨s3, hs3⟩ : ∃ s3 : Shared, s3 = { s2 with heap := s2.heap.push { cls := .type "dict", data := .dict #[] } } := ⟨_, rfl⟩
  have hh3 : s3.heap = s2.heap.push { cls := .type "dict", data := .dict #[] } := by rw [hs3]
  have k3 : ∀ b o, s2.heap.get? b = some o → s3.heap.get? b = some o := fun b o e => by rw [hh3]; exact Heap.get?_push_of_some _ e
  have I3 : Inv X pins σ (upd H2 D (.dT [])) s3 := by
    subst hs3 hD
    exact I2.laid (t' := s2.toks) (fun b o e => Heap.get?_push_of_some _ e) (Nat.le_refl _) (dt_empty s2.heap I2.big)
  have young : ∀ b ∈ fp, b < s2.heap.objs.size := fun b hb => (T.obj _ _ st2 b hb).elim fun o e => Heap.lt_size e.1
  have f3 : ∀ b ∈ fp, FpOk X pins (upd H2 D (.dT [])) b ∧ b < s3.heap.objs.size := fun b hb => by
    refine ⟨⟨?_, (f2 b hb).2⟩, by rw [hh3, Heap.size_push]; exact Nat.lt_succ_of_lt (young b hb)⟩
    rw [upd_ne (by rw [hD]; exact Nat.ne_of_lt (young b hb))]
    exact (f2 b hb).1
  have st3 : tn 0 s3.heap := T.keep _ _ _ st2 fun b _ => k3 b
  rw [← hs3]
  obtain ⟨H3, hH3⟩ : ∃ H3, H3 = upd H2 D (.dT []) := ⟨_, rfl⟩
  rw [← hH3] at I3 f3 w0
  have I4 := block_start I3 ok hN f3
  let cl := cellsFrom (s3.heap.objs.size + 1) scope.names (cloFrom X.env.cells scope.names [])
  have pg := hg s3 H3 s3.heap.objs.size cl fp
  have pk := hk s3 H3 s3.heap.objs.size cl fp
  have pe := he s3 H3 s3.heap.objs.size cl fp
  show codeAny _ _ (.compStart (.DictComp kx vx [⟨tg, iter, [], 0⟩] scope pos) 0 (.ref it) (.ref s2.heap.objs.size) (compEnvC scope cl s3.heap.objs.size X.env)) (compPost (model X.prog X.w) X.A X.xe none _ (.ref s2.heap.objs.size) s3.heap.objs.size) { s3 with heap := pushCells (s3.heap.push { cls := .type "dict", data := .dict #[] }) scope.names }
  rw [← hD]
  obtain ⟨ce, hce⟩ : ∃ ce, ce = compEnvC scope cl s3.heap.objs.size X.env := ⟨_, rfl⟩
  have cL : ce.locals = s3.heap.objs.size := by rw [hce]; rfl
  have I4' : Inv (X.blk s3 H3 scope ce fp) [] (wipe σ (own.map (·.2))) H3 { s3 with heap := pushCells (s3.heap.push { cls := .type "dict", data := .dict #[] }) scope.names } := by rw [hce]; exact I4
  rw [← hce] at pg pk pe ⊢
  clear I4
  obtain ⟨s4, hs4⟩ : ∃ s4 : Shared, s4 = { s3 with heap := pushCells (s3.heap.push { cls := .type "dict", data := .dict #[] }) scope.names } := ⟨_, rfl⟩
  rw [← hs4] at I4' ⊢
  have st4 : tn 0 s4.heap := T.keep _ _ _ st3 fun b _ o e => by rw [hs4]; exact pushCells_keeps _ _ _ _ (Heap.get?_push_of_some _ e)
  have stat : ∀ {σ' : L2.St} {H' : Hp} {s' : Shared}, Inv (X.blk s3 H3 scope ce fp) [] σ' H' s' → (∀ b ∈ fp, H' b = none) → ∀ b ∈ fp, FpOk (X.blk s3 H3 scope ce fp) [] H' b := fun I' hn b hb =>
    ⟨hn b hb, (I'.ok.exf b hb).1, I'.ok.exfs b hb, .inl hb, fun x c e => (I'.ok.exf b hb).2 x c e, fun p hp => by simp at hp⟩
  suffices loop : codeAny (model X.prog X.w) X.A (.compLoop (.DictComp kx vx [⟨tg, iter, [], 0⟩] scope pos) 0 (.ref it) (.ref D) ce) (compPost (model X.prog X.w) X.A X.xe none (EP X pins σ Q) (.ref D) s3.heap.objs.size) s4 from
    codeAny_compStart_dict loop (T.self X.A 0 _ _ _ st4 loop)
  refine compLoop_anyD (fun n s' => ∃ i H', Inv (X.blk s3 H3 scope ce fp) [] (wipe σ (own.map (·.2))) H' s' ∧ tn i s'.heap ∧ (∀ b ∈ fp, H' b = none) ∧ W i n H') ?_ m0 ⟨0, H3, I4', st4, fun b hb => (f3 b hb).1.1, w0⟩
  rintro n s5 ⟨i, H5, I5, st5, n5, w5⟩
  rcases turn i n H5 w5 with ⟨stop, qq⟩ | ⟨go, Nx, hNx, step⟩
  · refine thnF (T.done (X.blk s3 H3 scope ce fp) rfl rfl rfl hc i [] s5 _ H5 (fun _ _ => False) I5 (stat I5 n5) st5 stop) fun r s6 ⟨hr, I6⟩ => ?_
    subst hr
    have I7 : Inv X pins σ H5 s6 := I3.call' (ch := fp) I6.os I6.base I6.hok I6.bare fun b hb => ⟨(f3 b hb).1.2.2.2.1, (f3 b hb).1.2.1, (f3 b hb).1.2.2.2.2.1, (f3 b hb).1.2.2.2.2.2⟩
    obtain ⟨m, hn, _⟩ := I6.loc
    refine ⟨m, by rw [← cL]; exact hn, fun h'' sb => ?_⟩
    obtain ⟨g0, g1, g2, g3, g4, g5⟩ := I3.fpOk (H' := H5) (Nat.le_refl _) (by rw [← cL]; exact I6.free)
    exact ⟨.ref D, H5, I7.turned (t' := s6.toks) (fun b o hb e => (sb.2 b hb).trans e) g0 g1 g3 g4 g5, rfl, qq⟩
  · refine thnF (T.item (X.blk s3 H3 scope ce fp) rfl rfl rfl hc i [] s5 _ H5 (fun _ _ => False) I5 (stat I5 n5) st5 go) fun r s6 ⟨u, hr, h6⟩ => ?_
    subst hr
    refine thnF h6 fun _ s7 ⟨x, H7, I7, r7, y7, st7, n7⟩ => ?_
    have I7' := I7.pinned (stat I7 n7) (T.obj _ _ st7)
    refine thnF (pg.run _ s7 _ H7 x u _ I7' r7 (step x H7 y7)) fun _ s8 ⟨σ8, H8, I8, hw8, q8⟩ => ?_
    refine wpAny_tests_nil ?_
    simp only [if_true]
    refine thnF (pk.run _ s8 σ8 H8 _ I8 q8) fun z s10 ⟨yk, H10, I10, r10, q10⟩ => ?_
    refine thnF (pe.run _ s10 σ8 H10 _ I10 q10) fun z2 s11 ⟨yv, H11, I11, r11, kvs, k, b, ek, hb11, hD11, hz11, nx⟩ => ?_
    subst ek
    refine put_tup (X := X.blk s3 H3 scope ce fp) hu I11 hD11 hz11 hb11 r10 r11 fun s12 I12 => ?_
    obtain ⟨m', hm, w'⟩ := hNx _ nx
    have pin' : ∀ b ∈ fp, ∀ o, s7.heap.get? b = some o → s12.heap.get? b = some o ∧ (upd H11 D (.dT (putK kvs k yv))) b = none := fun b hb o e =>
      have z := I12.pin (b, o) (List.mem_append_right _ (List.mem_append_right _ (mem_pinsAt hb e)))
      ⟨z.1, z.2.1⟩
    refine ⟨m', hm, i + 1, _, (I12.unpinned (pins := [])).weak (by rw [← hw8, wipe_length]) (fun j v e => ?_), T.keep _ _ _ st7 fun b hb o e => (pin' b hb o e).1, fun b hb => ?_, w'⟩
    · rw [← hw8] at e
      exact (wipe_some e).1
    · obtain ⟨o, e, _⟩ := T.obj _ _ st7 b hb
      exact (pin' b hb o e).2
end
end Bk

namespace Bk
open PySem PySem.Spec PyProof.Rows L2
/-! ### heaps -/
theorem same_upd {H : Hp} {p : Addr} {o : HO} (h : H p = none) : Same H (upd H p o) := fun b x e => by
  rw [upd_ne (ne_of_none e h)]
  exact e
theorem Same.sqt {K : PySem.W.Frag} {H H' : Hp} {a : Addr} {xs : List V} (e : Same H H') (h : SqT K H a xs) : SqT K H' a xs := by
  rcases h with (h | ⟨o, h⟩) | h
  · exact .inl (.inl (e _ _ h))
  · exact .inl (.inr ⟨o, e _ _ h⟩)
  · exact .inr h
/-- a new object grows while all else stays -/
theorem Same.grow {H H' : Hp} {p : Addr} {o : HO} (e : Same H H') (h : H p = none) : Same H (upd H' p o) := fun b x q => by
  rw [upd_ne (ne_of_none q h)]
  exact e b x q
/-- all but the stream is as it was -/
def Kept (st c : Addr) (H H' : Hp) : Prop := ∀ b o, b ≠ st → b ≠ c → H b = some o → H' b = some o
theorem Kept.refl (st c : Addr) (H : Hp) : Kept st c H H := fun _ _ _ _ e => e
theorem Kept.trans {st c : Addr} {H H1 H2 : Hp} (a : Kept st c H H1) (b : Kept st c H1 H2) : Kept st c H H2 := fun x o n m e => b x o n m (a x o n m e)
theorem Same.kept {st c : Addr} {H H' : Hp} (a : Same H H') : Kept st c H H' := fun x o _ _ e => a x o e
/-! ### the stream of drawn numbers: at st, its cells at c; n bounds the draws so far -/
structure Strm (H : Hp) (st c : Addr) (n : Nat) : Prop where
  ne : c ≠ st
  ex : ∃ (cells : List Int) (a k m : Int), H c = some (.lst (cells.map V.int)) ∧ H st = some (.lst [.ref c, .int a, .int k, .int m]) ∧ 0 ≤ a ∧ 0 ≤ k ∧ k ≤ (n : Int) ∧ 0 ≤ m ∧ m < 2147483647
theorem Strm.more {H : Hp} {st c : Addr} {n n' : Nat} (S : Strm H st c n) (h : n ≤ n') : Strm H st c n' := by
  obtain ⟨ne, cells, a, k, m, h1, h2, h3, h4, h5, h6, h7⟩ := S
  exact ⟨ne, cells, a, k, m, h1, h2, h3, h4, by omega, h6, h7⟩
theorem Strm.same {H H' : Hp} {st c : Addr} {n : Nat} (S : Strm H st c n) (h : Same H H') : Strm H' st c n := by
  obtain ⟨ne, cells, a, k, m, h1, h2, h3⟩ := S
  exact ⟨ne, cells, a, k, m, h _ _ h1, h _ _ h2, h3⟩
theorem Strm.notfree {H : Hp} {st c : Addr} {n : Nat} (S : Strm H st c n) {p : Addr} (h : H p = none) : p ≠ st ∧ p ≠ c := by
  obtain ⟨ne, cells, a, k, m, h1, h2, h3⟩ := S
  exact ⟨fun e => (ne_of_none h2 h) e.symm, fun e => (ne_of_none h1 h) e.symm⟩
/-- what was free and is tracked behind is no part of the stream -/
theorem Kept.upd {H H' : Hp} {st c : Addr} {n : Nat} {p : Addr} {o : HO} (S : Strm H st c n) (k : Kept st c H H') (h : H p = none) : Kept st c H (L2.upd H' p o) := fun b x n1 n2 e => by
  rw [upd_ne (ne_of_none e h)]
  exact k b x n1 n2 e
theorem Strm.upd {H : Hp} {st c : Addr} {n : Nat} {p : Addr} {o : HO} (S : Strm H st c n) (h1 : p ≠ st) (h2 : p ≠ c) : Strm (L2.upd H p o) st c n := by
  obtain ⟨ne, cells, a, k, m, e1, e2, e3⟩ := S
  exact ⟨ne, cells, a, k, m, by rw [upd_ne h2.symm]; exact e1, by rw [upd_ne h1.symm]; exact e2, e3⟩
theorem Kept.free {H H' : Hp} {st c p : Addr} (k : Kept st c H H') (h : H' p = none) (n1 : p ≠ st) (n2 : p ≠ c) : H p = none := by
  cases e : H p with
  | none => rfl
  | some o =>
    rw [k p o n1 n2 e] at h
    cases h
theorem Kept.grow {H H' : Hp} {st c p : Addr} {o : HO} (k : Kept st c H H') (h : H p = none) : Kept st c H (L2.upd H' p o) := fun b x n1 n2 e => by
  rw [upd_ne (ne_of_none e h)]
  exact k b x n1 n2 e
/-! ### names that the program's top leaves -/
structure Bi (mg : Str → Option Value) : Prop where
  len : mg "len" = none
  list : mg "list" = none
  tuple : mg "tuple" = none
  isinstance : mg "isinstance" = none
  all : mg "all" = none
  any : mg "any" = none
  zip : mg "zip" = none
  enumerate : mg "enumerate" = none
  range : mg "range" = none
  int : mg "int" = none
  str : mg "str" = none
  bool : mg "bool" = none
  dict : mg "dict" = none
  abs : mg "abs" = none
/-- a def that can be called by its name -/
structure Cal (P : Program) (w : World) (K : PySem.W.Frag) (mg : Str → Option Value) (base : Heap) (CX : CXT) (k : Nat) (x : Str) (f : Addr) (fd : FuncData) (ps : List Str) (sp : Sp) : Prop where
  ok : FnOk P w K mg base CX k f fd ps sp
  g : mg x = some (.ref f)
  kp : PySem.W.keepIn K (.ref f) = true
  b : Binds K fd ps []
/-! ### what is a name -/
def lettersL : List Nat := (Str.ofString "abcdefghijklmnopqrstuvwxyz").cps.toList
theorem letters_mem (c : Nat) : c ∈ lettersL ↔ 97 ≤ c ∧ c ≤ 122 := by
  rw [show lettersL = List.range' 97 26 by decide +kernel, List.mem_range'_1]
  omega
def isNameS (z : Str) : Bool := decide (1 ≤ z.length) && decide (z.length ≤ 8) && z.cps.toList.all fun c => decide (c ∈ lettersL)
def isNameB : V → Bool
  | .str z => isNameS z
  | _ => false
def isStr : V → Bool
  | .str _ => true
  | _ => false
/-- any object, as far as isinstance with str asks -/
def Itm (K : PySem.W.Frag) (H : Hp) (x : V) : Prop := ∃ t, TyX K H x t ∧ PySem.W.kitOne K t (.type "str") = some (isStr x) ∧ ∀ z, x = .str z → z.length ≤ 100000
/-- any object, as far as isinstance with (list, tuple) asks: b tells whether it is one of them -/
def Sqs (K : PySem.W.Frag) (H : Hp) (x : V) (b : Bool) : Prop := ∃ t, TyX K H x t ∧ PySem.W.kitAny K t [.type "list", .type "tuple"] = some b
theorem Itm.str {K : PySem.W.Frag} {H : Hp} {z : Str} (h : z.length ≤ 100000) : Itm K H (.str z) := ⟨.type "str", .base (.str z), kit_ty (show kitB "str" "str" = some true by decide +kernel), fun _ e => by cases e; exact h⟩
theorem TyX.same {K : PySem.W.Frag} {H H' : Hp} {x : V} {t : Value} (h : TyX K H x t) (e : Same H H') : TyX K H' x t := by
  cases h with
  | base b =>
    cases b with
    | non => exact .base .non
    | bl y => exact .base (.bl y)
    | int i => exact .base (.int i)
    | str y => exact .base (.str y)
    | flt y => exact .base (.flt y)
    | lst q => exact .base (.lst (e _ _ q))
    | frz q => exact .base (.frz (e _ _ q))
    | tup q => exact .base (.tup (e _ _ q))
    | dK q => exact .base (.dK (e _ _ q))
    | dT q => exact .base (.dT (e _ _ q))
    | ins q c1 c2 c3 c4 c5 => exact .base (.ins (e _ _ q) c1 c2 c3 c4 c5)
  | byt b => exact .byt b
  | set q => exact .set (e _ _ q)
  | kList q c => exact .kList q c
  | kTuple q c => exact .kTuple q c
  | kDict q c => exact .kDict q c
  | fTuple q => exact .fTuple (e _ _ q)
  | fDict q => exact .fDict (e _ _ q)
/-! ### promises -/
def spStart (K : PySem.W.Frag) : Sp := fun vs H Q _ => ∃ (a : Addr) (ns : List Int), vs = [.ref a] ∧ SqL K H a (ns.map V.int) ∧
  ∀ (st c : Addr) (H' : Hp), Same H H' → H st = none → H c = none → Strm H' st c 0 → Q (.ref st) H'
def spDraw : Sp := fun vs H Q _ => ∃ (st c : Addr) (n : Nat) (k : Int), vs = [.ref st, .int k] ∧ Strm H st c n ∧ n ≤ 1000000 ∧ 0 < k ∧ k < 1000000 ∧
  ∀ (d : Int) (H' : Hp), 0 ≤ d → d < k → Strm H' st c (n + 1) → Kept st c H H' → Q (.int d) H'
/-- what one may pick from: a list, a tuple, a text -/
inductive Pk (K : PySem.W.Frag) (H : Hp) (st c : Addr) : V → Nat → (Nat → V) → Prop where
  | lst {a : Addr} {xs : List V} {f : Nat → V} (h : SqL K H a xs) (n1 : a ≠ st) (n2 : a ≠ c) (e : ∀ j, j < xs.length → xs[j]? = some (f j)) : Pk K H st c (.ref a) xs.length f
  | tup {a : Addr} {xs : List V} {f : Nat → V} (h : SqT K H a xs) (n1 : a ≠ st) (n2 : a ≠ c) (e : ∀ j, j < xs.length → xs[j]? = some (f j)) : Pk K H st c (.ref a) xs.length f
  | str {z : Str} {f : Nat → V} (hz : z.length ≤ sizeLine) (e : ∀ j, j < z.length → ∃ ch, z.cps.toList[j]? = some ch ∧ f j = .str ⟨#[ch]⟩) : Pk K H st c (.str z) z.length f
def spPick (K : PySem.W.Frag) : Sp := fun vs H Q _ => ∃ (st c : Addr) (n len : Nat) (x : V) (f : Nat → V), vs = [.ref st, x] ∧ Strm H st c n ∧ n ≤ 1000000 ∧ 0 < len ∧ len < 1000000 ∧ Pk K H st c x len f ∧
  ∀ (j : Nat) (H' : Hp), j < len → Strm H' st c (n + 1) → Kept st c H H' → Q (f j) H'
def spIsList (K : PySem.W.Frag) : Sp := fun vs H Q _ => ∃ (x : V) (b : Bool), vs = [x] ∧ Sqs K H x b ∧ ∀ H', Same H H' → Q (.bl b) H'
def spIsName (K : PySem.W.Frag) : Sp := fun vs H Q _ => ∃ x : V, vs = [x] ∧ Itm K H x ∧ ∀ H', Same H H' → Q (.bl (isNameB x)) H'
def spName : Sp := fun vs H Q _ => ∃ (st c : Addr) (n : Nat), vs = [.ref st] ∧ Strm H st c n ∧ n ≤ 900000 ∧
  ∀ (z : Str) (H' : Hp), isNameS z = true → Strm H' st c (n + 9) → Kept st c H H' → Q (.str z) H'
def spNames (K : PySem.W.Frag) : Sp := fun vs H Q _ => ∃ (st c : Addr) (n many : Nat), vs = [.ref st, .int (many : Int)] ∧ Strm H st c n ∧ n ≤ 800000 ∧ many ≤ 16 ∧
  ∀ (l : Addr) (zs : List Str) (H' : Hp), H l = none → zs.length = many → zs.Nodup → (∀ z ∈ zs, isNameS z = true) → Strm H' st c (n + 200) → Kept st c H H' → H' l = some (.lst (zs.map V.str)) → Q (.ref l) H'
theorem dp_ints {K : PySem.W.Frag} {H : Hp} : ∀ l : List Int, DpAll K H (l.map V.int) (l.map PyData.int)
  | [] => .nil
  | x :: r => .cons (.int x) (dp_ints r)
theorem lay_ints : ∀ l : List Int, PyData.canLayAll0 (l.map PyData.int) = true
  | [] => by simp [PyData.canLayAll0]
  | x :: r => by
    have := lay_ints r
    simp [PyData.canLayAll0, PyData.canLay0, this]
theorem depth_ints : ∀ l : List Int, PyData.depthAll (l.map PyData.int) = 0
  | [] => by simp [PyData.depthAll]
  | x :: r => by
    have := depth_ints r
    simp [PyData.depthAll, PyData.depth, this]
theorem shaped_ints (l : List Int) : SeqAt.shaped (.list (l.map PyData.int)) = true := by
  have h1 := lay_ints l
  have h2 := depth_ints l
  simp [SeqAt.shaped, PyData.canLay0, PyData.depth, h1, h2]
theorem eqv_nil (l : List Int) : PyData.eqv (.list (l.map PyData.int)) (.list []) = l.isEmpty := by
  cases l <;> simp [PyData.eqv, PyData.eqvAll]
theorem yes2 {σ : L2.St} {H : Hp} {A B : Hp → Prop} (h : A H) : tYes σ H (fun b H3 => if b = true then A H3 else B H3) := by
  show (if true = true then A H else B H)
  rw [if_pos rfl]
  exact h
theorem take_succ_map {α β : Type} {l : List α} {f : α → β} {i : Nat} {x : α} (h : l[i]? = some x) : (l.take (i + 1)).map f = (l.take i).map f ++ [f x] := by
  obtain ⟨h1, rfl⟩ := List.getElem?_eq_some_iff.mp h
  rw [List.take_add_one, h, List.map_append]
  rfl
/-- the first turns of a comprehension that keeps each item -/
structure Upto {α : Type} (H : Hp) (D : Addr) (l : List α) (f : α → V) (i : Nat) (H' : Hp) : Prop where
  sm : Same H H'
  at_ : H' D = some (.lst ((l.take i).map f))
theorem Upto.zero {α : Type} {H : Hp} {D : Addr} {l : List α} {f : α → V} (h : H D = none) : Upto H D l f 0 (upd H D (.lst [])) := ⟨same_upd h, upd_same⟩
theorem Upto.next {α : Type} {H H' H2 : Hp} {D : Addr} {l : List α} {f : α → V} {i : Nat} {x : α} (u : Upto H D l f i H') (nD : H D = none) (hx : l[i]? = some x) (s2 : Same H' H2) (hl : l.length ≤ 100000) :
    ∃ acc, H2 D = some (.lst acc) ∧ acc.length < sizeLine ∧ Upto H D l f (i + 1) (upd H2 D (.lst (acc ++ [f x]))) := by
  have hi := (List.getElem?_eq_some_iff.mp hx).1
  refine ⟨_, s2 _ _ u.at_, Evl.sz_lt ?_, Same.grow (u.sm.trans s2) nD, ?_⟩
  · rw [List.length_map, List.length_take]
    omega
  · rw [upd_same, take_succ_map hx]
theorem Upto.all {α : Type} {H H' : Hp} {D : Addr} {l : List α} {f : α → V} {n : Nat} (u : Upto H D l f n H') (e : n = l.length) : H' D = some (.lst (l.map f)) := by
  rw [u.at_, e, List.take_length]
theorem inV_strs (z : Str) : ∀ zs : List Str, inV (.str z) (zs.map V.str) = decide (z ∈ zs)
  | [] => rfl
  | x :: r => by
    have ih := inV_strs z r
    unfold inV at ih ⊢
    rw [List.map_cons, List.any_cons, ih]
    show ((x == z) || decide (z ∈ r)) = decide (z ∈ x :: r)
    by_cases e : x = z
    · subst e
      simp
    · have e2 : ¬ z = x := fun q => e q.symm
      rw [beq_eq_false_iff_ne.mpr e, Bool.false_or]
      simp [e2]
theorem flat_strs : ∀ zs : List Str, (zs.map V.str).all flatV = true
  | [] => rfl
  | x :: r => by
    rw [List.map_cons, List.all_cons, flat_strs r]
    rfl
theorem pigeon {α : Type} [DecidableEq α] : ∀ (a b : List α), a.Nodup → (∀ x ∈ a, x ∈ b) → a.length ≤ b.length
  | [], _, _, _ => Nat.zero_le _
  | x :: r, b, hn, hs => by
    have hx := hs x List.mem_cons_self
    obtain ⟨n1, n2⟩ := List.nodup_cons.mp hn
    have ih := pigeon r (b.erase x) n2 fun y hy => (List.mem_erase_of_ne (fun (e : y = x) => n1 (e ▸ hy))).mpr (hs y (List.mem_cons_of_mem _ hy))
    rw [List.length_erase_of_mem hx] at ih
    have : 0 < b.length := List.length_pos_of_mem hx
    rw [List.length_cons]
    omega
/-- the first turns of a comprehension that keeps some items -/
structure UptoF {α : Type} (H : Hp) (D : Addr) (l : List α) (f : α → V) (p : α → Bool) (i : Nat) (H' : Hp) : Prop where
  sm : Same H H'
  at_ : H' D = some (.lst (((l.take i).filter p).map f))
theorem UptoF.zero {α : Type} {H : Hp} {D : Addr} {l : List α} {f : α → V} {p : α → Bool} (h : H D = none) : UptoF H D l f p 0 (upd H D (.lst [])) := ⟨same_upd h, upd_same⟩
theorem take_succ {α : Type} {l : List α} {i : Nat} {x : α} (h : l[i]? = some x) : l.take (i + 1) = l.take i ++ [x] := by
  rw [List.take_add_one, h]
  rfl
theorem UptoF.yes {α : Type} {H H' H2 : Hp} {D : Addr} {l : List α} {f : α → V} {p : α → Bool} {i : Nat} {x : α} (u : UptoF H D l f p i H') (nD : H D = none) (hx : l[i]? = some x) (hp : p x = true) (s2 : Same H' H2) (hl : l.length ≤ 100000) :
    ∃ acc, H2 D = some (.lst acc) ∧ acc.length < sizeLine ∧ UptoF H D l f p (i + 1) (upd H2 D (.lst (acc ++ [f x]))) := by
  have hi := (List.getElem?_eq_some_iff.mp hx).1
  refine ⟨_, s2 _ _ u.at_, Evl.sz_lt ?_, Same.grow (Same.trans u.sm s2) nD, ?_⟩
  · have := List.length_filter_le p (l.take i)
    rw [List.length_map]
    rw [List.length_take] at this
    omega
  · rw [upd_same, take_succ hx, List.filter_append, List.map_append, List.filter_cons_of_pos hp]
    rfl
theorem UptoF.no {α : Type} {H H' H2 : Hp} {D : Addr} {l : List α} {f : α → V} {p : α → Bool} {i : Nat} {x : α} (u : UptoF H D l f p i H') (hx : l[i]? = some x) (hp : p x = false) (s2 : Same H' H2) : UptoF H D l f p (i + 1) H2 :=
  ⟨Same.trans u.sm s2, by rw [take_succ hx, List.filter_append, List.filter_cons_of_neg (by rw [hp]; exact Bool.false_ne_true), List.filter_nil, List.append_nil]; exact s2 _ _ u.at_⟩
theorem UptoF.all {α : Type} {H H' : Hp} {D : Addr} {l : List α} {f : α → V} {p : α → Bool} {n : Nat} (u : UptoF H D l f p n H') (e : n = l.length) : H' D = some (.lst ((l.filter p).map f)) := by
  rw [u.at_, e, List.take_length]
/-! ### the layer's rules with K told (within a comprehension's block the reading may not speak of the block) -/
section
variable {X : Cx} (K : PySem.W.Frag)
theorem kIn (e : X.K = K := by rfl) : OpR X (compareOp .In) (rIn K false) := e ▸ op_in_seq
theorem kNotIn (e : X.K = K := by rfl) : OpR X (compareOp .NotIn) (rIn K true) := e ▸ op_notIn_seq
theorem kEqD (hu : X.A.units + 64 < cLine) (e : X.K = K := by rfl) : OpR X (compareOp .Eq) (rEqD K) := e ▸ op_eqD hu
theorem kNeD (hu : X.A.units + 64 < cLine) (e : X.K = K := by rfl) : OpR X (compareOp .NotEq) (rNeD K) := e ▸ op_neD hu
theorem kCatA (e : X.K = K := by rfl) : OpR X (binaryOp .Add) (rCatA K) := e ▸ op_catA
theorem kIxL (e : X.K = K := by rfl) : IxR X (rIxL K) := e ▸ ix_list
theorem kIxT (e : X.K = K := by rfl) : IxR X (rIxT K) := e ▸ ix_tup
theorem kIx (e : X.K = K := by rfl) : IxR X (rIx K) := e ▸ ix_seq
theorem kSlL (e : X.K = K := by rfl) : SlR X (rSlL K) := e ▸ sl_list
theorem kSlT (e : X.K = K := by rfl) : SlR X (rSlA K) := e ▸ sl_tupA
/-- len of a text, a list, a tuple -/
def rLn (K : PySem.W.Frag) : List V → Hp → VK → Prop := fun xs H Q => ∃ x n, xs = [x] ∧ LenV K x H n ∧ Q (.int n) H
theorem kLen (e : X.K = K := by rfl) : CallR X (.builtin "len") (rLn K) := e ▸ call_len
def rLs (K : PySem.W.Frag) : List V → Hp → VK → Prop := fun xs H Q => ∃ p ys, xs = [.ref p] ∧ (SqL K H p ys ∨ SqT K H p ys) ∧ ∀ l, H l = none → Q (.ref l) (upd H l (.lst ys))
theorem kList (e : X.K = K := by rfl) : CallR X (.type "list") (rLs K) := e ▸ call_list_of
theorem kAll (hc : X.calm = true) (e : X.K = K := by rfl) : CallR X (.builtin "all") (rAll K) := e ▸ cr_all hc
theorem kAny (hc : X.calm = true) (e : X.K = K := by rfl) : CallR X (.builtin "any") (rAny K) := e ▸ cr_any hc
theorem kIsi (e : X.K = K := by rfl) : CallR X (.builtin "isinstance") (rIsi K) := e ▸ call_isi
theorem kIsiT (e : X.K = K := by rfl) : CallR X (.builtin "isinstance") (rIsiT K) := e ▸ call_isiT
theorem kTupleOf {a : Expr} {ta : TE} {p pos : Pos} (hg : Gl X "tuple") (hm : X.mg "tuple" = none) (ha : PE X a ta) (e : X.K = K := by rfl) (na : starEach [a] X.env = (false, eval a X.env) :: starEach [] X.env := by rfl) : PE X (.Call (.Name "tuple" p) [a] [] pos) (tThen ta (kTup K)) := e ▸ pe_tupleOf hg hm ha na
theorem kTg (n : Nat) {es : List Expr} {k : Nat} {t : TGs} {pos : Pos} (hc : X.calm = true) (h : PGs X es t) (e : X.K = K := by rfl) (hn : (assignEach es X.env).length = n := by rfl) (hst : (assignEach es X.env).findIdx? (·.1) = none := by rfl) :
    PG X (.Tuple es k pos) (gTup K n t) := e ▸ pg_tup hc h hn hst
theorem kPiL {tg l : Expr} {tl : TE} (hl : PE X l tl) (e : X.K = K := by rfl) : PI X tg l (iList K tl) := e ▸ pi_list hl
theorem kPiT {tg l : Expr} {tl : TE} (hl : PE X l tl) (e : X.K = K := by rfl) : PI X tg l (iTup K tl) := e ▸ pi_tup hl
theorem kPiE {e1 : Expr} {ta : TA} {p pos tpos : Pos} {elts : List Expr} {kk : Nat} (hg : Gl X "enumerate") (hm : X.mg "enumerate" = none) (ha : PA X [e1] ta) (e : X.K = K := by rfl) (hs : starEach [e1] X.env = [(false, eval e1 X.env)] := by rfl) :
    PI X (.Tuple elts kk tpos) (.Call (.Name "enumerate" p) [e1] [] pos) (iEnS K ta) := e ▸ pi_enS hg hm ha hs
theorem kPiZ {e1 e2 : Expr} {ta : TA} {p pos tpos : Pos} {elts : List Expr} {kk : Nat} (hg : Gl X "zip") (hm : X.mg "zip" = none) (ha : PA X [e1, e2] ta) (e : X.K = K := by rfl)
    (hs : starEach [e1, e2] X.env = (false, eval e1 X.env) :: starEach [e2] X.env := by rfl) (hpl : (backTo pos (starEach [e2] X.env)).any (·.1) = false := by rfl) :
    PI X (.Tuple elts kk tpos) (.Call (.Name "zip" p) [e1, e2] [] pos) (RZ.iZipA K ta) := e ▸ RZ.pi_zipA hg hm ha hs hpl
end
end Bk

namespace Bk
open PySem PySem.Spec PyProof.Rows L2
section
variable {P : Program} {w : World} {K : PySem.W.Frag} {mg : Str → Option Value} {base : Heap}
theorem scIsList : FnScope ["thing"] ["thing"] (defScope (topS 19)) := ⟨rfl, rfl, rfl, by decide +kernel, rfl, by decide +kernel, by decide +kernel⟩
theorem ok_is_list (B : Bi mg) {f : Addr} {fd : FuncData} (F : Fun K "is_list" "is_list" (topS 19) f fd) : FnOk P w K mg base CX0 1 f fd ["thing"] (spIsList K) := by
  refine F.ok scIsList (fun vs H Q E h => ?_) (fun cdv A outer s H vs Q E hr h => ?_)
  · obtain ⟨x, b, rfl, _⟩ := h
    rfl
  · obtain ⟨x, b, rfl, ⟨t, ty, kk⟩, q⟩ := h
    have nd := scIsList.nd
    refine ⟨_, (pss_one (ps_ret (pe_callB (kIsiT K) (by rfl) B.isinstance (by decide +kernel) (pa_cons (pv 0) (pa_cons (pe_tup (pa_cons (pe_bltn (v := .ty "list") (by rfl) B.list (by decide +kernel) rfl) (pa_cons (pe_bltn (v := .ty "tuple") (by rfl) B.tuple (by decide +kernel) rfl) pa_nil))) pa_nil))))), ?_⟩
    refine ⟨_, rfl, by show 2 ≤ sizeLine; decide, fun p np => ?_⟩
    have ty' : TyX K (upd H p (.tup [.ty "list", .ty "tuple"])) x t := TyX.same ty (same_upd np)
    exact ⟨x, p, _, t, _, b, rfl, upd_same, .cons (.ty _) (.cons (.ty _) .nil), ty', kk, q _ (same_upd np)⟩
theorem scIsName : FnScope ["thing", "letter"] ["thing"] (defScope (topS 20)) := ⟨rfl, rfl, rfl, by decide +kernel, rfl, by decide +kernel, by decide +kernel⟩
theorem ok_is_name (B : Bi mg) {f : Addr} {fd : FuncData} {t1 t2 : Tok} (g_LETTERS : mg "LETTERS" = some (.str (Str.ofString "abcdefghijklmnopqrstuvwxyz") t1)) (g_LONGEST_NAME : mg "LONGEST_NAME" = some (.int 8 t2)) (F : Fun K "is_name" "is_name" (topS 20) f fd) : FnOk P w K mg base CX0 1 f fd ["thing"] (spIsName K) := by
  refine F.ok scIsName (fun vs H Q E h => ?_) (fun cdv A outer s H vs Q E hr h => ?_)
  · obtain ⟨x, rfl, _⟩ := h
    rfl
  · obtain ⟨x, rfl, ⟨t, ty, kk, hz⟩, q⟩ := h
    have nd := scIsName.nd
    refine ⟨_, (pss_cons (ps_if (PW.pt (pw_or (pt_not (pt_val (pe_callB (kIsi K) (by rfl) B.isinstance (by decide +kernel) (pa_cons (pv 0) (pa_cons (pe_bltn (v := .ty "str") (by rfl) B.str (by decide +kernel) rfl) pa_nil))))) (pw_or1 (pt_not (pt_chain op_le op_le pe_int (pe_callB (kLen K) (by rfl) B.len PySem.boot_len (pa_cons (pv 0) pa_nil)) (pe_glob (v := .int 8) (by rfl) g_LONGEST_NAME ⟨_, rfl⟩)))))) (pss_one (ps_ret pe_bl)) pss_nil)
      (pss_one (ps_ret (pe_callB (kAll K rfl) (by rfl) B.all (by decide +kernel) (pa_cons (pe_lc (own := [("letter", 1)]) rfl nd (pi_str (pv 0)) (blkOk_by (N := ["thing", "letter"]) (sc := defScope (topS 20)) (by decide +kernel)) (fun _ _ _ _ _ => (pg_name (i := 1) nd rfl (Or.inl rfl))) (fun _ _ _ _ _ => pts_nil) (fun _ _ _ _ _ => (pe_cmpR op_in_sign (pv 1) (pe_glob (v := .str (Str.ofString "abcdefghijklmnopqrstuvwxyz")) (by rfl) g_LETTERS ⟨_, rfl⟩) rfl))) pa_nil))))), ?_⟩
    refine ⟨_, rfl, x, _, t, _, _, rfl, .ty _, ty, kk, _, rfl, ?_⟩
    cases x with
    | str z =>
      refine iteF ?_
      have hz1 : z.length ≤ sizeLine := Evl.sz_of (hz z rfl)
      refine ⟨_, rfl, _, _, rfl, ⟨hz1, rfl⟩, _, _, rfl, rfl, _, rfl, ?_⟩
      refine ite2 (fun h1 => ?_) (fun h1 => ?_)
      · refine ⟨_, _, rfl, rfl, _, rfl, ?_⟩
        refine ite2 (fun h2 => ?_) (fun h2 => ?_)
        · have e : isNameB (.str z) = false := by
            have h2 : ¬ z.length ≤ 8 := by
              intro h3
              have : decide ((z.length : Int) ≤ 8) = true := decide_eq_true (by omega)
              rw [this] at h2
              cases h2
            simp [isNameB, isNameS, h2]
          rw [e] at q
          exact q _ (Same.refl _)
        · have e : isNameB (.str z) = (z.cps.toList.map fun c => decide (c ∈ lettersL)).all id := by
            have h1 := of_decide_eq_true h1
            have h2 : z.length ≤ 8 := by
              by_cases h3 : (z.length : Int) ≤ 8
              · omega
              · rw [decide_eq_false h3] at h2
                exact (h2 rfl).elim
            simp [isNameB, isNameS, h2, show 1 ≤ z.length by omega]
          refine ⟨_, rfl, z, rfl, fun D nD => lc_it walk_str (Upto H D z.cps.toList fun c => V.bl (decide (c ∈ lettersL))) (.zero nD) (fun _ _ _ _ => trivial) ?_ ?_⟩
          · rintro i x H1 H2 hi u ⟨rfl, c, hc, rfl⟩
            have hc' : z.cps.toList[i]? = some c := by rw [← hc]; simp
            refine ⟨rfl, ?_⟩
            refine yes2 ?_
            exact ⟨_, rfl, c, _, rfl, rfl, u.next nD hc' (Same.refl _) (hz z rfl)⟩
          · intro H1 u
            have hD := u.all (by simp)
            rw [e] at q
            exact ⟨D, z.cps.toList.map fun c => decide (c ∈ lettersL), rfl, .of (by rw [List.map_map]; exact hD), q _ u.sm⟩
      · refine ⟨_, rfl, ?_⟩
        refine iteT ?_
        have e : isNameB (.str z) = false := by
          have h1 : ¬ 1 ≤ z.length := by
            intro h3
            exact h1 (decide_eq_true (by omega))
          simp [isNameB, isNameS, h1]
        rw [e] at q
        exact q _ (Same.refl _)
    | _ => exact iteT (iteT (q _ (Same.refl _)))
end
end Bk

namespace Bk
open PySem PySem.Spec PyProof.Rows L2
section
variable {P : Program} {w : World} {K : PySem.W.Frag} {mg : Str → Option Value} {base : Heap}
theorem scStart : FnScope ["_law_script"] ["_law_script"] (defScope (topS 84)) := ⟨rfl, rfl, rfl, by decide +kernel, rfl, by decide +kernel, by decide +kernel⟩
theorem ok_start (B : Bi mg) {f : Addr} {fd : FuncData} (F : Fun K "_law_start" "_law_start" (topS 84) f fd) : FnOk P w K mg base CX0 1 f fd ["_law_script"] (spStart K) := by
  refine F.ok scStart (fun vs H Q E h => ?_) (fun cdv A outer s H vs Q E hr h => ?_)
  · obtain ⟨a, ns, rfl, _⟩ := h
    rfl
  · obtain ⟨a, ns, rfl, hS, q⟩ := h
    refine ⟨_, (pss_one (ps_ret (pe_lst (pa_cons (pe_callTy (kList K) (by rfl) B.list (by decide +kernel) (pa_cons (pv 0) pa_nil)) (pa_cons pe_int (pa_cons pe_int (pa_cons pe_int pa_nil))))))), ?_⟩
    refine ⟨_, rfl, a, _, rfl, .inl hS, fun c nc => ⟨by show 4 ≤ sizeLine; decide, fun st nst => ?_⟩⟩
    have hne : c ≠ st := fun e => by
      rw [← e, upd_same] at nst
      cases nst
    have nst' : H st = none := by rw [upd_ne hne.symm] at nst; exact nst
    refine q st c _ (Same.trans (same_upd nc) (same_upd nst)) nst' nc ⟨hne, ns, 0, 0, 11, ?_, upd_same, by omega, by omega, by omega, by omega, by omega⟩
    rw [upd_ne hne, upd_same]
theorem scDraw : FnScope ["_law_stream", "_law_many", "_law_cell", "_law_digit", "_law_mixed"] ["_law_stream", "_law_many"] (defScope (topS 85)) := ⟨rfl, rfl, rfl, by decide +kernel, rfl, by decide +kernel, by decide +kernel⟩
theorem ok_draw (B : Bi mg) {f : Addr} {fd : FuncData} (F : Fun K "_law_draw" "_law_draw" (topS 85) f fd) : FnOk P w K mg base CX0 1 f fd ["_law_stream", "_law_many"] spDraw := by
  refine F.ok scDraw (fun vs H Q E h => ?_) (fun cdv A outer s H vs Q E hr h => ?_)
  · obtain ⟨st, c, n, k, rfl, _⟩ := h
    rfl
  · obtain ⟨st, c, n, k, rfl, S, hn, hk0, hk1, q⟩ := h
    have hu := hu_of hr
    have nd := scDraw.nd
    refine ⟨_, (Evl.pss_cut (ps_asg (pe_op op_add (pe_ix (kIxL K) (pv 0) pe_int (fun _ _ => rfl)) pe_int) (pg_sub (pv 0) pe_int set_list))
      (Evl.pss_cut (ps_if (PW.pt (pw_and (pt_cmpR op_eq (pe_ix (kIxL K) (pv 0) pe_int (fun _ _ => rfl)) pe_int (nomark _)) (pw_and1 (pt_cmpR (kNeD K hr.units) (pe_ix (kIxL K) (pv 0) pe_int (fun _ _ => rfl)) (pe_lst pa_nil) (nomark _))))) (pss_cons (ps_set (i := 2) nd rfl (Or.inl rfl) (pe_bm PySem.F.plainAttrs_list PySem.F.slot_list_pop PySem.F.type_list_pop mt_popAt (pe_ix (kIxL K) (pv 0) pe_int (fun _ _ => rfl)) (pa_cons pe_int pa_nil)))
      (pss_cons (ps_asg (pe_op op_mod (pe_callTy call_int1 (by rfl) B.int (by decide +kernel) (pa_cons (pe_op op_add (pe_op op_add (pe_op op_mul (pe_ix (kIxL K) (pv 0) pe_int (fun _ _ => rfl)) pe_int) (pv 2)) pe_int) pa_nil)) pe_int) (pg_sub (pv 0) pe_int set_list))
      (pss_one (ps_asg (pe_ifExp (pt_cmpR op_ge (pv 2) (pe_op op_pow pe_int pe_int) (nomark _)) (pv 2) pe_int) (pg_sub (pv 0) pe_int set_list))))) pss_nil)
      (pss_cons (ps_if (pt_cmpR op_gt (pe_ix (kIxL K) (pv 0) pe_int (fun _ _ => rfl)) pe_int (nomark _)) (pss_cons (ps_set (i := 3) nd rfl (Or.inl rfl) (pe_op op_mod (pe_callTy call_int1 (by rfl) B.int (by decide +kernel) (pa_cons (pe_ix (kIxL K) (pv 0) pe_int (fun _ _ => rfl)) pa_nil)) (pv 1)))
      (pss_cons (ps_asg (pe_op op_fdiv (pe_ix (kIxL K) (pv 0) pe_int (fun _ _ => rfl)) (pv 1)) (pg_sub (pv 0) pe_int set_list))
      (pss_one (ps_ret (pv 3))))) pss_nil)
      (pss_cons (ps_set (i := 4) nd rfl (Or.inl rfl) (pe_op op_mod (pe_callTy call_int1 (by rfl) B.int (by decide +kernel) (pa_cons (pe_op op_pow (pe_op op_add (pe_op op_add (pe_ix (kIxL K) (pv 0) pe_int (fun _ _ => rfl)) (pe_op op_mul pe_int (pe_ix (kIxL K) (pv 0) pe_int (fun _ _ => rfl)))) pe_int) pe_int) pa_nil)) pe_int))
      (pss_one (ps_ret (pe_op op_mod (pe_op op_mod (pe_callTy call_int1 (by rfl) B.int (by decide +kernel) (pa_cons (pe_op op_pow (pe_op op_add (pe_op op_add (pe_op op_mul (pv 4) pe_int) (pe_op op_mul pe_int (pe_ix (kIxL K) (pv 0) pe_int (fun _ _ => rfl)))) pe_int) pe_int) pa_nil)) pe_int) (pv 1)))))))), ?_⟩
    obtain ⟨ne, cells, a, b, m, hc, hs, ha, hb0, hb1, hm0, hm1⟩ := S
    refine ⟨fun σ' H1 => σ' = [some (.ref st), some (.int k), none, none, none] ∧ H1 st = some (.lst [.ref c, .int a, .int (b + 1), .int m]) ∧ H1 c = some (.lst (cells.map V.int)) ∧ Kept st c H H1, ?_, ?_⟩
    · refine ⟨_, rfl, st, _, _, _, rfl, rfl, SqL.of hs, atI_nat rfl, _, _, rfl, rfl, _, rfl, st, _, _, 2, rfl, rfl, hs, rfl, rfl, upd_same, by rw [upd_ne ne]; exact hc, fun x o n1 _ e => by rw [upd_ne n1]; exact e⟩
    rintro σ1 H1 ⟨rfl, hs1, hc1, kp1⟩
    refine ⟨fun σ' H2 => ∃ (a' m' : Int) (cells' : List Int) (v2 : Option V), 0 ≤ a' ∧ 0 ≤ m' ∧ m' < 2147483647 ∧ H2 c = some (.lst (cells'.map V.int)) ∧ H2 st = some (.lst [.ref c, .int a', .int (b + 1), .int m']) ∧ Kept st c H H2 ∧ σ' = [some (.ref st), some (.int k), v2, none, none], ?_, ?_⟩
    · refine ⟨_, rfl, st, _, _, _, rfl, rfl, SqL.of hs1, atI_nat rfl, rfl, _, rfl, ?_⟩
      refine ite2 (fun h => ?_) (fun h => ?_)
      · refine ⟨_, rfl, st, _, _, _, rfl, rfl, SqL.of hs1, atI_nat rfl, by show 0 ≤ sizeLine; exact Nat.zero_le _, fun l nl => ?_⟩
        have e1 := same_upd (H := H1) (o := HO.lst []) nl
        refine ⟨.list (cells.map PyData.int), .list [], .lst (SqL.of (e1 _ _ hc1)) (dp_ints cells), .lst (SqL.of upd_same) .nil, shaped_ints cells, rfl, _, rfl, ?_⟩
        rw [eqv_nil]
        have hs2 := e1 _ _ hs1
        have hc2 := e1 _ _ hc1
        have kp2 := kp1.trans (Same.kept e1)
        generalize upd H1 l (.lst []) = H2 at hs2 hc2 kp2 ⊢
        clear e1 nl
        cases cells with
        | nil => exact ⟨a, m, [], none, ha, hm0, hm1, hc2, hs2, kp2, rfl⟩
        | cons x r =>
          refine iteT ?_
          refine ⟨_, rfl, st, _, _, _, rfl, rfl, SqL.of hs2, atI_nat rfl, .inl ⟨rfl, _, SqL.of hc2⟩, c, _, 0, 0, _, rfl, rfl, hc2, by decide, by decide, (ixN_seq (Evl.ixN_nat (j := 0) (by simp))).1, rfl, ?_⟩
          have hc3 : (upd H2 c (HO.lst ((List.map V.int (x :: r)).eraseIdx 0))) c = some (.lst (r.map V.int)) := upd_same
          have hs3 : (upd H2 c (HO.lst ((List.map V.int (x :: r)).eraseIdx 0))) st = some (.lst [.ref c, .int a, .int (b + 1), .int m]) := by rw [upd_ne ne.symm]; exact hs2
          have kp3 : Kept st c H (upd H2 c (HO.lst ((List.map V.int (x :: r)).eraseIdx 0))) := kp2.trans fun y o _ n2 e => by rw [upd_ne n2]; exact e
          generalize upd H2 c (HO.lst ((List.map V.int (x :: r)).eraseIdx 0)) = H3 at hc3 hs3 kp3 ⊢
          have m0 := Int.emod_nonneg (m * 8191 + x + 3) (show (2147483647 : Int) ≠ 0 by omega)
          have m1 := Int.emod_lt_of_pos (m * 8191 + x + 3) (show (0 : Int) < 2147483647 by omega)
          refine ⟨_, rfl, st, _, _, _, rfl, rfl, SqL.of hs3, atI_nat rfl, _, _, rfl, rfl, .inl ⟨by omega, by omega⟩, _, rfl, _, _, rfl, rfl, _, _, rfl, rfl, .inl ⟨_, rfl, ?_⟩⟩
          refine ⟨_, _, rfl, rfl, by omega, ?_⟩
          refine ⟨_, rfl, st, _, _, 3, rfl, rfl, hs3, rfl, ?_⟩
          refine ⟨_, rfl, _, _, rfl, rfl, ⟨by omega, by omega, by omega⟩, _, _, rfl, rfl, _, rfl, ?_⟩
          refine ite2 (fun hx => ?_) (fun hx => ?_)
          · have hx : (10 : Int) ^ (18 : Int).toNat ≤ x := of_decide_eq_true hx
            have hp : (0 : Int) ≤ 10 ^ (18 : Int).toNat := by decide
            refine ⟨_, rfl, _, rfl, st, _, _, 1, rfl, rfl, upd_same, rfl, ?_⟩
            refine ⟨x, _, r, some (.int x), by omega, m0, m1, ?_, upd_same, ?_, rfl⟩
            · rw [upd_ne ne, upd_ne ne]; exact hc3
            · exact kp3.trans fun y o n1 _ e => by rw [upd_ne n1, upd_ne n1]; exact e
          · refine ⟨_, rfl, st, _, _, 1, rfl, rfl, upd_same, rfl, ?_⟩
            refine ⟨0, _, r, some (.int x), by omega, m0, m1, ?_, upd_same, ?_, rfl⟩
            · rw [upd_ne ne, upd_ne ne]; exact hc3
            · exact kp3.trans fun y o n1 _ e => by rw [upd_ne n1, upd_ne n1]; exact e
      · exact ⟨a, m, cells, none, ha, hm0, hm1, hc1, hs1, kp1, rfl⟩
    · rintro σ' H2 ⟨a', m', cells', v2, ha', hm0', hm1', hc2, hs2, kp2, rfl⟩
      refine ⟨_, rfl, st, _, _, _, rfl, rfl, SqL.of hs2, atI_nat rfl, _, _, rfl, rfl, _, rfl, ?_⟩
      refine ite2 (fun h => ?_) (fun h => ?_)
      · have h := of_decide_eq_true h
        refine ⟨_, rfl, st, _, _, _, rfl, rfl, SqL.of hs2, atI_nat rfl, .inl ⟨_, rfl, ?_⟩⟩
        refine ⟨_, rfl, _, _, rfl, rfl, hk0, ?_⟩
        refine ⟨_, rfl, st, _, _, _, rfl, rfl, SqL.of hs2, atI_nat rfl, ?_⟩
        refine ⟨_, rfl, _, _, rfl, rfl, ⟨hk0, by omega⟩, ?_⟩
        refine ⟨_, rfl, st, _, _, 1, rfl, rfl, hs2, rfl, ?_⟩
        refine ⟨_, rfl, ?_⟩
        refine q (a' % k) _ (Int.emod_nonneg _ (by omega)) (Int.emod_lt_of_pos _ hk0) ⟨ne, cells', a' / k, b + 1, m', by rw [upd_ne ne]; exact hc2, upd_same, Int.ediv_nonneg ha' (by omega), by omega, by omega, hm0', hm1'⟩ (kp2.trans fun x o n1 _ e => by rw [upd_ne n1]; exact e)
      · refine ⟨_, rfl, st, _, _, _, rfl, rfl, SqL.of hs2, atI_nat rfl, ?_⟩
        refine ⟨_, rfl, st, _, _, _, rfl, rfl, SqL.of hs2, atI_nat rfl, _, _, rfl, rfl, .inl ⟨by omega, by omega⟩, ?_⟩
        refine ⟨_, _, rfl, rfl, _, _, rfl, rfl, _, _, rfl, rfl, ⟨by omega, by omega, by omega⟩, .inl ⟨_, rfl, ?_⟩⟩
        refine ⟨_, _, rfl, rfl, by omega, ?_⟩
        have d0 := Int.emod_nonneg ((m' + 7919 * (b + 1) + 104729) ^ (5 : Int).toNat) (show (2147483629 : Int) ≠ 0 by omega)
        have d1 := Int.emod_lt_of_pos ((m' + 7919 * (b + 1) + 104729) ^ (5 : Int).toNat) (show (0 : Int) < 2147483629 by omega)
        generalize (m' + 7919 * (b + 1) + 104729) ^ (5 : Int).toNat % 2147483629 = mx at d0 d1 ⊢
        refine ⟨_, rfl, _, _, rfl, rfl, .inl ⟨by omega, by omega⟩, ?_⟩
        refine ⟨_, rfl, st, _, _, _, rfl, rfl, SqL.of hs2, atI_nat rfl, _, _, rfl, rfl, .inl ⟨by omega, by omega⟩, ?_⟩
        refine ⟨_, _, rfl, rfl, _, _, rfl, rfl, _, _, rfl, rfl, ⟨by omega, by omega, by omega⟩, .inl ⟨_, rfl, ?_⟩⟩
        refine ⟨_, _, rfl, rfl, by omega, ?_⟩
        refine ⟨_, rfl, _, _, rfl, rfl, hk0, ?_⟩
        exact q _ _ (Int.emod_nonneg _ (by omega)) (Int.emod_lt_of_pos _ hk0) ⟨ne, cells', a', b + 1, m', hc2, hs2, ha', by omega, by omega, hm0', hm1'⟩ kp2
theorem scPick : FnScope ["_law_stream", "_law_some"] ["_law_stream", "_law_some"] (defScope (topS 86)) := ⟨rfl, rfl, rfl, by decide +kernel, rfl, by decide +kernel, by decide +kernel⟩
theorem pk_len {H : Hp} {st c : Addr} {x : V} {len : Nat} {f : Nat → V} (p : Pk K H st c x len f) : LenV K x H len := by
  cases p with
  | lst h => exact .inl ⟨_, h, rfl⟩
  | tup h => exact .inr ⟨_, h, rfl⟩
  | str hz => exact ⟨hz, rfl⟩
theorem pk_at {H H' : Hp} {st c : Addr} {x : V} {len : Nat} {f : Nat → V} {j : Nat} {Q : VK} (p : Pk K H st c x len f) (k : Kept st c H H') (hj : j < len) (q : Q (f j) H') : rIx K x (.int (j : Int)) H' Q := by
  have sq : ∀ {a : Addr} {u : HO}, Rd H a u → a ≠ st → a ≠ c → Rd H' a u := fun h n1 n2 => h.elim (fun h => .inl (k _ _ n1 n2 h)) fun ⟨o, h⟩ => .inr ⟨o, k _ _ n1 n2 h⟩
  cases p with
  | lst h n1 n2 e => exact .inl ⟨_, _, _, _, rfl, rfl, h.imp (fun h => sq h n1 n2) id, atI_nat (e j hj), q⟩
  | tup h n1 n2 e => exact .inr (.inl ⟨_, _, _, _, rfl, rfl, h.imp (fun h => sq h n1 n2) id, atI_nat (e j hj), q⟩)
  | str hz e =>
    obtain ⟨ch, h1, h2⟩ := e j hj
    rw [h2] at q
    exact .inr (.inr ⟨_, _, ch, rfl, rfl, hz, atI_nat h1, q⟩)
theorem ok_pick (B : Bi mg) {f f1 : Addr} {fd fd1 : FuncData} (c__law_draw : Cal P w K mg base CX0 1 "_law_draw" f1 fd1 ["_law_stream", "_law_many"] spDraw) (F : Fun K "_law_pick" "_law_pick" (topS 86) f fd) : FnOk P w K mg base CX0 2 f fd ["_law_stream", "_law_some"] (spPick K) := by
  refine F.ok scPick (fun vs H Q E h => ?_) (fun cdv A outer s H vs Q E hr h => ?_)
  · obtain ⟨st, c, n, len, x, f, rfl, _⟩ := h
    rfl
  · obtain ⟨st, c, n, len, x, f, rfl, S, hn, h0, h1, pk, q⟩ := h
    have hr__law_draw := hr
    have nd := scPick.nd
    refine ⟨_, (pss_one (ps_ret (pe_ix (kIx K) (pv 1) (pe_call c__law_draw.ok hr__law_draw (by rfl) c__law_draw.g c__law_draw.kp c__law_draw.b .nil pass0 (pa_cons (pv 0) (pa_cons (pe_callB (kLen K) (by rfl) B.len PySem.boot_len (pa_cons (pv 1) pa_nil)) pa_nil))) (fun _ _ => rfl)))), ?_⟩
    refine ⟨_, rfl, _, rfl, _, rfl, _, _, rfl, pk_len pk, st, c, n, _, rfl, S, hn, by omega, by omega, fun d H' d0 d1 S' kp => ?_⟩
    have e : ((d.toNat : Nat) : Int) = d := Int.toNat_of_nonneg d0
    rw [← e]
    exact pk_at pk kp (by omega) (q d.toNat H' (by omega) S' kp)
end
end Bk

namespace Bk
open PySem PySem.Spec PyProof.Rows L2
open TL (tl)
section
variable {P : Program} {w : World} {K : PySem.W.Frag} {mg : Str → Option Value} {base : Heap}
theorem width_at : ∀ j : Nat, j < 6 → ∃ wd : Nat, ([V.int 1, V.int 1, V.int 2, V.int 3, V.int 5, V.int 8] : List V)[j]? = some (V.int (wd : Int)) ∧ 1 ≤ wd ∧ wd ≤ 8
  | 0, _ => ⟨1, rfl, by decide, by decide⟩
  | 1, _ => ⟨1, rfl, by decide, by decide⟩
  | 2, _ => ⟨2, rfl, by decide, by decide⟩
  | 3, _ => ⟨3, rfl, by decide, by decide⟩
  | 4, _ => ⟨5, rfl, by decide, by decide⟩
  | 5, _ => ⟨8, rfl, by decide, by decide⟩
  | n + 6, h => absurd h (by omega)
/-- a text of one sign -/
def sg (c : Nat) : Str := ⟨#[c]⟩
theorem join_sg (cs : List Nat) : (Txt.join (Str.ofString "") (cs.map sg)).cps.toList = cs := by
  show TL.tl (Txt.join (Str.ofString "") (cs.map sg)) = cs
  rw [TL.join_eq, TL.tl_join, List.map_map]
  rw [show TL.tl (Str.ofString "") = [] from rfl]
  have h : ∀ l : List Nat, TL.joinL [] (l.map (TL.tl ∘ sg)) = l := by
    intro l
    induction l with
    | nil => rfl
    | cons a r ih =>
      cases r with
      | nil => rfl
      | cons b r =>
        show [a] ++ ([] ++ TL.joinL [] ((b :: r).map (TL.tl ∘ sg))) = a :: b :: r
        rw [ih]
        rfl
  exact h cs
theorem isName_of {z : Str} (h1 : 1 ≤ z.cps.toList.length) (h2 : z.cps.toList.length ≤ 8) (h : ∀ c ∈ z.cps.toList, c ∈ lettersL) : isNameS z = true := by
  have e : z.length = z.cps.toList.length := by simp [Str.length]
  unfold isNameS
  rw [e, decide_eq_true h1, decide_eq_true h2, List.all_eq_true.mpr fun c hc => decide_eq_true (h c hc)]
  rfl
end
end Bk

namespace Bk
open PySem PySem.Spec PyProof.Rows L2
/-- the names that are taken where the drawn one stands already -/
def backNames : List Str := (Str.ofString "abcdefghijklmnop").cps.toList.map fun c => sg c ++ Str.ofString "jq"
theorem back_nodup : backNames.Nodup := by decide +kernel
theorem back_len : backNames.length = 16 := by decide +kernel
theorem back_names : ∀ z ∈ backNames, isNameS z = true := by decide +kernel
theorem back_sizes : ∀ z ∈ backNames, z.length ≤ 100 := by decide +kernel
/-- the first name that is not yet among those found -/
theorem fresh_name (z : Str) (hz : isNameS z = true) (found : List Str) (hf : found.length < 16) : ∃ y r, (z :: backNames).filter (fun x => decide (¬ x ∈ found)) = y :: r ∧ isNameS y = true ∧ y ∉ found := by
  cases e : (z :: backNames).filter (fun x => decide (¬ x ∈ found)) with
  | nil =>
    have h : ∀ x ∈ backNames, x ∈ found := by
      intro x hx
      by_cases h : x ∈ found
      · exact h
      · have : x ∈ (z :: backNames).filter (fun x => decide (¬ x ∈ found)) := List.mem_filter.mpr ⟨List.mem_cons_of_mem _ hx, decide_eq_true h⟩
        rw [e] at this
        cases this
    have := pigeon backNames found back_nodup h
    rw [back_len] at this
    omega
  | cons y r =>
    have hy : y ∈ (z :: backNames).filter (fun x => decide (¬ x ∈ found)) := by rw [e]; exact List.mem_cons_self
    obtain ⟨h1, h2⟩ := List.mem_filter.mp hy
    refine ⟨y, r, rfl, ?_, of_decide_eq_true h2⟩
    rcases List.mem_cons.mp h1 with h | h
    · rw [h]; exact hz
    · exact back_names y h
section
variable {P : Program} {w : World} {K : PySem.W.Frag} {mg : Str → Option Value} {base : Heap}
end
end Bk

namespace Bk
open PySem PySem.Spec PyProof.Rows L2
section
variable {K : PySem.W.Frag}
/-! ### walks -/
theorem walk_enumT {a : Addr} {xs : List V} : Walk (IteT K a) xs.length (fun H => SqT K H a xs) (YPair (fun i => some (.int (i : Nat))) (fun i => xs[i]?)) := by
  refine ⟨fun i _ hi q => ⟨xs, xs[i], q, by simp [hi]⟩, fun _ q => ⟨xs, q, rfl⟩, fun i H v H' _ q y => ?_⟩
  obtain ⟨T, x, h1, h2, h3, h4⟩ := y
  exact ⟨T, .int (i : Nat), x, h1, h2, h3, rfl, h4 xs q⟩
/-- enumerate of a list or a tuple: whichever it is -/
theorem enS_of {a : Addr} {xs : List V} {H : Hp} {R : It → Hp → Prop} (hS : SqL K H a xs ∨ SqT K H a xs)
    (h : ∀ (J : It) (G : Hp → Prop), Walk J xs.length G (YPair (fun i => some (.int (i : Nat))) (fun i => xs[i]?)) → (∀ H', Same H H' → G H') → R J H) :
    (∃ ys, SqL K H a ys ∧ R (Ite K a) H) ∨ (∃ ys, SqT K H a ys ∧ R (IteT K a) H) := by
  rcases hS with hS | hS
  · exact .inl ⟨xs, hS, h _ _ walk_enum fun H' e => e.seq hS⟩
  · exact .inr ⟨xs, hS, h _ _ walk_enumT fun H' e => Same.sqt e hS⟩
/-- for at, x in enumerate(xs), xs in the slot i: a list or a tuple -/
theorem for_enS {i : Nat} {a : Addr} {xs : List V} {g : TG} {tb : TS} {D : Ends} {σ : L2.St} {H : Hp} (hv : σ[i]? = some (some (.ref a))) (hS : SqL K H a xs ∨ SqT K H a xs) (Pv : Nat → L2.St → Hp → Prop) (h0 : Pv 0 σ H) (hG : ∀ k σ' H', Pv k σ' H' → Same H H')
    (hs : ∀ k x σ' H' H2, k < xs.length → Pv k σ' H' → YPair (fun j => some (.int (j : Nat))) (fun j => xs[j]?) k H' x H2 → g x σ' H2 fun σ2 H3 => tb { D with nx := Pv (k + 1), ct := Pv (k + 1), bk := D.nx } σ2 H3) (hd : ∀ σ' H', Pv xs.length σ' H' → D.nx σ' H') :
    tFor (iEnS K (tCons (tVar i) tNil)) g tb D σ H :=
  ⟨_, hv, a, rfl, enS_of (R := fun J H1 => ∃ W : Nat → Nat → L2.St → Hp → Prop, (∃ m, W 0 m σ H1) ∧ ∀ i m σ H, W i m σ H →
      (J.stop i H ∧ D.nx σ H) ∨ (J.go i H ∧ ∃ N : L2.St → Hp → Prop, (∀ σ' H', N σ' H' → ∃ m', m' < m ∧ W (i + 1) m' σ' H') ∧ ∀ x H', J.yld i H x H' → g x σ H' fun σ2 H2 => tb { D with nx := N, ct := N, bk := D.nx } σ2 H2))
    hS fun J G wk kG => for_it wk Pv h0 (fun k σ' H' _ p => kG H' (hG k σ' H' p)) hs hd⟩
section
variable {J : It} {n : Nat} {G : Hp → Prop} {Y : Nat → Hp → V → Hp → Prop}
/-- the inner walk of a comprehension with two fors -/
theorem inner_it (w : Walk J n G Y) {g1 : TG} {tt1 : TT} {te : TE} {σ2 : L2.St} {vs1 : List Nat} {D : Addr} {Nx : Hp → Prop} {H0 : Hp} (Pw : Nat → Hp → Prop) (h0 : Pw 0 H0) (hG : ∀ j H, j ≤ n → Pw j H → G H)
    (hs : ∀ j x H H', j < n → Pw j H → Y j H x H' → g1 x (wipe σ2 vs1) H' fun σ3 H5 => wipe σ3 vs1 = wipe σ2 vs1 ∧ tt1 σ3 H5 fun b H6 =>
      if b = true then te σ3 H6 fun y H7 => ∃ acc, H7 D = some (.lst acc) ∧ acc.length < sizeLine ∧ Pw (j + 1) (upd H7 D (.lst (acc ++ [y]))) else Pw (j + 1) H6) (hd : ∀ H, Pw n H → Nx H) :
    ∃ W1 : Nat → Nat → Hp → Prop, (∃ m, W1 0 m H0) ∧ ∀ j k H, W1 j k H →
      (J.stop j H ∧ Nx H) ∨ (J.go j H ∧ ∃ Nx1 : Hp → Prop, (∀ H', Nx1 H' → ∃ k', k' < k ∧ W1 (j + 1) k' H') ∧ ∀ x H', J.yld j H x H' → g1 x (wipe σ2 vs1) H' fun σ3 H5 => wipe σ3 vs1 = wipe σ2 vs1 ∧ tt1 σ3 H5 fun b H6 =>
        if b = true then te σ3 H6 fun y H7 => ∃ acc, H7 D = some (.lst acc) ∧ acc.length < sizeLine ∧ Nx1 (upd H7 D (.lst (acc ++ [y]))) else Nx1 H6) := by
  refine ⟨fun j k H => k = n - j ∧ j ≤ n ∧ Pw j H, ⟨n, rfl, Nat.zero_le _, h0⟩, ?_⟩
  rintro j k H ⟨rfl, hj, p⟩
  rcases Nat.lt_or_ge j n with hlt | hge
  · exact .inr ⟨w.goes j H hlt (hG j H hj p), Pw (j + 1), fun H' p' => ⟨n - (j + 1), by omega, rfl, hlt, p'⟩, fun x H' y => hs j x H H' hlt p (w.yields j H x H' hlt (hG j H hj p) y)⟩
  · obtain rfl : j = n := by omega
    exact .inl ⟨w.stops H (hG j H hj p), hd H p⟩
/-- the outer walk -/
theorem outer_it (w : Walk J n G Y) {g : TG} {tt : TT} {σ : L2.St} {vs : List Nat} {H1 : Hp} {D : Addr} {Qd : Hp → Prop} {In : L2.St → Hp → (Hp → Prop) → Prop} (Pv : Nat → Hp → Prop) (h0 : Pv 0 (upd H1 D (.lst []))) (hG : ∀ i H, i ≤ n → Pv i H → G H)
    (hs : ∀ i x H H', i < n → Pv i H → Y i H x H' → g x (wipe σ vs) H' fun σ2 H2 => wipe σ2 vs = wipe σ vs ∧ tt σ2 H2 fun b H3 => if b = true then In σ2 H3 (Pv (i + 1)) else Pv (i + 1) H3) (hd : ∀ H, Pv n H → Qd H) :
    ∃ W : Nat → Nat → Hp → Prop, (∃ m, W 0 m (upd H1 D (.lst []))) ∧ ∀ i m H, W i m H →
      (J.stop i H ∧ Qd H) ∨ (J.go i H ∧ ∃ Nx : Hp → Prop, (∀ H', Nx H' → ∃ m', m' < m ∧ W (i + 1) m' H') ∧ ∀ x H', J.yld i H x H' → g x (wipe σ vs) H' fun σ2 H2 => wipe σ2 vs = wipe σ vs ∧ tt σ2 H2 fun b H3 =>
        if b = true then In σ2 H3 Nx else Nx H3) := by
  refine ⟨fun i m H => m = n - i ∧ i ≤ n ∧ Pv i H, ⟨n, rfl, Nat.zero_le _, h0⟩, ?_⟩
  rintro i m H ⟨rfl, hi, p⟩
  rcases Nat.lt_or_ge i n with hlt | hge
  · exact .inr ⟨w.goes i H hlt (hG i H hi p), Pv (i + 1), fun H' p' => ⟨n - (i + 1), by omega, rfl, hlt, p'⟩, fun x H' y => hs i x H H' hlt p (w.yields i H x H' hlt (hG i H hi p) y)⟩
  · obtain rfl : i = n := by omega
    exact .inl ⟨w.stops H (hG i H hi p), hd H p⟩
/-- a dict comprehension by tuples -/
theorem dcT_it (w : Walk J n G Y) {g : TG} {tk tv : TE} {vs : List Nat} {σ : L2.St} {H1 : Hp} {D : Addr} {Qd : Hp → Prop} (Pv : Nat → Hp → Prop) (h0 : Pv 0 (upd H1 D (.dT []))) (hG : ∀ i H, i ≤ n → Pv i H → G H)
    (hs : ∀ i x H H', i < n → Pv i H → Y i H x H' → g x (wipe σ vs) H' fun σ2 H2 => wipe σ2 vs = wipe σ vs ∧
      tk σ2 H2 fun y H4 => tv σ2 H4 fun z H5 => ∃ kvs k b, y = .ref b ∧ H5 b = some (.tup (k.map kV)) ∧ H5 D = some (.dT kvs) ∧ kvs.length < sizeLine ∧ Pv (i + 1) (upd H5 D (.dT (putK kvs k z)))) (hd : ∀ H, Pv n H → Qd H) :
    ∃ W : Nat → Nat → Hp → Prop, (∃ m, W 0 m (upd H1 D (.dT []))) ∧ ∀ i m H, W i m H →
      (J.stop i H ∧ Qd H) ∨ (J.go i H ∧ ∃ Nx : Hp → Prop, (∀ H', Nx H' → ∃ m', m' < m ∧ W (i + 1) m' H') ∧ ∀ x H', J.yld i H x H' → g x (wipe σ vs) H' fun σ2 H2 => wipe σ2 vs = wipe σ vs ∧
        tk σ2 H2 fun y H4 => tv σ2 H4 fun z H5 => ∃ kvs k b, y = .ref b ∧ H5 b = some (.tup (k.map kV)) ∧ H5 D = some (.dT kvs) ∧ kvs.length < sizeLine ∧ Nx (upd H5 D (.dT (putK kvs k z)))) := by
  refine ⟨fun i m H => m = n - i ∧ i ≤ n ∧ Pv i H, ⟨n, rfl, Nat.zero_le _, h0⟩, ?_⟩
  rintro i m H ⟨rfl, hi, p⟩
  rcases Nat.lt_or_ge i n with hlt | hge
  · exact .inr ⟨w.goes i H hlt (hG i H hi p), Pv (i + 1), fun H' p' => ⟨n - (i + 1), by omega, rfl, hlt, p'⟩, fun x H' y => hs i x H H' hlt p (w.yields i H x H' hlt (hG i H hi p) y)⟩
  · obtain rfl : i = n := by omega
    exact .inl ⟨w.stops H (hG i H hi p), hd H p⟩
end
/-! ### slices -/
theorem sIx_nat' (n d k : Nat) (h : k ≤ n) : HT.sIx n d (some (k : Int)) = k := by
  rw [HT.sIx_nat]
  omega
theorem cut_to (xs : List V) (k : Nat) (h : k ≤ xs.length) : cutV xs none (some (k : Int)) = xs.take k := by
  unfold cutV
  rw [HT.sIx_none, sIx_nat' _ _ _ h]
  simp
theorem cut_mid (xs : List V) (i k : Nat) (h1 : i ≤ k) (h2 : k ≤ xs.length) : cutV xs (some (i : Int)) (some (k : Int)) = (xs.drop i).take (k - i) := by
  unfold cutV
  rw [sIx_nat' _ _ _ h2, sIx_nat' _ _ _ (by omega)]
/-! ### what first_wrong tells -/
def badAt (xs : List V) (most i : Nat) (x : V) : Bool := decide (i = most) || !isNameB x || inV x (xs.take i)
/-- the first place from i on that is wrong -/
def wrongFrom (xs : List V) (most : Nat) : Nat → List V → Option Nat
  | _, [] => none
  | i, x :: r => if badAt xs most i x = true then some i else wrongFrom xs most (i + 1) r
def firstWrong (xs : List V) (most : Nat) : Option Nat := if xs = [] then some 0 else wrongFrom xs most 0 xs
def optV : Option Nat → V
  | none => .non
  | some i => .int (i : Int)
theorem wrong_step {xs : List V} {most i : Nat} {x : V} (h : xs[i]? = some x) : wrongFrom xs most i (xs.drop i) = if badAt xs most i x = true then some i else wrongFrom xs most (i + 1) (xs.drop (i + 1)) := by
  obtain ⟨h1, rfl⟩ := List.getElem?_eq_some_iff.mp h
  rw [List.drop_eq_getElem_cons h1]
  rfl
theorem wrong_end {xs : List V} {most i : Nat} (h : xs.length ≤ i) : wrongFrom xs most i (xs.drop i) = none := by
  rw [List.drop_eq_nil_of_le h]
  rfl
theorem name_flat {x : V} (h : isNameB x = true) : flatV x = true := by
  cases x <;> first | rfl | cases h
theorem all_flat {xs : List V} {k : Nat} (h : ∀ j x, j < k → xs[j]? = some x → isNameB x = true) : (xs.take k).all flatV = true := by
  rw [List.all_eq_true]
  intro x hx
  obtain ⟨j, hj, e⟩ := List.mem_iff_getElem.mp hx
  rw [List.length_take] at hj
  refine name_flat (h j x (by omega) ?_)
  rw [List.getElem_take] at e
  rw [← e]
  exact List.getElem?_eq_getElem (by omega)
/-- a thing that is a list or a tuple of any objects, or neither -/
inductive Thing (K : PySem.W.Frag) (H : Hp) : V → Option (List V) → Prop where
  | seq {a : Addr} {xs : List V} (hS : SqL K H a xs ∨ H a = some (.tup xs)) (b : Sqs K H (.ref a) true) (hi : ∀ x ∈ xs, Itm K H x) (hl : xs.length ≤ 100000) : Thing K H (.ref a) (some xs)
  | no {x : V} (b : Sqs K H x false) : Thing K H x none
/-- what is wrong with a thing as the names of folders -/
def wrongOf (o : Option (List V)) (most : Nat) : Option Nat := match o with
  | none => some 0
  | some xs => firstWrong xs most
def spFirstWrong (K : PySem.W.Frag) : Sp := fun vs H Q _ => ∃ (x : V) (o : Option (List V)) (most : Nat), vs = [x, .int (most : Int)] ∧ Thing K H x o ∧ ∀ H', Same H H' → Q (optV (wrongOf o most)) H'
theorem Itm.same {H H' : Hp} {x : V} (h : Itm K H x) (e : Same H H') : Itm K H' x := let ⟨t, a, b⟩ := h; ⟨t, TyX.same a e, b⟩
theorem Sqs.same {H H' : Hp} {x : V} {b : Bool} (h : Sqs K H x b) (e : Same H H') : Sqs K H' x b := let ⟨t, a, c⟩ := h; ⟨t, TyX.same a e, c⟩
theorem Thing.same {H H' : Hp} {x : V} {o : Option (List V)} (h : Thing K H x o) (e : Same H H') : Thing K H' x o := by
  cases h with
  | seq hS b hi hl => exact .seq (hS.imp (fun z => e.seq z) fun z => e _ _ z) (b.same e) (fun x hx => (hi x hx).same e) hl
  | no b => exact .no (b.same e)
end
section
variable {K : PySem.W.Frag}
/-- a dict comprehension over enumerate(xs), xs a list in the slot i -/
theorem dcT_enL {i : Nat} {a : Addr} {xs : List V} {g : TG} {tk tv : TE} {vs : List Nat} {σ : L2.St} {H : Hp} {Q : VK} (hv : σ[i]? = some (some (.ref a))) (hS : SqL K H a xs)
    (h : ∀ D, H D = none → ∃ Pv : Nat → Hp → Prop, Pv 0 (upd H D (.dT [])) ∧ (∀ k H', Pv k H' → SqL K H' a xs) ∧
      (∀ k x H' H2, k < xs.length → Pv k H' → YPair (fun j => some (.int (j : Nat))) (fun j => xs[j]?) k H' x H2 → g x (wipe σ vs) H2 fun σ2 H3 => wipe σ2 vs = wipe σ vs ∧
        tk σ2 H3 fun y H4 => tv σ2 H4 fun z H5 => ∃ kvs k' b, y = .ref b ∧ H5 b = some (.tup (k'.map kV)) ∧ H5 D = some (.dT kvs) ∧ kvs.length < sizeLine ∧ Pv (k + 1) (upd H5 D (.dT (putK kvs k' z)))) ∧
      ∀ H', Pv xs.length H' → Q (.ref D) H') : tDcT (iEnS K (tCons (tVar i) tNil)) g tk tv vs σ H Q :=
  ⟨_, hv, a, rfl, .inl ⟨xs, hS, fun D nD => by
    obtain ⟨Pv, h0, hG, hs, hd⟩ := h D nD
    exact dcT_it walk_enum Pv h0 (fun k H' _ p => hG k H' p) hs hd⟩⟩
end
/-! ### what is none wrong -/
theorem wrongFrom_none {xs : List V} {most : Nat} : ∀ (l : List V) (i : Nat), wrongFrom xs most i l = none → ∀ j x, l[j]? = some x → badAt xs most (i + j) x = false
  | [], i, _, j, x, h => by simp at h
  | y :: r, i, hw, j, x, h => by
    have e : (if badAt xs most i y = true then some i else wrongFrom xs most (i + 1) r) = none := hw
    by_cases hb : badAt xs most i y = true
    · rw [if_pos hb] at e
      cases e
    · rw [if_neg hb] at e
      cases j with
      | zero =>
        cases h
        simpa using hb
      | succ j =>
        have := wrongFrom_none r (i + 1) e j x (by simpa using h)
        rw [show i + (j + 1) = i + 1 + j by omega]
        exact this
theorem names_of {xs : List V} (h : ∀ (j : Nat) (x : V), xs[j]? = some x → isNameB x = true) : ∃ zs : List Str, xs = zs.map V.str ∧ ∀ z ∈ zs, isNameS z = true := by
  induction xs with
  | nil => exact ⟨[], rfl, fun _ z => nomatch z⟩
  | cons x r ih =>
    obtain ⟨zs, e, hz⟩ := ih fun j y hy => h (j + 1) y (by simpa using hy)
    have hx := h 0 x rfl
    cases x with
    | str z =>
      refine ⟨z :: zs, by rw [e]; rfl, fun y hy => ?_⟩
      rcases List.mem_cons.mp hy with rfl | hy
      · exact hx
      · exact hz y hy
    | _ => cases hx
/-- what is right: unlike names, not too many -/
theorem right_names {o : Option (List V)} {most : Nat} (h : wrongOf o most = none) : ∃ zs : List Str, o = some (zs.map V.str) ∧ zs ≠ [] ∧ (∀ z ∈ zs, isNameS z = true) ∧ zs.length ≤ most ∧ zs.Nodup := by
  cases o with
  | none => cases h
  | some xs =>
    have h : firstWrong xs most = none := h
    unfold firstWrong at h
    by_cases hn : xs = []
    · rw [if_pos hn] at h
      cases h
    · rw [if_neg hn] at h
      have hb := wrongFrom_none xs 0 h
      have hb : ∀ j x, xs[j]? = some x → badAt xs most j x = false := fun j x hx => by
        have := hb j x hx
        rwa [Nat.zero_add] at this
      obtain ⟨zs, e, hz⟩ := names_of fun j x hx => by
        have := hb j x hx
        simp [badAt] at this
        exact this.1.2
      refine ⟨zs, by rw [e], fun z => hn (by rw [e, z]; rfl), hz, ?_, ?_⟩
      · rcases Nat.lt_or_ge most zs.length with hlt | hge
        · have hx : xs[most]? = some (V.str zs[most]) := by rw [e, List.getElem?_map, List.getElem?_eq_getElem hlt]; rfl
          have := hb most _ hx
          simp [badAt] at this
        · exact hge
      · rw [List.nodup_iff_pairwise_ne, List.pairwise_iff_getElem]
        intro i j hi hj hij heq
        have hx : xs[j]? = some (V.str zs[j]) := by rw [e, List.getElem?_map, List.getElem?_eq_getElem hj]; rfl
        have := hb j _ hx
        simp [badAt] at this
        have h2 := this.2
        rw [e, ← List.map_take, inV_strs] at h2
        have h2 := of_decide_eq_false h2
        exact h2 (List.mem_iff_getElem.mpr ⟨i, by rw [List.length_take]; omega, by rw [List.getElem_take]; exact heq⟩)
end Bk

namespace Bk
open PySem PySem.Spec PyProof.Rows L2
section
variable {P : Program} {w : World} {K : PySem.W.Frag} {mg : Str → Option Value} {base : Heap}
theorem scFirst : FnScope ["names", "most", "at", "name"] ["names", "most"] (defScope (topS 33)) := ⟨rfl, rfl, rfl, by decide +kernel, rfl, by decide +kernel, by decide +kernel⟩
theorem ok_first (B : Bi mg) {f f1 f2 : Addr} {fd fd1 fd2 : FuncData} (c_is_list : Cal P w K mg base CX0 1 "is_list" f1 fd1 ["thing"] (spIsList K)) (c_is_name : Cal P w K mg base CX0 1 "is_name" f2 fd2 ["thing"] (spIsName K))
    (F : Fun K "first_wrong" "first_wrong" (topS 33) f fd) : FnOk P w K mg base CX0 2 f fd ["names", "most"] (spFirstWrong K) := by
  refine F.ok scFirst (fun vs H Q E h => ?_) (fun cdv A outer s H vs Q E hr h => ?_)
  · obtain ⟨x, o, most, rfl, _⟩ := h
    rfl
  · obtain ⟨x, o, most, rfl, T, q⟩ := h
    have hr_is_list := hr
    have hr_is_name := hr
    have nd := scFirst.nd
    refine ⟨_, (pss_cons (ps_if (PW.pt (pw_or (pt_not (pt_val (pe_call c_is_list.ok hr_is_list (by rfl) c_is_list.g c_is_list.kp c_is_list.b .nil pass0 (pa_cons (pv 0) pa_nil)))) (pw_or1 (pt_cmpR op_eq (pe_callB (kLen K) (by rfl) B.len PySem.boot_len (pa_cons (pv 0) pa_nil)) pe_int (nomark _))))) (pss_one (ps_ret pe_int)) pss_nil)
      (pss_cons (ps_for PassesOwn.never rfl (kPiE K (by rfl) B.enumerate (pa_cons (pv 0) pa_nil)) (kTg K 2 rfl (pgs_cons (pg_name (i := 2) nd rfl (Or.inl rfl)) (pgs_cons (pg_name (i := 3) nd rfl (Or.inl rfl)) pgs_nil))) (pss_one (ps_if (PW.pt (pw_or (pt_cmpR op_eq (pv 2) (pv 1) (nomark _)) (pw_or (pt_not (pt_val (pe_call c_is_name.ok hr_is_name (by rfl) c_is_name.g c_is_name.kp c_is_name.b .nil pass0 (pa_cons (pv 3) pa_nil)))) (pw_or1 (pt_cmpR (kIn K) (pv 3) (pe_slice ((kSlL K).or (kSlT K)) (pv 0) po_none (po_some (pv 2))) rfl))))) (pss_one (ps_ret (pv 2))) pss_nil)))
      (pss_one (ps_ret pe_non)))), ?_⟩
    cases T with
    | no b =>
      refine ⟨_, rfl, _, false, rfl, b, fun H1 e1 => ⟨_, rfl, ?_⟩⟩
      refine iteT ?_
      refine iteT ?_
      exact q H1 e1
    | @seq a xs hS0 b hi hl =>
      have hS : SqL K H a xs ∨ SqT K H a xs := hS0.imp id SqT.of
      clear hS0
      refine ⟨_, rfl, _, true, rfl, b, fun H1 e1 => ⟨_, rfl, ?_⟩⟩
      refine iteF ?_
      have hS1 : SqL K H1 a xs ∨ SqT K H1 a xs := hS.imp (fun z => e1.seq z) fun z => Same.sqt e1 z
      refine ⟨_, rfl, .ref a, xs.length, rfl, hS1.imp (fun z => ⟨xs, z, rfl⟩) (fun z => ⟨xs, z, rfl⟩), rfl, _, rfl, ?_⟩
      cases xs with
      | nil =>
        refine iteT ?_
        exact q H1 e1
      | cons x0 r0 =>
        have hlen : (x0 :: r0).length = r0.length + 1 := rfl
        generalize hxs : x0 :: r0 = xs at hS1 hi hl q hlen ⊢
        have hne : xs ≠ [] := by rw [← hxs]; exact List.cons_ne_nil _ _
        have efw : firstWrong xs most = wrongFrom xs most 0 (xs.drop 0) := by
          unfold firstWrong
          rw [if_neg hne]
          rfl
        have q : ∀ H', Same H H' → Q (optV (wrongFrom xs most 0 (xs.drop 0))) H' := fun H' e => by
          rw [← efw]
          exact q H' e
        have e0 : decide (V.int (xs.length : Int) = V.int 0) = false := decide_eq_false (fun z => by injection z with z; omega)
        rw [e0]
        refine iteF ?_
        refine st_next ?_
        refine st_seq ?_
        refine for_enS (a := a) (xs := xs) rfl hS1 (fun i σ H2 => ∃ v2 v3, σ = [some (.ref a), some (.int (most : Int)), v2, v3] ∧ Same H1 H2 ∧ wrongFrom xs most 0 (xs.drop 0) = wrongFrom xs most i (xs.drop i) ∧ ∀ j x, j < i → xs[j]? = some x → isNameB x = true) ?_ ?_ ?_ ?_
        · exact ⟨none, none, rfl, Same.refl _, rfl, fun j x hj => absurd hj (Nat.not_lt_zero _)⟩
        · rintro i σ H2 ⟨_, _, _, e2, _⟩
          exact e2
        · rintro i y σ H2 H3 hi' ⟨v2, v3, rfl, e2, ew, hn⟩ ⟨T, y1, y2, rfl, nT, rfl, h1, h2⟩
          cases h1
          have h2 : xs[i]? = some y2 := h2
          have hx := List.mem_of_getElem? h2
          have eT := same_upd (o := HO.tup [V.int (i : Nat), y2]) nT
          refine ⟨T, _, rfl, SqT.of upd_same, rfl, _, _, rfl, _, _, rfl, rfl, ?_⟩
          generalize upd H2 T (.tup [.int (i : Nat), y2]) = H3 at eT ⊢
          have e3 : Same H H3 := Same.trans e1 (Same.trans e2 eT)
          have bad : badAt xs most i y2 = true → Q (.int (i : Nat)) H3 := fun hb => by
            have z := q H3 e3
            rw [ew, wrong_step h2, if_pos hb] at z
            exact z
          refine ⟨_, rfl, _, rfl, rfl, _, rfl, ?_⟩
          refine ite2 (fun c1 => ?_) (fun c1 => ?_)
          · refine iteT ?_
            refine ⟨_, rfl, bad ?_⟩
            have c1 := of_decide_eq_true c1
            have : i = most := by injection c1 with c1; omega
            simp [badAt, this]
          · have c1 : ¬ i = most := fun z => c1 (decide_eq_true (by rw [z]))
            refine ⟨_, rfl, y2, rfl, (hi y2 hx).same e3, fun H4 e4 => ⟨_, rfl, ?_⟩⟩
            have bad : badAt xs most i y2 = true → Q (.int (i : Nat)) H4 := fun hb => by
              have z := q H4 (Same.trans e3 e4)
              rw [ew, wrong_step h2, if_pos hb] at z
              exact z
            cases hn2 : isNameB y2 with
            | false =>
              refine iteT ?_
              refine iteT ?_
              exact ⟨_, rfl, bad (by simp [badAt, hn2])⟩
            | true =>
              refine iteF ?_
              have hS4 : SqL K H4 a xs ∨ SqT K H4 a xs := hS1.imp (fun z => Same.seq (Same.trans e2 (Same.trans eT e4)) z) fun z => Same.sqt (Same.trans e2 (Same.trans eT e4)) z
              have ecut : cutV xs none (some (i : Int)) = xs.take i := cut_to xs i (by omega)
              have hlo : HT.sIx xs.length xs.length (some (i : Int)) = i := sIx_nat' _ _ _ (by omega)
              have yes : ∀ H5, Same H4 H5 → inV y2 (xs.take i) = true → Q (.int (i : Nat)) H5 := fun H5 e5 hv => by
                have z := q H5 (Same.trans e3 (Same.trans e4 e5))
                rw [ew, wrong_step h2, if_pos (by simp [badAt, hv])] at z
                exact z
              have no : inV y2 (xs.take i) = false → wrongFrom xs most 0 (xs.drop 0) = wrongFrom xs most (i + 1) (xs.drop (i + 1)) := fun hv => by
                rw [ew, wrong_step h2, if_neg (by simp [badAt, hv, hn2, c1])]
              have hn' : ∀ j x, j < i + 1 → xs[j]? = some x → isNameB x = true := fun j x hj hjx => by
                rcases Nat.lt_succ_iff_lt_or_eq.mp hj with hj | rfl
                · exact hn j x hj hjx
                · rw [h2] at hjx
                  cases hjx
                  exact hn2
              refine ⟨_, rfl, _, rfl, _, rfl, _, rfl, ?_⟩
              rcases hS4 with hS4 | hS4
              · refine .inl ⟨a, xs, rfl, hS4, fun p np => ?_⟩
                rw [ecut]
                have ep := same_upd (o := HO.lst (xs.take i)) np
                refine ⟨p, _, rfl, .inl (SqL.of upd_same), name_flat hn2, all_flat hn, _, rfl, ?_⟩
                cases hv : inV y2 (xs.take i) with
                | true =>
                  refine iteT ?_
                  exact ⟨_, rfl, yes _ ep hv⟩
                | false =>
                  refine iteF ?_
                  exact ⟨_, _, rfl, Same.trans e2 (Same.trans eT (Same.trans e4 ep)), no hv, hn'⟩
              · refine .inr ⟨a, xs, rfl, hS4, fun hw => ?_, fun hw p np => ?_⟩
                · exfalso
                  rw [hlo] at hw
                  omega
                · rw [ecut]
                  have ep := same_upd (o := HO.tup (xs.take i)) np
                  refine ⟨p, _, rfl, .inr (SqT.of upd_same), name_flat hn2, all_flat hn, _, rfl, ?_⟩
                  cases hv : inV y2 (xs.take i) with
                  | true =>
                    refine iteT ?_
                    exact ⟨_, rfl, yes _ ep hv⟩
                  | false =>
                    refine iteF ?_
                    exact ⟨_, _, rfl, Same.trans e2 (Same.trans eT (Same.trans e4 ep)), no hv, hn'⟩
        · rintro σ H2 ⟨v2, v3, rfl, e2, ew, hn⟩
          rw [wrong_end (Nat.le_refl _)] at ew
          rw [ew] at q
          exact q H2 (Same.trans e1 e2)
end
end Bk

namespace Bk
open PySem PySem.Spec PyProof.Rows L2
/-! ### values that are tuples, one for each of some things -/
def Ats {α : Type} (H : Hp) (g : α → List V) (vs : List V) (xs : List α) : Prop := vs.length = xs.length ∧ ∀ (i : Nat) (v : V) (x : α), vs[i]? = some v → xs[i]? = some x → ∃ b, v = .ref b ∧ H b = some (.tup (g x))
section
variable {α : Type} {g : α → List V} {H H' : Hp} {vs ws : List V} {xs ys : List α}
theorem Ats.nil : Ats H g [] [] := ⟨rfl, fun i v x h => by simp at h⟩
theorem Ats.same (a : Ats H g vs xs) (e : Same H H') : Ats H' g vs xs := ⟨a.1, fun i v x h1 h2 => let ⟨b, e1, e2⟩ := a.2 i v x h1 h2; ⟨b, e1, e _ _ e2⟩⟩
theorem Ats.updL {D : Addr} {l : List V} {o : HO} (a : Ats H g vs xs) (hD : H D = some (.lst l)) : Ats (upd H D o) g vs xs := ⟨a.1, fun i v x h1 h2 => by
  obtain ⟨b, e1, e2⟩ := a.2 i v x h1 h2
  exact ⟨b, e1, by rw [upd_ne (ne_of e2 hD (fun z => nomatch z))]; exact e2⟩⟩
theorem Ats.append (a : Ats H g vs xs) (b : Ats H g ws ys) : Ats H g (vs ++ ws) (xs ++ ys) := by
  refine ⟨by rw [List.length_append, List.length_append, a.1, b.1], fun i v x h1 h2 => ?_⟩
  by_cases hi : i < vs.length
  · rw [List.getElem?_append_left hi] at h1
    rw [List.getElem?_append_left (by rw [← a.1]; exact hi)] at h2
    exact a.2 i v x h1 h2
  · rw [List.getElem?_append_right (by omega)] at h1
    rw [List.getElem?_append_right (by rw [← a.1]; omega), ← a.1] at h2
    exact b.2 _ v x h1 h2
theorem Ats.one {b : Addr} {x : α} (e : H b = some (.tup (g x))) : Ats H g [.ref b] [x] := ⟨rfl, fun i v y h1 h2 => by
  cases i with
  | zero =>
    cases h1
    cases h2
    exact ⟨b, rfl, e⟩
  | succ i => simp at h1⟩
theorem Ats.at (a : Ats H g vs xs) {i : Nat} {x : α} (h : xs[i]? = some x) : ∃ b, vs[i]? = some (.ref b) ∧ H b = some (.tup (g x)) := by
  have hi := (List.getElem?_eq_some_iff.mp h).1
  rw [← a.1] at hi
  obtain ⟨b, e1, e2⟩ := a.2 i _ x (List.getElem?_eq_getElem hi) h
  exact ⟨b, by rw [List.getElem?_eq_getElem hi, e1], e2⟩
end
/-! ### the rows of places, as choices makes them -/
def rowV (r : List Nat) : List V := r.map fun (k : Nat) => V.int (k : Int)
def lastOf (r : List Nat) : Nat := r.getLastD 0
def growRow (n : Nat) (r : List Nat) : List (List Nat) := (List.range' (lastOf r + 1) (n - (lastOf r + 1))).map fun k => r ++ [k]
def nextRows (n : Nat) (rows : List (List Nat)) : List (List Nat) := rows.flatMap (growRow n)
def rowsFrom (n : Nat) : Nat → List (List Nat) → List (List Nat)
  | 0, _ => []
  | f + 1, rows => rows ++ rowsFrom n f (nextRows n rows)
def firstRows (n : Nat) : List (List Nat) := (List.range n).map fun k => [k]
/-- all rows of places below n, shorter ones first -/
def lotRows (n : Nat) : List (List Nat) := rowsFrom n n (firstRows n)
/-- the lots of unlike names -/
def lotsOf (zs : List Str) : List (List Str) := (lotRows zs.length).map fun r => r.map fun k => zs.getD k Str.empty
structure RowOk (n k : Nat) (r : List Nat) : Prop where
  len : r.length = k + 1
  lt : ∀ x ∈ r, x < n
  last : k ≤ lastOf r
theorem RowOk.ne {n k : Nat} {r : List Nat} (h : RowOk n k r) : r ≠ [] := fun e => by
  have := h.len
  rw [e] at this
  simp at this
theorem lastOf_mem {r : List Nat} (h : r ≠ []) : lastOf r ∈ r := by
  unfold lastOf
  rw [List.getLastD_eq_getLast?, List.getLast?_eq_some_getLast h]
  exact List.getLast_mem h
theorem RowOk.lt_last {n k : Nat} {r : List Nat} (h : RowOk n k r) : lastOf r < n := h.lt _ (lastOf_mem h.ne)
theorem lastOf_snoc (r : List Nat) (k : Nat) : lastOf (r ++ [k]) = k := by
  unfold lastOf
  rw [List.getLastD_eq_getLast?, List.getLast?_append]
  rfl
theorem firstRows_ok {n : Nat} : ∀ r ∈ firstRows n, RowOk n 0 r := by
  intro r hr
  obtain ⟨k, hk, rfl⟩ := List.mem_map.mp hr
  have := List.mem_range.mp hk
  exact ⟨rfl, fun x hx => by rw [List.mem_singleton.mp hx]; exact this, Nat.zero_le _⟩
theorem nextRows_ok {n k : Nat} {rows : List (List Nat)} (h : ∀ r ∈ rows, RowOk n k r) : ∀ r ∈ nextRows n rows, RowOk n (k + 1) r := by
  intro r hr
  obtain ⟨r0, h0, hr⟩ := List.mem_flatMap.mp hr
  obtain ⟨j, hj, rfl⟩ := List.mem_map.mp hr
  obtain ⟨j1, j2⟩ := List.mem_range'_1.mp hj
  have o := h r0 h0
  have := o.last
  refine ⟨by rw [List.length_append, o.len]; rfl, fun x hx => ?_, by rw [lastOf_snoc]; omega⟩
  rcases List.mem_append.mp hx with hx | hx
  · exact o.lt x hx
  · rw [List.mem_singleton.mp hx]
    omega
theorem flatMap_len {α β : Type} {f : α → List β} {m : Nat} : ∀ {l : List α}, (∀ x ∈ l, (f x).length ≤ m) → (l.flatMap f).length ≤ l.length * m
  | [], _ => Nat.zero_le _
  | x :: r, h => by
    have ih := flatMap_len (l := r) fun y hy => h y (List.mem_cons_of_mem _ hy)
    have h1 := h x List.mem_cons_self
    rw [List.flatMap_cons, List.length_append, List.length_cons, Nat.add_mul]
    omega
theorem growRow_len {n : Nat} {r : List Nat} : (growRow n r).length ≤ n := by
  unfold growRow
  rw [List.length_map, List.length_range']
  omega
theorem nextRows_len {n : Nat} (rows : List (List Nat)) : (nextRows n rows).length ≤ rows.length * n := flatMap_len fun _ _ => growRow_len
theorem nextRows_snoc {n : Nat} {rows : List (List Nat)} {i : Nat} {r : List Nat} (h : rows[i]? = some r) : nextRows n (rows.take (i + 1)) = nextRows n (rows.take i) ++ growRow n r := by
  unfold nextRows
  rw [take_succ h, List.flatMap_append, List.flatMap_cons, List.flatMap_nil, List.append_nil]
theorem rowsFrom_nil (n : Nat) : ∀ f, rowsFrom n f [] = []
  | 0 => rfl
  | f + 1 => by
    show [] ++ rowsFrom n f (nextRows n []) = []
    exact rowsFrom_nil n f
theorem rowsFrom_ok {n : Nat} : ∀ (f k : Nat) (rows : List (List Nat)), (∀ r ∈ rows, RowOk n k r) → ∀ r ∈ rowsFrom n f rows, ∃ k', RowOk n k' r
  | 0, _, _, _, r, hr => by cases hr
  | f + 1, k, rows, h, r, hr => by
    rcases List.mem_append.mp (show r ∈ rows ++ rowsFrom n f (nextRows n rows) from hr) with hr | hr
    · exact ⟨k, h r hr⟩
    · exact rowsFrom_ok f (k + 1) _ (nextRows_ok h) r hr
theorem lotRows_ok {n : Nat} : ∀ r ∈ lotRows n, ∃ k, RowOk n k r := rowsFrom_ok n 0 _ firstRows_ok
theorem rowV_len (r : List Nat) : (rowV r).length = r.length := List.length_map ..
theorem at_last {r : List Nat} (h : r ≠ []) : atI (rowV r) (-1) = some (V.int (lastOf r : Int)) := by
  have hl : 0 < r.length := List.length_pos_iff.mpr h
  have e1 : ixN (rowV r).length (-1) = some (r.length - 1) := by
    unfold ixN
    rw [rowV_len, if_neg (by omega), if_pos (by omega)]
    congr 1
    omega
  unfold atI
  rw [e1]
  show (rowV r)[r.length - 1]? = _
  unfold rowV lastOf
  rw [List.getElem?_map, List.getLastD_eq_getLast?, List.getLast?_eq_getElem?, List.getElem?_eq_getElem (by omega)]
  rfl
theorem growRow_at {n : Nat} {r : List Nat} {j : Nat} (hj : j < n - (lastOf r + 1)) : (growRow n r)[j]? = some (r ++ [lastOf r + 1 + j]) := by
  unfold growRow
  rw [List.getElem?_map, List.getElem?_range' hj]
  simp
theorem growRow_length (n : Nat) (r : List Nat) : (growRow n r).length = n - (lastOf r + 1) := by
  unfold growRow
  rw [List.length_map, List.length_range']
/-! ### the rows of places of so many, as choices_of makes them -/
def sttK (k : Nat) (r : List Nat) : Nat := if 0 < k then lastOf r + 1 else 0
def growK (n k : Nat) (r : List Nat) : List (List Nat) := (List.range' (sttK k r) (n - sttK k r)).map fun j => r ++ [j]
def nextK (n k : Nat) (rows : List (List Nat)) : List (List Nat) := rows.flatMap (growK n k)
def rowsK (n : Nat) : Nat → List (List Nat)
  | 0 => [[]]
  | k + 1 => nextK n k (rowsK n k)
/-- a row of k places, ascending as far as it matters -/
def RowK (n k : Nat) (r : List Nat) : Prop := (k = 0 ∧ r = []) ∨ ∃ k', k = k' + 1 ∧ RowOk n k' r
theorem RowK.len {n k : Nat} {r : List Nat} (h : RowK n k r) : r.length = k := by
  rcases h with ⟨rfl, rfl⟩ | ⟨k', rfl, o⟩
  · rfl
  · exact o.len
theorem RowK.lt {n k : Nat} {r : List Nat} (h : RowK n k r) : ∀ x ∈ r, x < n := by
  rcases h with ⟨rfl, rfl⟩ | ⟨k', rfl, o⟩
  · intro x hx
    cases hx
  · exact o.lt
theorem sttK_le {n k : Nat} {r : List Nat} (h : RowK n k r) : sttK k r ≤ n := by
  unfold sttK
  rcases h with ⟨rfl, rfl⟩ | ⟨k', rfl, o⟩
  · rw [if_neg (by omega)]
    exact Nat.zero_le _
  · rw [if_pos (by omega)]
    exact o.lt_last
theorem nextK_ok {n k : Nat} {rows : List (List Nat)} (h : ∀ r ∈ rows, RowK n k r) : ∀ r ∈ nextK n k rows, RowK n (k + 1) r := by
  intro r hr
  obtain ⟨r0, h0, hr⟩ := List.mem_flatMap.mp hr
  obtain ⟨j, hj, rfl⟩ := List.mem_map.mp hr
  obtain ⟨j1, j2⟩ := List.mem_range'_1.mp hj
  have o := h r0 h0
  have hs := sttK_le o
  refine .inr ⟨k, rfl, by rw [List.length_append, o.len]; rfl, fun x hx => ?_, ?_⟩
  · rcases List.mem_append.mp hx with hx | hx
    · exact o.lt x hx
    · rw [List.mem_singleton.mp hx]
      omega
  · rw [lastOf_snoc]
    rcases o with ⟨rfl, rfl⟩ | ⟨k', rfl, o⟩
    · exact Nat.zero_le _
    · have := o.last
      unfold sttK at j1
      rw [if_pos (by omega)] at j1
      omega
theorem rowsK_ok (n : Nat) : ∀ k, ∀ r ∈ rowsK n k, RowK n k r
  | 0 => fun r hr => .inl ⟨rfl, List.mem_singleton.mp hr⟩
  | k + 1 => nextK_ok (rowsK_ok n k)
theorem nextK_snoc {n k : Nat} {rows : List (List Nat)} {i : Nat} {r : List Nat} (h : rows[i]? = some r) : nextK n k (rows.take (i + 1)) = nextK n k (rows.take i) ++ growK n k r := by
  unfold nextK
  rw [take_succ h, List.flatMap_append, List.flatMap_cons, List.flatMap_nil, List.append_nil]
theorem growK_at {n k : Nat} {r : List Nat} {j : Nat} (hj : j < n - sttK k r) : (growK n k r)[j]? = some (r ++ [sttK k r + j]) := by
  unfold growK
  rw [List.getElem?_map, List.getElem?_range' hj]
  simp
theorem growK_length (n k : Nat) (r : List Nat) : (growK n k r).length = n - sttK k r := by
  unfold growK
  rw [List.length_map, List.length_range']
/-! how many there are -/
def potOf (n k : Nat) (rows : List (List Nat)) : Nat := (rows.map fun r => 2 ^ (n - sttK k r)).sum
theorem pot_range (n : Nat) : ∀ (m s : Nat), m + s = n → ((List.range' s m).map fun j => 2 ^ (n - (j + 1))).sum + 1 = 2 ^ m
  | 0, _, _ => rfl
  | m + 1, s, h => by
    have ih := pot_range n m (s + 1) (by omega)
    rw [List.range'_succ, List.map_cons, List.sum_cons, Nat.add_assoc, ih, show n - (s + 1) = m by omega, Nat.pow_succ]
    omega
theorem pot_grow {n k : Nat} {r : List Nat} (h : sttK k r ≤ n) : potOf n (k + 1) (growK n k r) + 1 = 2 ^ (n - sttK k r) := by
  unfold potOf growK
  rw [List.map_map]
  have e : (List.map ((fun r => 2 ^ (n - sttK (k + 1) r)) ∘ fun j => r ++ [j]) (List.range' (sttK k r) (n - sttK k r))) = ((List.range' (sttK k r) (n - sttK k r)).map fun j => 2 ^ (n - (j + 1))) := by
    apply List.map_congr_left
    intro j _
    show 2 ^ (n - sttK (k + 1) (r ++ [j])) = _
    unfold sttK
    rw [if_pos (by omega), lastOf_snoc]
  rw [e]
  exact pot_range n _ _ (by omega)
theorem pot_append (n k : Nat) (a b : List (List Nat)) : potOf n k (a ++ b) = potOf n k a + potOf n k b := by
  unfold potOf
  rw [List.map_append, List.sum_append]
theorem pot_next {n k : Nat} : ∀ {rows : List (List Nat)}, (∀ r ∈ rows, RowK n k r) → potOf n (k + 1) (nextK n k rows) ≤ potOf n k rows
  | [], _ => Nat.le_refl _
  | r :: t, h => by
    have ih := pot_next (rows := t) fun x hx => h x (List.mem_cons_of_mem _ hx)
    have g := pot_grow (sttK_le (h r List.mem_cons_self))
    have e : nextK n k (r :: t) = growK n k r ++ nextK n k t := List.flatMap_cons ..
    have e2 : potOf n k (r :: t) = 2 ^ (n - sttK k r) + potOf n k t := List.sum_cons ..
    rw [e, pot_append, e2]
    omega
theorem pot_rows (n : Nat) : ∀ k, potOf n k (rowsK n k) ≤ 2 ^ n
  | 0 => by
    show (2 ^ (n - sttK 0 []) + 0) ≤ _
    unfold sttK
    rw [if_neg (by omega)]
    exact Nat.le_refl _
  | k + 1 => Nat.le_trans (pot_next (rowsK_ok n k)) (pot_rows n k)
theorem len_pot (n k : Nat) : ∀ rows : List (List Nat), rows.length ≤ potOf n k rows
  | [] => Nat.zero_le _
  | r :: t => by
    have ih := len_pot n k t
    have e2 : potOf n k (r :: t) = 2 ^ (n - sttK k r) + potOf n k t := List.sum_cons ..
    have : 0 < 2 ^ (n - sttK k r) := Nat.pow_pos (by omega)
    rw [e2, List.length_cons]
    omega
theorem rowsK_len (n k : Nat) : (rowsK n k).length ≤ 2 ^ n := Nat.le_trans (len_pot n k _) (pot_rows n k)
theorem take_pot {n k : Nat} (rows : List (List Nat)) (i : Nat) : potOf n k (rows.take i) ≤ potOf n k rows := by
  have h := pot_append n k (rows.take i) (rows.drop i)
  rw [List.take_append_drop] at h
  omega
theorem nextK_take_len {n k : Nat} (i : Nat) : (nextK n k ((rowsK n k).take i)).length ≤ 2 ^ n :=
  Nat.le_trans (len_pot n (k + 1) _) (Nat.le_trans (pot_next fun r hr => rowsK_ok n k r (List.mem_of_mem_take hr)) (Nat.le_trans (take_pot _ i) (pot_rows n k)))
/-! all of them are the rows of all lots -/
theorem rowsK_one (n : Nat) : rowsK n 1 = firstRows n := by
  show nextK n 0 [[]] = _
  unfold nextK growK firstRows sttK
  rw [List.flatMap_cons, List.flatMap_nil, List.append_nil, if_neg (by omega), Nat.sub_zero, List.range_eq_range']
  rfl
theorem rowsK_two (n k : Nat) : rowsK n (k + 2) = nextRows n (rowsK n (k + 1)) := by
  show nextK n (k + 1) _ = _
  have e : growK n (k + 1) = growRow n := by
    funext r
    unfold growK growRow sttK
    rw [if_pos (by omega)]
  unfold nextK nextRows
  rw [e]
theorem rowsFrom_K (n : Nat) : ∀ f k, rowsFrom n f (rowsK n (k + 1)) = (List.range' (k + 1) f).flatMap (rowsK n)
  | 0, _ => rfl
  | f + 1, k => by
    show rowsK n (k + 1) ++ rowsFrom n f (nextRows n (rowsK n (k + 1))) = _
    rw [← rowsK_two, rowsFrom_K n f (k + 1), List.range'_succ, List.flatMap_cons]
theorem lotRows_K (n : Nat) : lotRows n = (List.range' 1 n).flatMap (rowsK n) := by
  unfold lotRows
  rw [← rowsK_one, rowsFrom_K]
theorem lotRows_few (n : Nat) : (lotRows n).length ≤ n * 2 ^ n := by
  rw [lotRows_K]
  have h := flatMap_len (f := rowsK n) (m := 2 ^ n) (l := List.range' 1 n) fun x _ => rowsK_len n x
  rw [List.length_range'] at h
  exact h
/-- rows that lie in range tell the choices of so many of the things, which lie in the heap -/
def subsOf (xs : List V) (rows : List (List Nat)) : List (List V) := rows.map fun r => r.map fun k => xs.getD k V.non
def spChoicesOf (K : PySem.W.Frag) : Sp := fun vs H Q _ => ∃ (a : Addr) (xs : List V) (m : Nat), vs = [.ref a, .int (m : Int)] ∧ (SqL K H a xs ∨ SqT K H a xs) ∧ xs.length ≤ 12 ∧ m ≤ 12 ∧
  ∀ (D : Addr) (ws : List V) (H' : Hp), H D = none → Same H H' → H' D = some (.lst ws) → Ats H' (fun l => l) ws (subsOf xs (rowsK xs.length m)) → Q (.ref D) H'
def spChoices (K : PySem.W.Frag) : Sp := fun vs H Q _ => ∃ (a : Addr) (xs : List V), vs = [.ref a] ∧ (SqL K H a xs ∨ SqT K H a xs) ∧ xs.length ≤ 12 ∧
  ∀ (D : Addr) (ws : List V) (H' : Hp), H D = none → Same H H' → H' D = some (.lst ws) → Ats H' (fun l => l) ws (subsOf xs (lotRows xs.length)) → Q (.ref D) H'
theorem subsOf_map {rows : List (List Nat)} (zs : List Str) (h : ∀ r ∈ rows, ∀ x ∈ r, x < zs.length) : subsOf (zs.map V.str) rows = (rows.map fun r => r.map fun k => zs.getD k Str.empty).map fun l => l.map V.str := by
  unfold subsOf
  rw [List.map_map]
  apply List.map_congr_left
  intro r hr
  show _ = (r.map fun k => zs.getD k Str.empty).map V.str
  rw [List.map_map]
  apply List.map_congr_left
  intro k hk
  have hkn := h r hr k hk
  show (zs.map V.str).getD k V.non = V.str (zs.getD k Str.empty)
  rw [List.getD_eq_getElem?_getD, List.getD_eq_getElem?_getD, List.getElem?_map, List.getElem?_eq_getElem hkn]
  rfl
theorem Ats.ofMap {α β : Type} {H : Hp} {g : β → List V} {f : α → β} {vs : List V} {xs : List α} (a : Ats H g vs (xs.map f)) : Ats H (fun x => g (f x)) vs xs := ⟨by rw [a.1, List.length_map], fun i v x h1 h2 => a.2 i v (f x) h1 (by rw [List.getElem?_map, h2]; rfl)⟩
/-- what choices tells of names are the lots -/
theorem lots_of_choices {H : Hp} {ws : List V} {zs : List Str} (a : Ats H (fun l => l) ws (subsOf (zs.map V.str) (lotRows (zs.map V.str).length))) : Ats H (fun l => l.map V.str) ws (lotsOf zs) := by
  rw [List.length_map, subsOf_map zs (fun r hr => (lotRows_ok r hr).choose_spec.lt)] at a
  exact a.ofMap
/-! ### the lots of a chain -/
def longRows (zs : List Str) (l : Nat) : List (List Str) := (List.range (zs.length - l)).map fun i => (zs.drop i).take (l + 1)
def chainLots (zs : List Str) : List (List Str) := (List.range zs.length).flatMap (longRows zs)
theorem longRows_len (zs : List Str) (l : Nat) : (longRows zs l).length = zs.length - l := by
  unfold longRows
  rw [List.length_map, List.length_range]
theorem longRows_at {zs : List Str} {l j : Nat} (h : j < zs.length - l) : (longRows zs l)[j]? = some ((zs.drop j).take (l + 1)) := by
  unfold longRows
  rw [List.getElem?_map, List.getElem?_range h]
  rfl
def spNeigh : Sp := fun vs H Q _ => ∃ (a : Addr) (zs : List Str), vs = [.ref a] ∧ H a = some (.tup (zs.map V.str)) ∧ zs.length ≤ 100 ∧
  ∀ (D : Addr) (ws : List V) (H' : Hp), H D = none → Same H H' → H' D = some (.lst ws) → Ats H' (fun l => l.map V.str) ws (chainLots zs) → Q (.ref D) H'
end Bk

namespace Bk
open PySem PySem.Spec PyProof.Rows L2
/-! ### an own error with one field -/
def spExcInit (C : Addr) (f : Str) : Sp := fun vs H Q _ => ∃ (a : Addr) (v : V), vs = [.ref a, v] ∧ H a = some (exo a C none) ∧ ∀ dx, H dx = none → dx ≠ a → Q .non (upd (upd H dx (exd dx [(f, v)])) a (exo a C (some dx)))
/-- what the top has written of the error's class C, whose __init__ stands at fI and stores f -/
structure ExT (K : PySem.W.Frag) (mg : Str → Option Value) (x : Str) (C fI : Addr) (f : Str) : Prop where
  g : mg x = some (.ref C)
  o : OexC K C
  xf : XfC K C
  noF : PySem.W.findIn K (.ref C) f = some none
  iC : PySem.W.findIn K (.ref C) "__init__" = some (some (.ref fI))
  tI : PySem.W.typeIn K (.ref fI) = some (.type "function")
  te : PySem.W.exmOne K (.ref C) (.ref C) = some true
/-- the heap behind the making of an error that carries v under f in its dict d -/
def ExcAt (H : Hp) (d : Addr) (f : Str) (v : V) (H' : Hp) : Prop := H d = none ∧ Same H H' ∧ H' d = some (.xd [(f, v)])
/-- raise C(e): the reading, made easy -/
theorem mkO_of {C : Addr} {f : Str} {ta : TA} {σ : L2.St} {H : Hp} {Q : XK} {v : V} {H1 : Hp} (ha : ∀ R : List V → Hp → Prop, R [v] H1 → ta σ H R) (h : ∀ d H', ExcAt H1 d f v H' → Q (.ref C) (some d) H') : tMkO C (spExcInit C f) [] ta σ H Q := by
  refine ha _ ⟨show 1 ≤ 1000 by decide, fun a na => ⟨a, v, rfl, upd_same, fun dx ndx hne => ⟨rfl, dx, [(f, v)], upd_same, ?_, ?_, ?_⟩⟩⟩
  · rw [upd_ne hne, upd_same]
  · rw [upd_ne hne] at ndx
    exact ndx
  · rw [upd_ne hne] at ndx
    refine h dx _ ⟨ndx, fun b o e => ?_, upd_same⟩
    have nb : b ≠ dx := ne_of_none e ndx
    have na' : b ≠ a := ne_of_none e na
    rw [upd_ne nb, del_ne na', upd_ne na', upd_ne nb, upd_ne na']
    exact e
/-! ### Folders as an object -/
def placesOf (ls : List (List Str)) : List (List Key × V) := ls.zipIdx.foldl (fun acc (p : List Str × Nat) => putK acc (p.1.map Sum.inr) (V.int (p.2 : Int))) []
theorem places_snoc {ls : List (List Str)} {i : Nat} {l : List Str} (h : ls[i]? = some l) : placesOf (ls.take (i + 1)) = putK (placesOf (ls.take i)) (l.map Sum.inr) (V.int (i : Int)) := by
  have hi := (List.getElem?_eq_some_iff.mp h).1
  unfold placesOf
  rw [take_succ h, List.zipIdx_append, List.foldl_append]
  have e : (ls.take i).length = i := by rw [List.length_take]; omega
  rw [e, Nat.zero_add]
  rfl
theorem places_len : ∀ ls : List (List Str), (placesOf ls).length ≤ ls.length := by
  intro ls
  have h : ∀ (l : List (List Str × Nat)) (acc : List (List Key × V)), (l.foldl (fun acc (p : List Str × Nat) => putK acc (p.1.map Sum.inr) (V.int (p.2 : Int))) acc).length ≤ acc.length + l.length := by
    intro l
    induction l with
    | nil => intro acc; exact Nat.le_refl _
    | cons x r ih =>
      intro acc
      have h1 := ih (putK acc (x.1.map Sum.inr) (V.int (x.2 : Int)))
      have h2 := length_putK acc (x.1.map Sum.inr) (V.int (x.2 : Int))
      show (r.foldl _ (putK acc (x.1.map Sum.inr) (V.int (x.2 : Int)))).length ≤ acc.length + (r.length + 1)
      omega
  have := h ls.zipIdx []
  rw [List.length_zipIdx] at this
  simpa [placesOf] using this
def foldersF (t pd : Addr) (ch : Bool) : List (Str × V) := [("names", .ref t), ("chain", .bl ch), ("places", .ref pd)]
def lotsFor (ch : Bool) (zs : List Str) : List (List Str) := if ch then chainLots zs else lotsOf zs
def mostFor (ch : Bool) : Nat := if ch then 12 else 5
/-- Folders of the names zs stand at x -/
def FoldersAt (C : Addr) (H : Hp) (x : Addr) (zs : List Str) (ch : Bool) : Prop := ∃ dx t pd, H x = some (.ins C dx (foldersF t pd ch)) ∧ H t = some (.tup (zs.map V.str)) ∧ H pd = some (.dT (placesOf (lotsFor ch zs)))
def spFolders (K : PySem.W.Frag) (C CB : Addr) : Sp := fun vs H Q E => ∃ (x dx : Addr) (nm : V) (o : Option (List V)) (ch : Bool), vs = [.ref x, nm, .bl ch] ∧ H x = some (.ins C dx []) ∧ Thing K H nm o ∧
  (∀ i d H', wrongOf o (mostFor ch) = some i → ExcAt H d "index" (.int (i : Int)) H' → E (.ref CB) (some d) H') ∧
  (∀ zs H', wrongOf o (mostFor ch) = none → o = some (zs.map V.str) → zs.Nodup → FoldersAt C H' x zs ch → (∀ b u, b ≠ x → H b = some u → H' b = some u) → Q .non H')
structure FolT (K : PySem.W.Frag) (mg : Str → Option Value) (C fI : Addr) : Prop where
  g : mg "Folders" = some (.ref C)
  cl : Cls K C
  nN : NoAttr K C "names"
  nC : NoAttr K C "chain"
  nP : NoAttr K C "places"
  make : Mk K C fI
theorem put1 (v : V) : putF "names" v [] = ([("names", v)] : List (Str × V)) := rfl
theorem put2 (v c : V) : putF "chain" c ([("names", v)] : List (Str × V)) = ([("names", v), ("chain", c)] : List (Str × V)) := by
  have h : ¬ (("names" : Str) = "chain") := by decide +kernel
  simp [putF, h]
theorem put3 (v c p : V) : putF "places" p ([("names", v), ("chain", c)] : List (Str × V)) = ([("names", v), ("chain", c), ("places", p)] : List (Str × V)) := by
  have h : ¬ (("names" : Str) = "places") := by decide +kernel
  have h2 : ¬ (("chain" : Str) = "places") := by decide +kernel
  simp [putF, h, h2]
theorem look_n2 (t : Addr) (c : V) : List.lookup ("names" : Str) ([("names", .ref t), ("chain", c)] : List (Str × V)) = some (.ref t) := by
  simp [List.lookup]
theorem look_names (t pd : Addr) (ch : Bool) : (foldersF t pd ch).lookup ("names" : Str) = some (.ref t) := by
  show List.lookup ("names" : Str) [(("names" : Str), V.ref t), ("chain", .bl ch), ("places", .ref pd)] = _
  simp [List.lookup]
/-- all but the object at x stays -/
def But (x : Addr) (H H' : Hp) : Prop := ∀ b u, b ≠ x → H b = some u → H' b = some u
theorem But.trans {x : Addr} {H H1 H2 : Hp} (a : But x H H1) (b : But x H1 H2) : But x H H2 := fun c u n e => b c u n (a c u n e)
theorem But.same {x : Addr} {H H' : Hp} (a : Same H H') : But x H H' := fun c u _ e => a c u e
theorem But.upd {x : Addr} {H : Hp} {o : HO} : But x H (L2.upd H x o) := fun c u n e => by rw [upd_ne n]; exact e
theorem rows_few : ∀ n, n < 6 → (lotRows n).length ≤ 31 := by decide +kernel
theorem lots_few {ch : Bool} {zs : List Str} (h : zs.length ≤ mostFor ch) : (lotsFor ch zs).length ≤ 2000 := by
  cases ch with
  | true =>
    have h : zs.length ≤ 12 := h
    have := flatMap_len (f := longRows zs) (m := 100) (l := List.range zs.length) fun x _ => by rw [longRows_len]; omega
    rw [List.length_range] at this
    show (chainLots zs).length ≤ 2000
    unfold chainLots
    omega
  | false =>
    have h : zs.length ≤ 5 := h
    have := rows_few zs.length (by omega)
    show (lotsOf zs).length ≤ 2000
    unfold lotsOf
    rw [List.length_map]
    omega
end Bk

namespace Bk
open PySem PySem.Spec PyProof.Rows L2
section
variable {P : Program} {w : World} {K : PySem.W.Frag} {mg : Str → Option Value} {base : Heap}
theorem startK {n k : Nat} {σ : L2.St} {H : Hp} {R : VK} {b : Addr} {row : List Nat} (h3 : σ[3]? = some (some (.int (0 + (k : Int))))) (h4 : σ[4]? = some (some (.ref b))) (hb : SqT K H b (rowV row)) (hrow : RowK n k row) (r : R (.int (sttK k row : Int)) H) :
    tIf (tTest (tOp (rI0 fun i j => V.bl (decide (j < i))) (tVar 3) (tC (V.int 0)))) (tOp (rI0 fun i j => V.int (i + j)) (tOp (rIxT K) (tVar 4) (tUn (rU fun i => V.int (-i)) (tC (V.int 1)))) (tC (V.int 1))) (tC (V.int 0)) σ H R := by
  refine ⟨_, h3, _, _, rfl, rfl, _, rfl, ?_⟩
  unfold sttK at r
  rcases hrow with ⟨rfl, rfl⟩ | ⟨k', rfl, o⟩
  · rw [if_neg (by omega)] at r
    exact iteF r
  · rw [if_pos (by omega)] at r
    rw [show decide ((0 : Int) < 0 + ((k' + 1 : Nat) : Int)) = true from decide_eq_true (by omega)]
    refine iteT ?_
    exact ⟨_, h4, 1, rfl, b, _, _, _, rfl, rfl, hb, at_last o.ne, _, _, rfl, rfl, r⟩
theorem scChoicesOf : FnScope ["things", "many", "rows", "k", "row", "at"] ["things", "many"] (defScope (topS 35)) := ⟨rfl, rfl, rfl, by decide +kernel, rfl, by decide +kernel, by decide +kernel⟩
theorem ok_choices_of (B : Bi mg) {f : Addr} {fd : FuncData} (F : Fun K "choices_of" "choices_of" (topS 35) f fd) : FnOk P w K mg base CX0 1 f fd ["things", "many"] (spChoicesOf K) := by
  refine F.ok scChoicesOf (fun vs H Q E h => ?_) (fun cdv A outer s H vs Q E hr h => ?_)
  · obtain ⟨a, xs, m, rfl, _⟩ := h
    rfl
  · obtain ⟨a, xs, m, rfl, hS, hl, hm, q⟩ := h
    have nd := scChoicesOf.nd
    have hu := hu_of hr
    have hpow : 2 ^ xs.length ≤ 2 ^ 12 := Nat.pow_le_pow_right (by decide) hl
    have hp12 : 2 ^ 12 = 4096 := by decide
    refine ⟨_, (Evl.pss_cut (ps_set (i := 2) nd rfl (Or.inl rfl) (pe_lst (pa_cons (pe_tup pa_nil) pa_nil)))
      (Evl.pss_cut (ps_for PassesOwn.never rfl (pi_range1 (by rfl) B.range (pa_cons (pv 1) pa_nil)) (pg_name (i := 3) nd rfl (Or.inr rfl)) (pss_one (ps_setLc2 (i := 2) (own := [("row", 4), ("at", 5)]) (vs1 := [5]) rfl nd rfl rfl (sw_true rfl rfl rfl (by decide +kernel)) (kPiL K (pv 2)) (blkOk_by (N := ["things", "many", "rows", "k", "row", "at"]) (sc := defScope (topS 35)) (by decide +kernel)) (by decide) (fun _ _ _ _ _ => (pg_name (i := 4) nd rfl (Or.inl rfl))) (fun _ _ _ _ _ => pts_nil) (fun _ _ _ _ _ => (pi_range2 (by rfl) B.range (pa_cons (pe_ifExp (pt_cmpR op_gt (pv 3) pe_int (nomark _)) (pe_op op_add (pe_ix (kIxT K) (pv 4) (pe_un un_neg pe_int) (fun _ _ => rfl)) pe_int) pe_int) (pa_cons (pe_callB (kLen K) (by rfl) B.len PySem.boot_len (pa_cons (pv 0) pa_nil)) pa_nil)))) (fun _ _ _ _ _ => (pg_name (i := 5) nd rfl (Or.inl rfl))) (fun _ _ _ _ _ => pts_nil) (fun _ _ _ _ _ => (pe_op (kCatA K) (pv 4) (pe_tup (pa_cons (pv 5) pa_nil)))))))
      (pss_one (ps_ret (pe_lc (own := [("row", 4)]) rfl nd (kPiL K (pv 2)) (blkOk_by (N := ["things", "many", "rows", "k", "row", "at"]) (sc := defScope (topS 35)) (by decide +kernel)) (fun _ _ _ _ _ => (pg_name (i := 4) nd rfl (Or.inl rfl))) (fun _ _ _ _ _ => pts_nil) (fun _ _ _ _ _ => (kTupleOf K (by rfl) B.tuple (pe_lc (own := [("at", 5)]) rfl nd (kPiT K (pv 4)) (blkOk_by (by with_unfolding_all rfl)) (fun _ _ _ _ _ => (pg_name (i := 5) nd rfl (Or.inl rfl))) (fun _ _ _ _ _ => pts_nil) (fun _ _ _ _ _ => (pe_ix (kIx K) (pv 0) (pv 5) (fun _ _ => rfl))))))))))), ?_⟩
    -- rows = [()]
    refine ⟨fun σ1 H1 => ∃ (d t : Addr), σ1 = [some (.ref a), some (.int (m : Int)), some (.ref d), none, none, none] ∧ Same H H1 ∧ H1 d = some (.lst [.ref t]) ∧ H1 t = some (.tup []), ?_, ?_⟩
    · refine ⟨Nat.zero_le _, fun t nt => ⟨by show 1 ≤ sizeLine; decide, fun d nd0 => ?_⟩⟩
      have et := same_upd (o := HO.tup []) nt
      have ed := same_upd (o := HO.lst [V.ref t]) nd0
      exact ⟨d, t, rfl, Same.trans et ed, upd_same, ed _ _ upd_same⟩
    rintro σ1 H1 ⟨d, t, rfl, e1, hd1, ht1⟩
    -- for k in range(many)
    refine ⟨fun σ2 H2 => ∃ (r : Addr) (v3 v4 v5 : Option V) (us : List V), σ2 = [some (.ref a), some (.int (m : Int)), some (.ref r), v3, v4, v5] ∧ Same H H2 ∧ H2 r = some (.lst us) ∧ Ats H2 rowV us (rowsK xs.length m), ?_, ?_⟩
    · refine ⟨_, rfl, (m : Int), rfl, by omega, by omega, ?_⟩
      refine for_it walk_range (fun k σ' H' => ∃ (r : Addr) (v3 v4 v5 : Option V) (us : List V), σ' = [some (.ref a), some (.int (m : Int)), some (.ref r), v3, v4, v5] ∧ Same H H' ∧ H' r = some (.lst us) ∧ Ats H' rowV us (rowsK xs.length k)) ?_ (fun _ _ _ _ _ => trivial) ?_ ?_
      · exact ⟨d, none, none, none, [.ref t], rfl, e1, hd1, Ats.one ht1⟩
      · rintro k x σ' H0 H2 hk ⟨r, v3, v4, v5, us, rfl, e2, hr2, at2⟩ ⟨rfl, rfl⟩
        have hok := rowsK_ok xs.length k
        refine ⟨_, rfl, r, rfl, ⟨_, SqL.of hr2⟩, fun D nD => ?_⟩
        refine outer_it (walk_list (xs := us)) (fun i H' => ∃ vs2, Same H2 H' ∧ H' D = some (.lst vs2) ∧ Ats H' rowV vs2 (nextK xs.length k ((rowsK xs.length k).take i))) ?_ (fun i H' _ ⟨_, e5, _⟩ => SqL.of (e5 _ _ hr2)) ?_ ?_
        · exact ⟨[], same_upd nD, upd_same, .nil⟩
        · rintro i x H5 H6 hi ⟨vs2, e5, hD, at5⟩ ⟨rfl, hx⟩
          have hir : i < (rowsK xs.length k).length := by rw [← at2.1]; exact hi
          obtain ⟨row, hrow⟩ : ∃ row, (rowsK xs.length k)[i]? = some row := ⟨_, List.getElem?_eq_getElem hir⟩
          obtain ⟨b, rfl, hb⟩ := at2.2 i x row hx hrow
          have o := hok row (List.mem_of_getElem? hrow)
          have hst := sttK_le o
          refine ⟨rfl, yes2 ?_⟩
          refine startK rfl rfl (SqT.of (e5 _ _ hb)) o ?_
          refine ⟨_, rfl, .ref a, xs.length, rfl, hS.imp (fun z => ⟨_, (Same.trans e2 e5).seq z, rfl⟩) (fun z => ⟨_, Same.sqt (Same.trans e2 e5) z, rfl⟩), _, _, rfl, ⟨by omega, by omega, by omega, by omega⟩, ?_⟩
          refine inner_it walk_range (fun j H' => ∃ vs3, Same H2 H' ∧ H' D = some (.lst vs3) ∧ Ats H' rowV vs3 (nextK xs.length k ((rowsK xs.length k).take i) ++ (growK xs.length k row).take j)) ?_ (fun _ _ _ _ => trivial) ?_ ?_
          · exact ⟨vs2, e5, hD, by rw [List.take_zero, List.append_nil]; exact at5⟩
          · rintro j x H7 H8 hj ⟨vs3, e7, hD7, at7⟩ ⟨rfl, rfl⟩
            have hj : j < xs.length - sttK k row := by omega
            refine ⟨rfl, yes2 ?_⟩
            have fin : ∀ (b' : Addr) (H9 : Hp), Same H8 H9 → H9 b' = some (.tup (rowV (row ++ [sttK k row + j]))) → ∃ acc, H9 D = some (.lst acc) ∧ acc.length < sizeLine ∧ ∃ vs3, Same H2 (upd H9 D (.lst (acc ++ [.ref b']))) ∧ (upd H9 D (.lst (acc ++ [.ref b']))) D = some (.lst vs3) ∧
                Ats (upd H9 D (.lst (acc ++ [.ref b']))) rowV vs3 (nextK xs.length k ((rowsK xs.length k).take i) ++ (growK xs.length k row).take (j + 1)) := by
              intro b' H9 e9 hb'
              have hD9 := e9 _ _ hD7
              have lenv : vs3.length ≤ 4096 + 12 := by
                rw [at7.1, List.length_append]
                have h1 := nextK_take_len (n := xs.length) (k := k) i
                have h3 : ((growK xs.length k row).take j).length ≤ 12 := by
                  rw [List.length_take, growK_length]
                  omega
                omega
              refine ⟨vs3, hD9, Evl.sz_lt (by omega), vs3 ++ [.ref b'], Same.grow (Same.trans e7 e9) nD, upd_same, ?_⟩
              refine Ats.updL ?_ hD9
              rw [take_succ (growK_at hj), ← List.append_assoc]
              exact (at7.same e9).append (Ats.one hb')
            refine ⟨_, rfl, _, rfl, by show 1 ≤ sizeLine; decide, fun p np => ?_⟩
            have ep := same_upd (o := HO.tup [V.int ((sttK k row : Int) + (j : Int))]) np
            have ev : rowV (row ++ [sttK k row + j]) = rowV row ++ [V.int ((sttK k row : Int) + (j : Int))] := by
              unfold rowV
              rw [List.map_append]
              show _ ++ [V.int ((sttK k row + j : Nat) : Int)] = _
              rw [show ((sttK k row + j : Nat) : Int) = (sttK k row : Int) + (j : Int) by omega]
            refine ⟨b, p, rowV row, _, rfl, rfl, SqT.of (ep _ _ (e7 _ _ hb)), SqT.of upd_same, ?_, fun z => ?_, fun _ z => ?_, fun _ _ t nt => ?_⟩
            · rw [rowV_len, o.len]
              refine Evl.sz_of ?_
              show k + 1 ≤ 100000
              omega
            · refine fin p _ ep ?_
              rw [upd_same, ev, z]
              rfl
            · cases z
            · refine fin t _ (Same.trans ep (same_upd nt)) ?_
              rw [upd_same, ev]
          · rintro H7 ⟨vs3, e7, hD7, at7⟩
            refine ⟨vs3, e7, hD7, ?_⟩
            have eg : (growK xs.length k row).take ((xs.length : Int) - (sttK k row : Int)).toNat = growK xs.length k row := List.take_of_length_le (by rw [growK_length]; omega)
            rw [eg] at at7
            rw [nextK_snoc hrow]
            exact at7
        · rintro H5 ⟨vs2, e5, hD, at5⟩
          rw [List.take_of_length_le (by rw [← at2.1]; exact Nat.le_refl _)] at at5
          exact ⟨D, _, _, _, vs2, rfl, Same.trans e2 e5, hD, at5⟩
      · rintro σ' H2 ⟨r, v3, v4, v5, us, rfl, e2, hr2, at2⟩
        exact ⟨r, v3, v4, v5, us, rfl, e2, hr2, at2⟩
    rintro σ3 H3 ⟨r, v3, v4, v5, us, rfl, e3, hr3, at3⟩
    -- the things of each row
    have hok := rowsK_ok xs.length m
    have lenus : us.length = (rowsK xs.length m).length := at3.1
    have hlen := rowsK_len xs.length m
    refine ⟨_, rfl, r, rfl, ⟨_, SqL.of hr3⟩, fun D nD => ?_⟩
    refine lc_it (walk_list (xs := us)) (fun i H' => ∃ vs2, Same H3 H' ∧ H' D = some (.lst vs2) ∧ Ats H' (fun l => l) vs2 ((subsOf xs (rowsK xs.length m)).take i)) ?_ (fun i H' _ ⟨_, e5, _⟩ => SqL.of (e5 _ _ hr3)) ?_ ?_
    · exact ⟨[], same_upd nD, upd_same, .nil⟩
    · rintro i x H5 H6 hi ⟨vs2, e5, hD, at5⟩ ⟨rfl, hx⟩
      have hir : i < (rowsK xs.length m).length := by rw [← at3.1]; exact hi
      obtain ⟨row, hrow⟩ : ∃ row, (rowsK xs.length m)[i]? = some row := ⟨_, List.getElem?_eq_getElem hir⟩
      obtain ⟨b, rfl, hb⟩ := at3.2 i x row hx hrow
      have o := hok row (List.mem_of_getElem? hrow)
      refine ⟨rfl, yes2 ?_⟩
      refine ⟨_, rfl, b, rfl, ⟨_, SqT.of (e5 _ _ hb)⟩, fun D2 nD2 => ?_⟩
      refine lc_it (walk_tup (xs := rowV row)) (Upto H6 D2 row fun k => xs.getD k .non) (.zero nD2) (fun j H' _ u => SqT.of (u.sm _ _ (e5 _ _ hb))) ?_ ?_
      · rintro j x H7 H8 hj u ⟨rfl, hx2⟩
        unfold rowV at hx2
        rw [List.getElem?_map] at hx2
        obtain ⟨k, hk, rfl⟩ := Option.map_eq_some_iff.mp hx2
        have hkn : k < xs.length := o.lt k (List.mem_of_getElem? hk)
        have ea : xs[k]? = some (xs.getD k .non) := by rw [List.getD_eq_getElem?_getD, List.getElem?_eq_getElem hkn]; rfl
        have hj12 : j < 12 := by
          have h1 := o.len
          have h2 : j < (rowV row).length := hj
          rw [rowV_len] at h2
          omega
        refine ⟨rfl, yes2 ?_⟩
        have eH := Same.trans e3 (Same.trans e5 u.sm)
        refine ⟨_, rfl, _, rfl, ?_⟩
        rcases hS with z | z
        · exact .inl ⟨a, xs, (k : Int), _, rfl, rfl, eH.seq z, atI_nat ea, u.next nD2 hk (Same.refl _) (by have := o.len; omega)⟩
        · exact .inr (.inl ⟨a, xs, (k : Int), _, rfl, rfl, Same.sqt eH z, atI_nat ea, u.next nD2 hk (Same.refl _) (by have := o.len; omega)⟩)
      · intro H7 u
        have eD2 := u.all (rowV_len row)
        refine .inl ⟨D2, _, rfl, SqL.of eD2, fun p np => ?_⟩
        have ep := same_upd (o := HO.tup (row.map fun k => xs.getD k V.non)) np
        have hD7 := ep _ _ (u.sm _ _ hD)
        have hlot : (subsOf xs (rowsK xs.length m))[i]? = some (row.map fun k => xs.getD k V.non) := by
          unfold subsOf
          rw [List.getElem?_map, hrow]
          rfl
        refine ⟨vs2, hD7, Evl.sz_lt ?_, vs2 ++ [.ref p], Same.grow (Same.trans e5 (Same.trans u.sm ep)) nD, upd_same, ?_⟩
        · rw [at5.1, List.length_take]
          unfold subsOf
          rw [List.length_map]
          omega
        · refine Ats.updL ?_ hD7
          rw [take_succ hlot]
          exact ((at5.same u.sm).same ep).append (Ats.one upd_same)
    · rintro H5 ⟨vs2, e5, hD, at5⟩
      rw [List.take_of_length_le (by unfold subsOf; rw [List.length_map, lenus]; exact Nat.le_refl _)] at at5
      exact q D vs2 H5 (e3.free nD) (Same.trans e3 e5) hD at5
theorem scChoices : FnScope ["things", "many", "choice"] ["things"] (defScope (topS 34)) := ⟨rfl, rfl, rfl, by decide +kernel, rfl, by decide +kernel, by decide +kernel⟩
theorem ok_choices (B : Bi mg) {f f1 : Addr} {fd fd1 : FuncData} (c_choices_of : Cal P w K mg base CX0 1 "choices_of" f1 fd1 ["things", "many"] (spChoicesOf K)) (F : Fun K "choices" "choices" (topS 34) f fd) : FnOk P w K mg base CX0 2 f fd ["things"] (spChoices K) := by
  refine F.ok scChoices (fun vs H Q E h => ?_) (fun cdv A outer s H vs Q E hr h => ?_)
  · obtain ⟨a, xs, rfl, _⟩ := h
    rfl
  · obtain ⟨a, xs, rfl, hS, hl, q⟩ := h
    have nd := scChoices.nd
    have hu := hu_of hr
    have hr_choices_of := hr
    have hpow : 2 ^ xs.length ≤ 2 ^ 12 := Nat.pow_le_pow_right (by decide) hl
    have hp12 : 2 ^ 12 = 4096 := by decide
    have hcl : ∀ i, i ≤ 12 → ((List.range' 1 i).flatMap (rowsK xs.length)).length ≤ 12 * 4096 := fun i hi => by
      have h := flatMap_len (f := rowsK xs.length) (m := 4096) (l := List.range' 1 i) fun x _ => by have := rowsK_len xs.length x; omega
      rw [List.length_range'] at h
      exact Nat.le_trans h (Nat.mul_le_mul_right _ hi)
    refine ⟨_, (pss_one (ps_ret (pe_lc2 (own := [("many", 1), ("choice", 2)]) (vs1 := [2]) rfl nd (pi_range2 (by rfl) B.range (pa_cons pe_int (pa_cons (pe_op op_add (pe_callB (kLen K) (by rfl) B.len PySem.boot_len (pa_cons (pv 0) pa_nil)) pe_int) pa_nil))) (blkOk_by (N := ["things", "many", "choice"]) (sc := defScope (topS 34)) (by decide +kernel)) (by decide) (fun _ _ _ _ _ => (pg_name (i := 1) nd rfl (Or.inl rfl))) (fun _ _ _ _ _ => pts_nil) (fun _ _ _ _ _ => (kPiL K (pe_call c_choices_of.ok hr_choices_of (by rfl) c_choices_of.g c_choices_of.kp c_choices_of.b .nil pass0 (pa_cons (pv 0) (pa_cons (pv 1) pa_nil))))) (fun _ _ _ _ _ => (pg_name (i := 2) nd rfl (Or.inl rfl))) (fun _ _ _ _ _ => pts_nil) (fun _ _ _ _ _ => (pv 2))))), ?_⟩
    refine ⟨.ref a, rfl, .ref a, xs.length, rfl, hS.imp (fun z => ⟨_, z, rfl⟩) (fun z => ⟨_, z, rfl⟩), _, _, rfl, rfl, _, _, rfl, ⟨by omega, by omega, by omega, by omega⟩, fun D nD => ?_⟩
    have en : ((xs.length : Int) + 1 - 1).toNat = xs.length := by omega
    rw [en]
    refine outer_it walk_range (fun i H' => ∃ ws, Same H H' ∧ H' D = some (.lst ws) ∧ Ats H' (fun l => l) ws (subsOf xs ((List.range' 1 i).flatMap (rowsK xs.length)))) ?_ (fun _ _ _ _ => trivial) ?_ ?_
    · exact ⟨[], same_upd nD, upd_same, .nil⟩
    · rintro i x H0 H6 hi ⟨ws, e6, hD, at6⟩ ⟨rfl, rfl⟩
      refine ⟨rfl, yes2 ?_⟩
      refine ⟨_, rfl, _, rfl, a, xs, i + 1, ?_, hS.imp (fun z => e6.seq z) (fun z => Same.sqt e6 z), hl, by omega, fun D2 ws2 H8 nD2 e8 hD2 at8 => ?_⟩
      · show [V.ref a, V.int (1 + (i : Int))] = [V.ref a, V.int ((i + 1 : Nat) : Int)]
        rw [show ((i + 1 : Nat) : Int) = 1 + (i : Int) by omega]
      have hD8 := e8 _ _ hD
      have nDD : D2 ≠ D := (ne_of_none hD nD2).symm
      refine ⟨D2, rfl, ⟨_, SqL.of hD2⟩, ?_⟩
      refine inner_it (walk_list (xs := ws2)) (fun j H' => ∃ vs3, But D H8 H' ∧ H' D = some (.lst vs3) ∧ Ats H' (fun l => l) vs3 (subsOf xs ((List.range' 1 i).flatMap (rowsK xs.length)) ++ (subsOf xs (rowsK xs.length (i + 1))).take j)) ?_ (fun j H' _ ⟨_, bt, _⟩ => SqL.of (bt _ _ nDD hD2)) ?_ ?_
      · exact ⟨ws, fun _ _ _ e => e, hD8, by rw [List.take_zero, List.append_nil]; exact at6.same e8⟩
      · rintro j x H9 H10 hj ⟨vs3, bt, hD9, at9⟩ ⟨rfl, hx⟩
        have hjr : j < (subsOf xs (rowsK xs.length (i + 1))).length := by rw [← at8.1]; exact hj
        obtain ⟨row, hrow⟩ : ∃ row, (subsOf xs (rowsK xs.length (i + 1)))[j]? = some row := ⟨_, List.getElem?_eq_getElem hjr⟩
        obtain ⟨b, rfl, hb⟩ := at8.2 j x row hx hrow
        refine ⟨rfl, yes2 ?_⟩
        have hlen9 : vs3.length < 60000 := by
          rw [at9.1, List.length_append]
          have h1 : (subsOf xs ((List.range' 1 i).flatMap (rowsK xs.length))).length ≤ 12 * 4096 := by
            unfold subsOf
            rw [List.length_map]
            exact hcl i (by omega)
          have h2 : ((subsOf xs (rowsK xs.length (i + 1))).take j).length ≤ 4096 := by
            rw [List.length_take]
            unfold subsOf
            rw [List.length_map]
            have := rowsK_len xs.length (i + 1)
            omega
          omega
        have nbD : b ≠ D := ne_of hb hD8 (fun z => nomatch z)
        refine ⟨_, rfl, vs3, hD9, Evl.sz_lt (by omega), vs3 ++ [.ref b], bt.trans But.upd, upd_same, ?_⟩
        rw [take_succ hrow, ← List.append_assoc]
        exact (at9.append (Ats.one (bt _ _ nbD hb))).updL hD9
      · rintro H9 ⟨vs3, bt, hD9, at9⟩
        rw [List.take_of_length_le (by rw [at8.1]; exact Nat.le_refl _)] at at9
        refine ⟨vs3, fun b u hb => bt _ _ (ne_of_none hb nD) (e8 _ _ (e6 _ _ hb)), hD9, ?_⟩
        have ee : subsOf xs ((List.range' 1 (i + 1)).flatMap (rowsK xs.length)) = subsOf xs ((List.range' 1 i).flatMap (rowsK xs.length)) ++ subsOf xs (rowsK xs.length (i + 1)) := by
          rw [List.range'_concat, List.flatMap_append, List.flatMap_cons, List.flatMap_nil, List.append_nil]
          unfold subsOf
          rw [List.map_append, show 1 + 1 * i = i + 1 by omega]
        rw [ee]
        exact at9
    · rintro H5 ⟨ws, e5, hD, at5⟩
      rw [← lotRows_K] at at5
      exact q D ws H5 nD e5 hD at5
end
end Bk

namespace Bk
open PySem PySem.Spec PyProof.Rows L2
section
variable {P : Program} {w : World} {K : PySem.W.Frag} {mg : Str → Option Value} {base : Heap}
theorem scNeigh : FnScope ["names", "many", "long", "at"] ["names"] (defScope (topS 36)) := ⟨rfl, rfl, rfl, by decide +kernel, rfl, by decide +kernel, by decide +kernel⟩
theorem ok_neigh (B : Bi mg) {f : Addr} {fd : FuncData} (F : Fun K "rows_of_neighbours" "rows_of_neighbours" (topS 36) f fd) : FnOk P w K mg base CX0 1 f fd ["names"] spNeigh := by
  refine F.ok scNeigh (fun vs H Q E h => ?_) (fun cdv A outer s H vs Q E hr h => ?_)
  · obtain ⟨a, zs, rfl, _⟩ := h
    rfl
  · obtain ⟨a, zs, rfl, hS, hl, q⟩ := h
    have nd := scNeigh.nd
    have hu := hu_of hr
    refine ⟨_, (pss_cons (ps_set (i := 1) nd rfl (Or.inr rfl) (pe_callB (kLen K) (by rfl) B.len PySem.boot_len (pa_cons (pv 0) pa_nil)))
      (pss_one (ps_ret (pe_lc2 (own := [("long", 2), ("at", 3)]) (vs1 := [3]) rfl nd (pi_range2 (by rfl) B.range (pa_cons pe_int (pa_cons (pe_op op_add (pv 1) pe_int) pa_nil))) (blkOk_by (N := ["names", "many", "long", "at"]) (sc := defScope (topS 36)) (by decide +kernel)) (by decide) (fun _ _ _ _ _ => (pg_name (i := 2) nd rfl (Or.inl rfl))) (fun _ _ _ _ _ => pts_nil) (fun _ _ _ _ _ => (pi_range1 (by rfl) B.range (pa_cons (pe_op op_sub (pe_op op_add (pv 1) pe_int) (pv 2)) pa_nil))) (fun _ _ _ _ _ => (pg_name (i := 3) nd rfl (Or.inl rfl))) (fun _ _ _ _ _ => pts_nil) (fun _ _ _ _ _ => (pe_slice (kSlT K) (pv 0) (po_some (pv 3)) (po_some (pe_op op_add (pv 3) (pv 2))))))))), ?_⟩
    refine ⟨_, rfl, .ref a, zs.length, rfl, .inr ⟨_, SqT.of hS, by rw [List.length_map]⟩, ?_⟩
    refine ⟨_, rfl, _, _, rfl, rfl, _, _, rfl, ⟨by omega, by omega, by omega, by omega⟩, fun D nD => ?_⟩
    have hcl : ∀ k, ((List.range k).flatMap (longRows zs)).length ≤ k * 100 := fun k => by
      have := flatMap_len (f := longRows zs) (m := 100) (l := List.range k) fun x _ => by rw [longRows_len]; omega
      rw [List.length_range] at this
      exact this
    have en : ((zs.length : Int) + 1 - 1).toNat = zs.length := by omega
    rw [en]
    refine outer_it walk_range (fun i H' => ∃ vs2, Same H H' ∧ H' D = some (.lst vs2) ∧ Ats H' (fun l : List Str => l.map V.str) vs2 ((List.range i).flatMap (longRows zs))) ?_ (fun _ _ _ _ => trivial) ?_ ?_
    · exact ⟨[], same_upd nD, upd_same, .nil⟩
    · rintro i x H5 H6 hi ⟨vs2, e5, hD, at5⟩ ⟨rfl, rfl⟩
      refine ⟨rfl, yes2 ?_⟩
      refine ⟨_, rfl, _, _, rfl, rfl, _, rfl, _, _, rfl, rfl, _, rfl, by omega, by omega, ?_⟩
      have ec : ((zs.length : Int) + 1 - (1 + (i : Int))).toNat = zs.length - i := by omega
      rw [ec]
      refine inner_it walk_range (fun j H' => ∃ vs3, Same H H' ∧ H' D = some (.lst vs3) ∧ Ats H' (fun l : List Str => l.map V.str) vs3 ((List.range i).flatMap (longRows zs) ++ (longRows zs i).take j)) ?_ (fun _ _ _ _ => trivial) ?_ ?_
      · exact ⟨vs2, e5, hD, by rw [List.take_zero, List.append_nil]; exact at5⟩
      · rintro j x H7 H8 hj ⟨vs3, e7, hD7, at7⟩ ⟨rfl, rfl⟩
        refine ⟨rfl, yes2 ?_⟩
        have ecut : cutV (zs.map V.str) (some (0 + (j : Int))) (some (0 + (j : Int) + (1 + (i : Int)))) = ((zs.drop j).take (i + 1)).map V.str := by
          rw [show 0 + (j : Int) = ((j : Nat) : Int) by omega, show (j : Int) + (1 + (i : Int)) = ((j + (i + 1) : Nat) : Int) by omega, cut_mid _ _ _ (by omega) (by rw [List.length_map]; omega), List.map_take, List.map_drop]
          congr 1
          omega
        have hS8 := e7 _ _ hS
        have lenv : vs3.length + 1 ≤ 100000 := by
          rw [at7.1, List.length_append, List.length_take, longRows_len]
          have := hcl i
          omega
        have last : ∀ (b : Addr) (H9 : Hp), Same H8 H9 → H9 b = some (.tup (((zs.drop j).take (i + 1)).map V.str)) → ∃ acc, H9 D = some (.lst acc) ∧ acc.length < sizeLine ∧ ∃ vs3, Same H (upd H9 D (.lst (acc ++ [.ref b]))) ∧ (upd H9 D (.lst (acc ++ [.ref b]))) D = some (.lst vs3) ∧
            Ats (upd H9 D (.lst (acc ++ [.ref b]))) (fun l : List Str => l.map V.str) vs3 ((List.range i).flatMap (longRows zs) ++ (longRows zs i).take (j + 1)) := by
          intro b H9 e9 hb
          have hD9 := e9 _ _ hD7
          refine ⟨vs3, hD9, Evl.sz_lt (by omega), vs3 ++ [.ref b], Same.grow (Same.trans e7 e9) nD, upd_same, ?_⟩
          refine Ats.updL ?_ hD9
          rw [take_succ (longRows_at hj), ← List.append_assoc]
          exact (at7.same e9).append (Ats.one hb)
        refine ⟨_, rfl, _, rfl, _, rfl, _, rfl, _, rfl, _, _, rfl, rfl, _, rfl, a, _, rfl, SqT.of hS8, fun hw => ?_, fun hw p np => ?_⟩
        · refine last a H8 (Same.refl _) ?_
          have e0 : cutV (zs.map V.str) (some (0 + (j : Int))) (some (0 + (j : Int) + (1 + (i : Int)))) = zs.map V.str := by
            unfold cutV
            rw [hw.1, hw.2, List.drop_zero, Nat.sub_zero, List.take_length]
          rw [← ecut, e0]
          exact hS8
        · rw [ecut]
          exact last p _ (same_upd np) upd_same
      · rintro H7 ⟨vs3, e7, hD7, at7⟩
        refine ⟨vs3, e7, hD7, ?_⟩
        have eg : (longRows zs i).take (zs.length - i) = longRows zs i := List.take_of_length_le (by rw [longRows_len]; omega)
        rw [eg] at at7
        rw [List.range_succ, List.flatMap_append, List.flatMap_cons, List.flatMap_nil, List.append_nil]
        exact at7
    · rintro H5 ⟨vs2, e5, hD, at5⟩
      exact q D vs2 H5 nD e5 hD at5
end
end Bk

namespace Bk
open PySem PySem.Spec PyProof.Rows L2
section
variable {P : Program} {w : World} {K : PySem.W.Frag} {mg : Str → Option Value} {base : Heap}
theorem scBF : FnScope ["self", "index"] ["self", "index"] (defScope (inClass (topS 3) 0)) := ⟨rfl, rfl, rfl, by decide +kernel, rfl, by decide +kernel, by decide +kernel⟩
theorem ok_BF {C f : Addr} {fd : FuncData} (T : ExT K mg "BadFolders" C f "index") (F : Fun K "__init__" "BadFolders.__init__" (inClass (topS 3) 0) f fd) : FnOk P w K mg base CX0 1 f fd ["self", "index"] (spExcInit C "index") := by
  refine F.ok scBF (fun vs H Q E h => ?_) (fun cdv A outer s H vs Q E hr h => ?_)
  · obtain ⟨a, v, rfl, _⟩ := h
    rfl
  · obtain ⟨a, v, rfl, ha, q⟩ := h
    refine ⟨_, pss_one (ps_ost (pv 0) (pv 1)), ?_⟩
    exact ⟨_, rfl, _, rfl, a, C, rfl, T.o, T.noF, .inl ⟨ha, fun dx ndx hne => q dx ndx hne⟩⟩
theorem scFol : FnScope ["self", "names", "chain", "wrong", "lots", "at", "lot"] ["self", "names", "chain"] (defScope (inClass (topS 32) 0)) := ⟨rfl, rfl, rfl, by decide +kernel, rfl, by decide +kernel, by decide +kernel⟩
theorem ok_folders (B : Bi mg) {C CB f fB f1 f2 f3 : Addr} {fd fdB fd1 fd2 fd3 : FuncData} {t1 t2 : Tok} {kws : List (Str × V)} (g_MOST_FOLDERS : mg "MOST_FOLDERS" = some (.int 5 t1)) (g_MOST_IN_CHAIN : mg "MOST_IN_CHAIN" = some (.int 12 t2)) (T_BadFolders : ExT K mg "BadFolders" CB fB "index") (T : FolT K mg C f)
    (G_BadFolders : FnOk P w K mg base CX0 1 fB fdB ["self", "index"] (spExcInit CB "index")) (b_BadFolders : Binds K fdB ["self", "index"] [])
    (c_first_wrong : Cal P w K mg base CX0 2 "first_wrong" f1 fd1 ["names", "most"] (spFirstWrong K)) (c_choices : Cal P w K mg base CX0 2 "choices" f2 fd2 ["things"] (spChoices K)) (c_rows_of_neighbours : Cal P w K mg base CX0 1 "rows_of_neighbours" f3 fd3 ["names"] spNeigh)
    (F : FunD K "__init__" "Folders.__init__" (defArgs (inClass (topS 32) 0)) (defBody (inClass (topS 32) 0)) (defScope (inClass (topS 32) 0)) [] kws f fd) : FnOk P w K mg base (L2.CX P w) 3 f fd ["self", "names", "chain"] (spFolders K C CB) := by
  refine F.ok scFol (fun vs H Q E h => ?_) (fun cdv A outer s H vs Q E hr h => ?_)
  · obtain ⟨x, dx, nm, o, ch, rfl, _⟩ := h
    rfl
  · obtain ⟨x, dx, nm, o, ch, rfl, hx, Th, kE, kQ⟩ := h
    have nd := scFol.nd
    have hu := hu_of hr
    have hr_first_wrong := hr
    have hrE := hr
    have hr_choices := hr
    have hr_rows_of_neighbours : Room 1 _ := hr.mono (by decide)
    refine ⟨_, (Evl.pss_cut (ps_set (i := 3) nd rfl (Or.inl rfl) (pe_call c_first_wrong.ok hr_first_wrong (by rfl) c_first_wrong.g c_first_wrong.kp c_first_wrong.b .nil pass0 (pa_cons (pv 1) (pa_cons (pe_ifExp (pt_val (pv 2)) (pe_glob (v := .int 12) (by rfl) g_MOST_IN_CHAIN ⟨_, rfl⟩) (pe_glob (v := .int 5) (by rfl) g_MOST_FOLDERS ⟨_, rfl⟩)) pa_nil))))
      (Evl.pss_cut (ps_if (pt_cmpR op_notN (pv 3) pe_non (nomark _)) (pss_one (ps_raise rfl (takes_of rfl rfl rfl rfl) (pmk_oex T_BadFolders.o T_BadFolders.iC T_BadFolders.tI G_BadFolders hrE b_BadFolders .nil pass0 (by rfl) T_BadFolders.g (pa_cons (pv 3) pa_nil)))) pss_nil)
      (Evl.pss_cut (ps_fld (pv 0) (kTupleOf K (by rfl) B.tuple (pv 1)) rfl)
      (Evl.pss_cut (ps_fld (pv 0) (pv 2) rfl)
      (Evl.pss_cut (ps_set (i := 4) nd rfl (Or.inl rfl) (pe_ifExp (pt_val (pv 2)) (pe_call c_rows_of_neighbours.ok hr_rows_of_neighbours (by rfl) c_rows_of_neighbours.g c_rows_of_neighbours.kp c_rows_of_neighbours.b .nil pass0 (pa_cons (pe_fld (pv 0) rfl) pa_nil)) (pe_call c_choices.ok hr_choices (by rfl) c_choices.g c_choices.kp c_choices.b .nil pass0 (pa_cons (pe_fld (pv 0) rfl) pa_nil))))
      (pss_one (ps_fld (pv 0) (pe_dcT (own := [("at", 5), ("lot", 6)]) hr.units0 rfl nd (kPiE K (by rfl) B.enumerate (pa_cons (pv 4) pa_nil)) (blkOk_by (N := ["self", "names", "chain", "wrong", "lots", "at", "lot"]) (sc := defScope (inClass (topS 32) 0)) (by decide +kernel)) (fun _ _ _ _ _ => (kTg K 2 rfl (pgs_cons (pg_name (i := 5) nd rfl (Or.inl rfl)) (pgs_cons (pg_name (i := 6) nd rfl (Or.inl rfl)) pgs_nil)))) (fun _ _ _ _ _ => (pv 6)) (fun _ _ _ _ _ => (pv 5))) rfl))))))), ?_⟩
    -- wrong = first_wrong(..)
    refine ⟨fun σ1 H1 => σ1 = [some (.ref x), some nm, some (.bl ch), some (optV (wrongOf o (mostFor ch))), none, none, none] ∧ Same H H1, ?_, ?_⟩
    · cases ch with
      | true =>
        refine ⟨_, rfl, _, rfl, _, rfl, ?_⟩
        refine iteT ?_
        exact ⟨nm, o, 12, rfl, Th, fun H1 e1 => ⟨rfl, e1⟩⟩
      | false =>
        refine ⟨_, rfl, _, rfl, _, rfl, ?_⟩
        refine iteF ?_
        exact ⟨nm, o, 5, rfl, Th, fun H1 e1 => ⟨rfl, e1⟩⟩
    rintro σ1 H1 ⟨rfl, e1⟩
    -- if wrong is not None: raise BadFolders(wrong)
    refine ⟨fun σ2 H2 => wrongOf o (mostFor ch) = none ∧ σ2 = [some (.ref x), some nm, some (.bl ch), some .non, none, none, none] ∧ Same H H2, ?_, ?_⟩
    · cases hw : wrongOf o (mostFor ch) with
      | some i =>
        refine ⟨_, rfl, rfl, _, rfl, ?_⟩
        refine iteT ?_
        refine mkO_of (v := .int (i : Int)) (H1 := H1) (fun R r => ⟨_, rfl, r⟩) fun d H' h => kE i d H' hw ⟨e1.free h.1, Same.trans e1 h.2.1, h.2.2⟩
      | none =>
        refine ⟨_, rfl, rfl, _, rfl, ?_⟩
        refine iteF ?_
        exact ⟨rfl, rfl, e1⟩
    rintro σ2 H2 ⟨hw, rfl, e2⟩
    obtain ⟨zs, rfl, zne, znames, zlen, znd⟩ := right_names hw
    obtain ⟨a, rfl, hS⟩ : ∃ a, nm = .ref a ∧ (SqL K H a (zs.map V.str) ∨ H a = some (.tup (zs.map V.str))) := by
      cases Th with
      | seq hS b hi hl => exact ⟨_, rfl, hS⟩
    have hx2 := e2 _ _ hx
    -- self.names = tuple(names)
    refine ⟨fun σ3 H3 => ∃ t, σ3 = [some (.ref x), some (.ref a), some (.bl ch), some .non, none, none, none] ∧ t ≠ x ∧ H3 x = some (.ins C dx [("names", .ref t)]) ∧ H3 t = some (.tup (zs.map V.str)) ∧ But x H H3, ?_, ?_⟩
    · have fin : ∀ (t : Addr) (H3 : Hp), Same H2 H3 → H3 t = some (.tup (zs.map V.str)) → ∃ p C' dx' fs, V.ref x = .ref p ∧ H3 p = some (.ins C' dx' fs) ∧ Cls K C' ∧ NoAttr K C' "names" ∧ fs.length < 1000 ∧
          ∃ t', [some (V.ref x), some (V.ref a), some (.bl ch), some .non, none, none, none] = [some (.ref x), some (.ref a), some (.bl ch), some .non, none, none, none] ∧ t' ≠ x ∧ (upd H3 p (.ins C' dx' (putF "names" (.ref t) fs))) x = some (.ins C dx [("names", .ref t')]) ∧ (upd H3 p (.ins C' dx' (putF "names" (.ref t) fs))) t' = some (.tup (zs.map V.str)) ∧ But x H (upd H3 p (.ins C' dx' (putF "names" (.ref t) fs))) := by
        intro t H3 e3 ht
        have ntx : t ≠ x := ne_of ht (e3 _ _ hx2) (fun z => nomatch z)
        exact ⟨x, C, dx, [], rfl, e3 _ _ hx2, T.cl, T.nN, by decide, t, rfl, ntx, upd_same, by rw [upd_ne ntx]; exact ht, (But.same (Same.trans e2 e3)).trans But.upd⟩
      rcases hS with hS | hS
      · exact ⟨_, rfl, .inl ⟨a, _, rfl, Same.seq e2 hS, fun q nq => ⟨_, rfl, fin q _ (same_upd nq) upd_same⟩⟩⟩
      · exact ⟨_, rfl, .inr ⟨a, _, rfl, SqT.of (e2 _ _ hS), ⟨_, rfl, fin a _ (Same.refl _) (e2 _ _ hS)⟩⟩⟩
    rintro σ3 H3 ⟨t, rfl, ntx, hx3, ht3, b3⟩
    -- self.chain = chain
    refine ⟨fun σ4 H4 => σ4 = [some (.ref x), some (.ref a), some (.bl ch), some .non, none, none, none] ∧ H4 x = some (.ins C dx [("names", .ref t), ("chain", .bl ch)]) ∧ H4 t = some (.tup (zs.map V.str)) ∧ But x H H4, ?_, ?_⟩
    · refine ⟨_, rfl, _, rfl, x, C, dx, _, rfl, hx3, T.cl, T.nC, by show 1 < 1000; decide, rfl, ?_, ?_, b3.trans But.upd⟩
      · rw [upd_same, put2]
      · rw [upd_ne ntx]
        exact ht3
    rintro σ4 H4 ⟨rfl, hx4, ht4, b4⟩
    -- lots = ..
    refine ⟨fun σ5 H5 => ∃ (D : Addr) (ws : List V), σ5 = [some (.ref x), some (.ref a), some (.bl ch), some .non, some (.ref D), none, none] ∧ Same H4 H5 ∧ H5 D = some (.lst ws) ∧ Ats H5 (fun l : List Str => l.map V.str) ws (lotsFor ch zs), ?_, ?_⟩
    · have hn : ∀ R : V → Hp → Prop, R (.ref t) H4 → ∃ p C' dx' fs v, V.ref x = .ref p ∧ H4 p = some (.ins C' dx' fs) ∧ Cls K C' ∧ NoAttr K C' "names" ∧ fs.lookup ("names" : Str) = some v ∧ R v H4 := fun R r => ⟨x, C, dx, _, _, rfl, hx4, T.cl, T.nN, look_n2 _ _, r⟩
      cases ch with
      | true =>
        refine ⟨_, rfl, _, rfl, ?_⟩
        refine iteT ?_
        exact ⟨_, rfl, hn _ ⟨t, zs, rfl, ht4, Nat.le_trans zlen (by decide), fun D ws H5 nD e5 hD at5 => ⟨D, ws, rfl, e5, hD, at5⟩⟩⟩
      | false =>
        refine ⟨_, rfl, _, rfl, ?_⟩
        refine iteF ?_
        exact ⟨_, rfl, hn _ ⟨t, zs.map V.str, rfl, .inr (SqT.of ht4), by rw [List.length_map]; exact Nat.le_trans zlen (by decide), fun D ws H5 nD e5 hD at5 => ⟨D, ws, rfl, e5, hD, lots_of_choices at5⟩⟩⟩
    rintro σ5 H5 ⟨D, ws, rfl, e5, hD5, at5⟩
    -- self.places = {lot: at for at, lot in enumerate(lots)}
    refine dcT_enL rfl (SqL.of hD5) fun D2 nD2 => ⟨fun k H' => Same H5 H' ∧ H' D2 = some (.dT (placesOf ((lotsFor ch zs).take k))), ⟨same_upd nD2, upd_same⟩, fun k H' ⟨e6, _⟩ => SqL.of (e6 _ _ hD5), ?_, ?_⟩
    · rintro k y H6 H7 hk ⟨e6, hd6⟩ ⟨T', y1, y2, rfl, nT, rfl, h1, h2⟩
      cases h1
      have h2 : ws[k]? = some y2 := h2
      obtain ⟨lot, hlot⟩ : ∃ lot, (lotsFor ch zs)[k]? = some lot := ⟨_, List.getElem?_eq_getElem (by rw [← at5.1]; exact hk)⟩
      obtain ⟨b, rfl, hb⟩ := at5.2 k y2 lot h2 hlot
      have eT := same_upd (o := HO.tup [V.int (k : Nat), .ref b]) nT
      refine ⟨T', _, rfl, SqT.of upd_same, rfl, _, _, rfl, _, _, rfl, rfl, ?_⟩
      refine ⟨rfl, _, rfl, _, rfl, placesOf ((lotsFor ch zs).take k), lot.map Sum.inr, b, rfl, ?_, eT _ _ hd6, ?_, Same.grow (Same.trans e6 eT) nD2, ?_⟩
      · rw [List.map_map]
        exact eT _ _ (e6 _ _ hb)
      · refine Nat.lt_of_le_of_lt (places_len _) ?_
        rw [List.length_take]
        have := lots_few zlen
        exact Evl.sz_lt (by omega)
      · rw [upd_same, places_snoc hlot]
    · rintro H6 ⟨e6, hd6⟩
      rw [at5.1, List.take_length] at hd6
      have hx6 := e6 _ _ (e5 _ _ hx4)
      have nD2x : D2 ≠ x := ne_of hd6 hx6 (fun z => nomatch z)
      refine ⟨_, rfl, x, C, dx, _, rfl, hx6, T.cl, T.nP, by show 2 < 1000; decide, kQ zs _ hw rfl znd ⟨dx, t, D2, ?_, ?_, ?_⟩ ?_⟩
      · rw [upd_same, put3]
        rfl
      · rw [upd_ne ntx]
        exact e6 _ _ (e5 _ _ ht4)
      · rw [upd_ne nD2x]
        exact hd6
      · exact (b4.trans (But.same (Same.trans e5 e6))).trans But.upd
end
end Bk

namespace Bk
open PySem PySem.Spec PyProof.Rows L2
section
variable {K : PySem.W.Frag} {H H' : Hp}
/-! ### data: None, truth values, ints, texts, lists and tuples of these -/
mutual
theorem Dp.sm (e : Same H H') : ∀ (d : PyData) (v : V), Dp K H v d → Dp K H' v d
  | _, _, .non => .non
  | _, _, .bl b => .bl b
  | _, _, .int i => .int i
  | _, _, .str x => .str x
  | .list ds, _, .lst h a => .lst (e.seq h) (DpAll.sm e ds _ a)
  | .tuple ds, _, .tup h a => .tup (Same.sqt e h) (DpAll.sm e ds _ a)
theorem DpAll.sm (e : Same H H') : ∀ (ds : List PyData) (vs : List V), DpAll K H vs ds → DpAll K H' vs ds
  | [], _, .nil => .nil
  | d :: ds, _, .cons a r => .cons (Dp.sm e d _ a) (DpAll.sm e ds _ r)
end
theorem DpAll.len : ∀ {vs : List V} {ds : List PyData}, DpAll K H vs ds → vs.length = ds.length
  | _, _, .nil => rfl
  | _, _, .cons _ r => congrArg (· + 1) (DpAll.len r)
theorem DpAll.get : ∀ {vs : List V} {ds : List PyData}, DpAll K H vs ds → ∀ {i : Nat} {v : V}, vs[i]? = some v → ∃ d, ds[i]? = some d ∧ Dp K H v d
  | _, _, .nil, i, v, h => by simp at h
  | _, _, .cons a r, 0, v, h => by
    cases h
    exact ⟨_, rfl, a⟩
  | _, _, .cons a r, i + 1, v, h => DpAll.get r (by simpa using h)
theorem tyx_l {a : Addr} {xs : List V} (h : SqL K H a xs) : TyX K H (.ref a) (.type "list") := by
  rcases h with (h | ⟨o, h⟩) | ⟨o, its, n, h, c, _⟩
  · exact .base (.lst h)
  · exact .base (.frz h)
  · exact .kList h c
theorem tyx_t {a : Addr} {xs : List V} (h : SqT K H a xs) : TyX K H (.ref a) (.type "tuple") := by
  rcases h with (h | ⟨o, h⟩) | ⟨o, its, n, h, c, _⟩
  · exact .base (.tup h)
  · exact .fTuple h
  · exact .kTuple h c
/-- the kind of a piece of data -/
def kindD : PyData → String
  | .none => "NoneType"
  | .bool _ => "bool"
  | .int _ => "int"
  | .str _ => "str"
  | .list _ => "list"
  | .tuple _ => "tuple"
  | .dict _ => "dict"
theorem tyx_d {v : V} {d : PyData} (h : Dp K H v d) : TyX K H v (.type (kindD d)) := by
  cases h with
  | non => exact .base .non
  | bl b => exact .base (.bl b)
  | int i => exact .base (.int i)
  | str x => exact .base (.str x)
  | lst h _ => exact tyx_l h
  | tup h _ => exact tyx_t h
theorem depth_mem : ∀ {ds : List PyData} {d : PyData}, d ∈ ds → d.depth ≤ PyData.depthAll ds
  | x :: r, d, h => by
    have e : PyData.depthAll (x :: r) = max (PyData.depth x) (PyData.depthAll r) := by simp [PyData.depthAll]
    rw [e]
    rcases List.mem_cons.mp h with rfl | h
    · exact Nat.le_max_left _ _
    · exact Nat.le_trans (depth_mem h) (Nat.le_max_right _ _)
mutual
/-- the greatest length of a list or tuple within -/
def wide : PyData → Nat
  | .list xs => max xs.length (wideAll xs)
  | .tuple xs => max xs.length (wideAll xs)
  | _ => 0
def wideAll : List PyData → Nat
  | [] => 0
  | x :: r => max (wide x) (wideAll r)
end
theorem wide_mem : ∀ {ds : List PyData} {d : PyData}, d ∈ ds → wide d ≤ wideAll ds
  | x :: r, d, h => by
    have e : wideAll (x :: r) = max (wide x) (wideAll r) := by simp [wideAll]
    rw [e]
    rcases List.mem_cons.mp h with rfl | h
    · exact Nat.le_max_left _ _
    · exact Nat.le_trans (wide_mem h) (Nat.le_max_right _ _)
/-- both read as one piece of data: they are the same -/
def spSame (K : PySem.W.Frag) : Nat → Sp
  | 0 => fun _ _ _ _ => False
  | n + 1 => fun vs H Q _ => ∃ (x y : V) (d : PyData), vs = [x, y] ∧ Dp K H x d ∧ Dp K H y d ∧ d.depth ≤ n ∧ wide d ≤ 90000 ∧ ∀ H', Same H H' → Q (.bl true) H'
end
section
variable {P : Program} {w : World} {K : PySem.W.Frag} {mg : Str → Option Value} {base : Heap}
theorem ok_never {CX : CXT} {k : Nat} {f : Addr} {fd : FuncData} {ps : List Str} : FnOk P w K mg base CX k f fd ps (fun _ _ _ _ => False) := ⟨fun _ _ _ _ z => z.elim, fun _ _ _ _ _ _ _ _ _ _ _ _ _ z => z.elim⟩
end
section
variable {K : PySem.W.Frag}
theorem walk_zipT {a b : Addr} {xs ys : List V} {n : Nat} (hn : n = min xs.length ys.length) : Walk (RZ.ItzT K a b) n (fun H => SqT K H a xs ∧ SqT K H b ys) (YPair (fun i => xs[i]?) (fun i => ys[i]?)) := by
  subst hn
  refine ⟨fun i _ hi q => ?_, fun _ q => ⟨xs, ys, q.1, q.2, by omega⟩, fun i H v H' _ q y => ?_⟩
  · have h1 : i < xs.length := by omega
    have h2 : i < ys.length := by omega
    exact ⟨xs, ys, xs[i], ys[i], q.1, q.2, by simp [h1], by simp [h2]⟩
  · obtain ⟨T, x, z, h1, h2, h3, h4, h5⟩ := y
    exact ⟨T, x, z, h1, h2, h3, h4 xs q.1, h5 ys q.2⟩
/-- a comprehension over zip(x, y), x and y both lists or both tuples of one length -/
theorem lcZ {i j : Nat} {a b : Addr} {xs ys : List V} {g : TG} {tt : TT} {te : TE} {vs : List Nat} {σ : L2.St} {H : Hp} {Q : VK} (hv1 : σ[i]? = some (some (.ref a))) (hv2 : σ[j]? = some (some (.ref b)))
    (hS : (SqL K H a xs ∧ SqL K H b ys) ∨ (SqT K H a xs ∧ SqT K H b ys)) (hl : xs.length = ys.length)
    (h : ∀ D, H D = none → ∃ Pv : Nat → Hp → Prop, Pv 0 (upd H D (.lst [])) ∧ (∀ k H', Pv k H' → Same H H') ∧
      (∀ k v H' H2, k < xs.length → Pv k H' → YPair (fun i => xs[i]?) (fun i => ys[i]?) k H' v H2 → g v (wipe σ vs) H2 fun σ2 H3 => wipe σ2 vs = wipe σ vs ∧ tt σ2 H3 fun b H4 =>
        if b = true then te σ2 H4 fun y H5 => ∃ acc, H5 D = some (.lst acc) ∧ acc.length < sizeLine ∧ Pv (k + 1) (upd H5 D (.lst (acc ++ [y]))) else Pv (k + 1) H4) ∧
      ∀ H', Pv xs.length H' → Q (.ref D) H') : tLc (RZ.iZipA K (tCons (tVar i) (tCons (tVar j) tNil))) g tt te vs σ H Q := by
  have hm : xs.length = min xs.length ys.length := by omega
  refine ⟨_, hv1, _, hv2, a, b, xs, ys, rfl, ?_⟩
  rcases hS with ⟨h1, h2⟩ | ⟨h1, h2⟩
  · refine .inl ⟨h1, h2, fun D nD => ?_⟩
    obtain ⟨Pv, p0, ps, pt, pd⟩ := h D nD
    exact lc_it (walk_zip hm) Pv p0 (fun k H' _ p => ⟨(ps k H' p).seq h1, (ps k H' p).seq h2⟩) pt pd
  · refine .inr ⟨h1, h2, fun D nD => ?_⟩
    obtain ⟨Pv, p0, ps, pt, pd⟩ := h D nD
    exact lc_it (walk_zipT hm) Pv p0 (fun k H' _ p => ⟨Same.sqt (ps k H' p) h1, Same.sqt (ps k H' p) h2⟩) pt pd
end
section
variable {K : PySem.W.Frag} {H : Hp} {σ : L2.St} {i : Nat} {v : V} {R : VK}
theorem isi1 {c : String} {t : Value} {k : Bool} (hv : σ[i]? = some (some v)) (tv : TyX K H v t) (hk : PySem.W.kitOne K t (.type c) = some k) (r : R (.bl k) H) : tCB (rIsi K) (tCons (tVar i) (tCons (tC (.ty c)) tNil)) σ H R :=
  ⟨_, hv, v, _, t, _, k, rfl, .ty c, tv, hk, r⟩
theorem isi2 {c1 c2 : String} {t : Value} {k : Bool} (hv : σ[i]? = some (some v)) (tv : TyX K H v t) (hk : PySem.W.kitAny K t [.type c1, .type c2] = some k) (r : ∀ H1, Same H H1 → R (.bl k) H1) :
    tCB (rIsiT K) (tCons (tVar i) (tCons (tTup (tCons (tC (.ty c1)) (tCons (tC (.ty c2)) tNil))) tNil)) σ H R :=
  ⟨_, hv, by show 2 ≤ sizeLine; decide, fun p np => ⟨v, p, _, t, _, k, rfl, upd_same, .cons (.ty c1) (.cons (.ty c2) .nil), TyX.same tv (same_upd np), hk, r _ (same_upd np)⟩⟩
theorem isi3 {c1 c2 c3 : String} {t : Value} {k : Bool} (hv : σ[i]? = some (some v)) (tv : TyX K H v t) (hk : PySem.W.kitAny K t [.type c1, .type c2, .type c3] = some k) (r : ∀ H1, Same H H1 → R (.bl k) H1) :
    tCB (rIsiT K) (tCons (tVar i) (tCons (tTup (tCons (tC (.ty c1)) (tCons (tC (.ty c2)) (tCons (tC (.ty c3)) tNil)))) tNil)) σ H R :=
  ⟨_, hv, by show 3 ≤ sizeLine; decide, fun p np => ⟨v, p, _, t, _, k, rfl, upd_same, .cons (.ty c1) (.cons (.ty c2) (.cons (.ty c3) .nil)), TyX.same tv (same_upd np), hk, r _ (same_upd np)⟩⟩
theorem kit2 {k c1 c2 : String} {b1 b2 : Bool} (h1 : kitB k c1 = some b1) (h2 : kitB k c2 = some b2) : PySem.W.kitAny K (.type k) [.type c1, .type c2] = some (b1 || b2) := by
  refine kitAny_cons (kit_ty h1) (fun e => ?_) (fun e => by rw [e]; rfl)
  rw [e, Bool.false_or]
  exact kitAny_cons (kit_ty h2) (fun e => by rw [e]; exact kitAny_nil) (fun e => e)
theorem kit3 {k c1 c2 c3 : String} {b1 b2 b3 : Bool} (h1 : kitB k c1 = some b1) (h2 : kitB k c2 = some b2) (h3 : kitB k c3 = some b3) : PySem.W.kitAny K (.type k) [.type c1, .type c2, .type c3] = some (b1 || (b2 || b3)) := by
  refine kitAny_cons (kit_ty h1) (fun e => ?_) (fun e => by rw [e]; rfl)
  rw [e, Bool.false_or]
  exact kit2 h2 h3
end
def isL : PyData → Bool
  | .list _ => true
  | _ => false
theorem kd_L : ∀ d : PyData, kitB (kindD d) "list" = some (isL d)
  | .none => (by decide +kernel : kitB "NoneType" "list" = some false)
  | .bool _ => (by decide +kernel : kitB "bool" "list" = some false)
  | .int _ => (by decide +kernel : kitB "int" "list" = some false)
  | .str _ => (by decide +kernel : kitB "str" "list" = some false)
  | .list _ => (by decide +kernel : kitB "list" "list" = some true)
  | .tuple _ => (by decide +kernel : kitB "tuple" "list" = some false)
  | .dict _ => (by decide +kernel : kitB "dict" "list" = some false)
def isT : PyData → Bool
  | .tuple _ => true
  | _ => false
theorem kd_T : ∀ d : PyData, kitB (kindD d) "tuple" = some (isT d)
  | .none => (by decide +kernel : kitB "NoneType" "tuple" = some false)
  | .bool _ => (by decide +kernel : kitB "bool" "tuple" = some false)
  | .int _ => (by decide +kernel : kitB "int" "tuple" = some false)
  | .str _ => (by decide +kernel : kitB "str" "tuple" = some false)
  | .list _ => (by decide +kernel : kitB "list" "tuple" = some false)
  | .tuple _ => (by decide +kernel : kitB "tuple" "tuple" = some true)
  | .dict _ => (by decide +kernel : kitB "dict" "tuple" = some false)
def isI : PyData → Bool
  | .bool _ => true
  | .int _ => true
  | _ => false
theorem kd_I : ∀ d : PyData, kitB (kindD d) "int" = some (isI d)
  | .none => (by decide +kernel : kitB "NoneType" "int" = some false)
  | .bool _ => (by decide +kernel : kitB "bool" "int" = some true)
  | .int _ => (by decide +kernel : kitB "int" "int" = some true)
  | .str _ => (by decide +kernel : kitB "str" "int" = some false)
  | .list _ => (by decide +kernel : kitB "list" "int" = some false)
  | .tuple _ => (by decide +kernel : kitB "tuple" "int" = some false)
  | .dict _ => (by decide +kernel : kitB "dict" "int" = some false)
def isB : PyData → Bool
  | .bool _ => true
  | _ => false
theorem kd_B : ∀ d : PyData, kitB (kindD d) "bool" = some (isB d)
  | .none => (by decide +kernel : kitB "NoneType" "bool" = some false)
  | .bool _ => (by decide +kernel : kitB "bool" "bool" = some true)
  | .int _ => (by decide +kernel : kitB "int" "bool" = some false)
  | .str _ => (by decide +kernel : kitB "str" "bool" = some false)
  | .list _ => (by decide +kernel : kitB "list" "bool" = some false)
  | .tuple _ => (by decide +kernel : kitB "tuple" "bool" = some false)
  | .dict _ => (by decide +kernel : kitB "dict" "bool" = some false)
theorem flat_eq {K : PySem.W.Frag} {H : Hp} {x y : V} {d : PyData} (hx : Dp K H x d) (hy : Dp K H y d) (h : (isL d || isT d) = false) : x = y ∧ scal x y = true := by
  cases hx <;> cases hy <;> first | exact ⟨rfl, rfl⟩ | cases h
theorem cb1 {r : List V → Hp → VK → Prop} {te : TE} {σ : L2.St} {H : Hp} {R : VK} (h : te σ H fun x H1 => r [x] H1 R) : tCB r (tCons te tNil) σ H R := h
theorem lt_one (a b : Nat) : decide (([a] : List Nat) < [b]) = decide (a < b) := by
  by_cases h : a < b
  · rw [decide_eq_true h]
    exact decide_eq_true (List.cons_lt_cons_iff.mpr (.inl h))
  · rw [decide_eq_false h]
    refine decide_eq_false fun z => ?_
    rcases List.cons_lt_cons_iff.mp z with z | ⟨_, z⟩
    · exact h z
    · exact absurd z (by simp)
theorem filter_all {α : Type} {p : α → Bool} : ∀ {l : List α}, (l.filter p).length = l.length ↔ l.all p = true
  | [] => by simp
  | x :: r => by
    have ih := filter_all (p := p) (l := r)
    have hle := List.length_filter_le p r
    cases h : p x with
    | true =>
      rw [List.filter_cons_of_pos h, List.all_cons, h, Bool.true_and, List.length_cons, List.length_cons, ← ih]
      omega
    | false =>
      rw [List.filter_cons_of_neg (by rw [h]; exact Bool.false_ne_true), List.all_cons, h, Bool.false_and, List.length_cons]
      constructor
      · intro e
        omega
      · intro e
        cases e
/-- the law's own look at a name -/
theorem name_by_letters {z : Str} {n : Nat} (h : n = (z.cps.toList.filter fun c => decide (c ∈ lettersL)).length) : isNameS z = (decide (0 < n) && decide (n < 9) && decide (n = z.length)) := by
  have e : z.length = z.cps.toList.length := by simp [Str.length]
  unfold isNameS
  by_cases ha : (z.cps.toList.all fun c => decide (c ∈ lettersL)) = true
  · have hn := filter_all.mpr ha
    rw [ha, Bool.and_true, e, h, hn]
    rw [decide_eq_true (rfl : z.cps.toList.length = z.cps.toList.length), Bool.and_true, decide_eq_decide.mpr (show 1 ≤ z.cps.toList.length ↔ 0 < z.cps.toList.length by omega), decide_eq_decide.mpr (show z.cps.toList.length ≤ 8 ↔ z.cps.toList.length < 9 by omega)]
  · have hn : ¬ n = z.length := fun q => ha (filter_all.mp (by rw [← h, q, e]))
    rw [decide_eq_false hn, Bool.and_false]
    have : (z.cps.toList.all fun c => decide (c ∈ lettersL)) = false := by
      cases q : z.cps.toList.all fun c => decide (c ∈ lettersL) with
      | true => exact absurd q ha
      | false => rfl
    rw [this, Bool.and_false]
end Bk

namespace Bk
open PySem PySem.Spec PyProof.Rows L2
section
variable {P : Program} {w : World} {K : PySem.W.Frag} {mg : Str → Option Value} {base : Heap}
theorem scSame : FnScope ["_law_found", "_law_due", "_law_x", "_law_y"] ["_law_found", "_law_due"] (defScope (topS 87)) := ⟨rfl, rfl, rfl, by decide +kernel, rfl, by decide +kernel, by decide +kernel⟩
theorem same_step (B : Bi mg) {n : Nat} {f : Addr} {fd : FuncData} (F : Fun K "_law_same" "_law_same" (topS 87) f fd) (g : mg "_law_same" = some (.ref f)) (b : Binds K fd ["_law_found", "_law_due"] [])
    (ih : FnOk P w K mg base CX0 (n + 1) f fd ["_law_found", "_law_due"] (spSame K n)) : FnOk P w K mg base CX0 (n + 2) f fd ["_law_found", "_law_due"] (spSame K (n + 1)) := by
  refine F.ok scSame (fun vs H Q E h => ?_) (fun cdv A outer s H vs Q E hr h => ?_)
  · obtain ⟨x, y, d, rfl, _⟩ := h
    rfl
  · obtain ⟨x, y, d, rfl, hx, hy, hd, hw, q⟩ := h
    have nd := scSame.nd
    have hu := hu_of hr
    have hr__law_same := hr
    have c__law_same : Cal P w K mg base CX0 (n + 1) "_law_same" f fd ["_law_found", "_law_due"] (spSame K n) := ⟨ih, g, F.kp, b⟩
    refine ⟨_, (pss_cons (ps_if (pt_val (pe_callB (kIsiT K) (by rfl) B.isinstance (by decide +kernel) (pa_cons (pv 1) (pa_cons (pe_tup (pa_cons (pe_bltn (v := .ty "list") (by rfl) B.list (by decide +kernel) rfl) (pa_cons (pe_bltn (v := .ty "tuple") (by rfl) B.tuple (by decide +kernel) rfl) pa_nil))) pa_nil)))) (pss_cons (ps_if (PW.pt (pw_or (pt_cmpR op_ne (pe_callB (kIsi K) (by rfl) B.isinstance (by decide +kernel) (pa_cons (pv 0) (pa_cons (pe_bltn (v := .ty "list") (by rfl) B.list (by decide +kernel) rfl) pa_nil))) (pe_callB (kIsi K) (by rfl) B.isinstance (by decide +kernel) (pa_cons (pv 1) (pa_cons (pe_bltn (v := .ty "list") (by rfl) B.list (by decide +kernel) rfl) pa_nil))) (nomark _)) (pw_or1 (pt_cmpR op_ne (pe_callB (kIsi K) (by rfl) B.isinstance (by decide +kernel) (pa_cons (pv 0) (pa_cons (pe_bltn (v := .ty "tuple") (by rfl) B.tuple (by decide +kernel) rfl) pa_nil))) (pe_callB (kIsi K) (by rfl) B.isinstance (by decide +kernel) (pa_cons (pv 1) (pa_cons (pe_bltn (v := .ty "tuple") (by rfl) B.tuple (by decide +kernel) rfl) pa_nil))) (nomark _))))) (pss_one (ps_ret pe_bl)) pss_nil)
      (pss_one (ps_ret (pe_and (pe_cmpR op_eq (pe_callB (kLen K) (by rfl) B.len PySem.boot_len (pa_cons (pv 0) pa_nil)) (pe_callB (kLen K) (by rfl) B.len PySem.boot_len (pa_cons (pv 1) pa_nil)) (nomark _)) (pe_one (pe_callB (kAll K rfl) (by rfl) B.all (by decide +kernel) (pa_cons (pe_lc (own := [("_law_x", 2), ("_law_y", 3)]) rfl nd (kPiZ K (by rfl) B.zip (pa_cons (pv 0) (pa_cons (pv 1) pa_nil))) (blkOk_by (N := ["_law_found", "_law_due", "_law_x", "_law_y"]) (sc := defScope (topS 87)) (by decide +kernel)) (fun _ _ _ _ _ => (kTg K 2 rfl (pgs_cons (pg_name (i := 2) nd rfl (Or.inl rfl)) (pgs_cons (pg_name (i := 3) nd rfl (Or.inl rfl)) pgs_nil)))) (fun _ _ _ _ _ => pts_nil) (fun _ _ _ _ _ => (pe_call c__law_same.ok hr__law_same (by rfl) c__law_same.g c__law_same.kp c__law_same.b .nil pass0 (pa_cons (pv 2) (pa_cons (pv 3) pa_nil))))) pa_nil))))))) pss_nil)
      (pss_cons (ps_if (pt_val (pe_callB (kIsi K) (by rfl) B.isinstance (by decide +kernel) (pa_cons (pv 1) (pa_cons (pe_bltn (v := .ty "int") (by rfl) B.int (by decide +kernel) rfl) pa_nil)))) (pss_one (ps_ret (pe_and (pe_callB (kIsi K) (by rfl) B.isinstance (by decide +kernel) (pa_cons (pv 0) (pa_cons (pe_bltn (v := .ty "int") (by rfl) B.int (by decide +kernel) rfl) pa_nil))) (pe_and (pe_cmpR op_eq (pe_callB (kIsi K) (by rfl) B.isinstance (by decide +kernel) (pa_cons (pv 0) (pa_cons (pe_bltn (v := .ty "bool") (by rfl) B.bool (by decide +kernel) rfl) pa_nil))) (pe_callB (kIsi K) (by rfl) B.isinstance (by decide +kernel) (pa_cons (pv 1) (pa_cons (pe_bltn (v := .ty "bool") (by rfl) B.bool (by decide +kernel) rfl) pa_nil))) (nomark _)) (pe_one (pe_cmpR op_eq (pv 0) (pv 1) (nomark _))))))) pss_nil)
      (pss_one (ps_ret (pe_and (pe_cmpR op_isBl (pe_callB (kIsiT K) (by rfl) B.isinstance (by decide +kernel) (pa_cons (pv 0) (pa_cons (pe_tup (pa_cons (pe_bltn (v := .ty "int") (by rfl) B.int (by decide +kernel) rfl) (pa_cons (pe_bltn (v := .ty "list") (by rfl) B.list (by decide +kernel) rfl) (pa_cons (pe_bltn (v := .ty "tuple") (by rfl) B.tuple (by decide +kernel) rfl) pa_nil)))) pa_nil))) pe_bl (nomark _)) (pe_one (pe_cmpR op_eq (pv 0) (pv 1) (nomark _)))))))), ?_⟩
    have tx := tyx_d hx
    have ty := tyx_d hy
    refine isi2 rfl ty (kit2 (kd_L d) (kd_T d)) fun H1 e1 => ⟨_, rfl, ?_⟩
    cases hs : isL d || isT d with
    | false =>
      refine iteF ?_
      refine isi1 rfl (TyX.same ty e1) (kit_ty (kd_I d)) ⟨_, rfl, ?_⟩
      obtain ⟨exy, hsc⟩ := flat_eq hx hy hs
      have hdec : decide (x = y) = true := decide_eq_true exy
      cases hi : isI d with
      | true =>
        refine iteT ?_
        refine isi1 rfl (TyX.same tx e1) (kit_ty (kd_I d)) ⟨_, rfl, ?_⟩
        rw [hi]
        refine iteT ?_
        refine isi1 rfl (TyX.same tx e1) (kit_ty (kd_B d)) ?_
        refine isi1 rfl (TyX.same ty e1) (kit_ty (kd_B d)) ⟨rfl, _, rfl, ?_⟩
        rw [decide_eq_true rfl]
        refine iteT ?_
        refine ⟨_, rfl, _, rfl, hsc, ?_⟩
        rw [hdec]
        exact q H1 e1
      | false =>
        refine iteF ?_
        have hl : isL d = false := by cases h : isL d <;> simp_all
        have ht : isT d = false := by cases h : isT d <;> simp_all
        refine isi3 rfl (TyX.same tx e1) (kit3 (kd_I d) (kd_L d) (kd_T d)) fun H2 e2 => ?_
        rw [hi, hl, ht]
        refine ⟨false, false, rfl, rfl, _, rfl, ?_⟩
        rw [decide_eq_true rfl]
        refine iteT ?_
        refine ⟨_, rfl, _, rfl, hsc, ?_⟩
        rw [hdec]
        exact q H2 (Same.trans e1 e2)
    | true =>
      refine iteT ?_
      obtain ⟨a, b, xs, ys, ds, rfl, rfl, hS, hxs, hys, hdp, hw1, hw2⟩ : ∃ a b xs ys ds, x = .ref a ∧ y = .ref b ∧ ((SqL K H a xs ∧ SqL K H b ys) ∨ (SqT K H a xs ∧ SqT K H b ys)) ∧ DpAll K H xs ds ∧ DpAll K H ys ds ∧ PyData.depthAll ds + 1 ≤ n ∧ ds.length ≤ 90000 ∧ wideAll ds ≤ 90000 := by
        cases hx with
        | lst h1 h2 =>
          cases hy with
          | lst h3 h4 => exact ⟨_, _, _, _, _, rfl, rfl, .inl ⟨h1, h3⟩, h2, h4, by simpa [PyData.depth] using hd, by simp only [wide] at hw; omega, by simp only [wide] at hw; omega⟩
        | tup h1 h2 =>
          cases hy with
          | tup h3 h4 => exact ⟨_, _, _, _, _, rfl, rfl, .inr ⟨h1, h3⟩, h2, h4, by simpa [PyData.depth] using hd, by simp only [wide] at hw; omega, by simp only [wide] at hw; omega⟩
        | _ => cases hs
      have hlen : xs.length = ys.length := by rw [DpAll.len hxs, DpAll.len hys]
      have hS1 : (SqL K H1 a xs ∧ SqL K H1 b ys) ∨ (SqT K H1 a xs ∧ SqT K H1 b ys) := hS.imp (fun z => ⟨e1.seq z.1, e1.seq z.2⟩) fun z => ⟨Same.sqt e1 z.1, Same.sqt e1 z.2⟩
      have lx : LenV K (.ref a) H1 xs.length := hS1.imp (fun z => ⟨xs, z.1, rfl⟩) fun z => ⟨xs, z.1, rfl⟩
      have ly : LenV K (.ref b) H1 ys.length := hS1.imp (fun z => ⟨ys, z.2, rfl⟩) fun z => ⟨ys, z.2, rfl⟩
      refine isi1 rfl (TyX.same tx e1) (kit_ty (kd_L d)) ?_
      refine isi1 rfl (TyX.same ty e1) (kit_ty (kd_L d)) ⟨rfl, _, rfl, ?_⟩
      rw [decide_eq_true rfl]
      refine iteF ?_
      refine isi1 rfl (TyX.same tx e1) (kit_ty (kd_T d)) ?_
      refine isi1 rfl (TyX.same ty e1) (kit_ty (kd_T d)) ⟨rfl, _, rfl, ?_⟩
      rw [decide_eq_true rfl]
      refine iteF ?_
      refine ⟨_, rfl, _, _, rfl, lx, _, rfl, _, _, rfl, ly, rfl, ?_⟩
      rw [hlen, decide_eq_true rfl]
      refine ⟨_, rfl, ?_⟩
      refine iteT ?_
      obtain ⟨m, rfl⟩ : ∃ m, n = m + 1 := ⟨n - 1, by omega⟩
      refine cb1 ?_
      refine lcZ (a := a) (b := b) (xs := xs) (ys := ys) rfl rfl hS1 hlen fun D nD => ⟨fun k H' => Same H1 H' ∧ H' D = some (.lst (List.replicate k (V.bl true))), ⟨same_upd nD, upd_same⟩, fun k H' z => z.1, ?_, ?_⟩
      · rintro k v H3 H4 hk ⟨e3, hD⟩ ⟨T, v1, v2, rfl, nT, rfl, g1, g2⟩
        have eT := same_upd (o := HO.tup [v1, v2]) nT
        refine ⟨T, _, rfl, SqT.of upd_same, rfl, _, _, rfl, _, _, rfl, rfl, ?_⟩
        refine ⟨rfl, yes2 ?_⟩
        have g1 : xs[k]? = some v1 := g1
        have g2 : ys[k]? = some v2 := g2
        obtain ⟨d1, f1, p1⟩ := DpAll.get hxs g1
        obtain ⟨d2, f2, p2⟩ := DpAll.get hys g2
        rw [f1] at f2
        obtain rfl := Option.some.inj f2
        have e04 := Same.trans e1 (Same.trans e3 eT)
        have hdd := depth_mem (List.mem_of_getElem? f1)
        have hww := wide_mem (List.mem_of_getElem? f1)
        refine ⟨_, rfl, _, rfl, v1, v2, d1, rfl, Dp.sm e04 _ _ p1, Dp.sm e04 _ _ p2, by omega, by omega, fun H5 e5 => ?_⟩
        have e15 := Same.trans e3 (Same.trans eT e5)
        refine ⟨_, e5 _ _ (eT _ _ hD), ?_, Same.grow e15 nD, ?_⟩
        · rw [List.length_replicate]
          have := DpAll.len hxs
          exact Evl.sz_lt (by omega)
        · rw [upd_same, List.replicate_succ']
      · rintro H3 ⟨e3, hD⟩
        refine ⟨D, List.replicate xs.length true, rfl, SqL.of (by rw [List.map_replicate]; exact hD), ?_⟩
        have : (List.replicate xs.length true).all id = true := by
          rw [List.all_eq_true]
          intro z hz
          rw [List.eq_of_mem_replicate hz]
          rfl
        rw [this]
        exact q H3 (Same.trans e1 e3)
theorem ok_same (B : Bi mg) {f : Addr} {fd : FuncData} (F : Fun K "_law_same" "_law_same" (topS 87) f fd) (g : mg "_law_same" = some (.ref f)) (b : Binds K fd ["_law_found", "_law_due"] []) : ∀ n, FnOk P w K mg base CX0 (n + 1) f fd ["_law_found", "_law_due"] (spSame K n)
  | 0 => ok_never
  | n + 1 => same_step B F g b (ok_same B F g b n)
end
end Bk

namespace Bk
open PySem PySem.Spec PyProof.Rows L2
section
variable {X : Cx} {CX : CXT} {k n : Nat} {f C : Addr} {fd : FuncData} {ps ks : List Str} {sp : Sp} {E : L2.St → XK} {x : Str} {p pos : Pos} {e : Expr} {es : List Expr} {kws : List Keyword} {t tk : TA} {g : List Value → List Value → List Value} {gV : List V → List V → List V}
/-- C(.., k = v, ..) within a try: what the making raises is wished for at the slots as they stand -/
def tMakeKS (C : Addr) (n m : Nat) (sp : Sp) (gV : List V → List V → List V) (E : L2.St → XK) (t tk : TA) : TE := fun σ H Q => t σ H fun vs H1 => tk σ H1 fun zs H2 => vs.length = n ∧ zs.length = m ∧ ∀ y dx, H2 y = none → H2 dx = none → dx ≠ y →
  sp (gV (.ref y :: vs) zs) (upd (upd H2 dx (.own y)) y (.ins C dx [])) (fun v H3 => v = .non ∧ Q (.ref y) H3) (E σ)
theorem pe_makeKS (M : Mk X.K C f) (F : FnOk X.prog X.w X.K X.mg X.base CX k f fd ps sp) (hr : Room (k + 1) X.A) (hg : Gl X x) (hm : X.mg x = some (.ref C)) (hb : KBn X.K fd ps (n + 1) ks g gV) (hx : ∀ σ, PassesAt CX X σ (E σ)) (ha : PA X (e :: es) t) (hkw : PK X kws tk)
    (hall : (backToKw pos (keywordEach kws X.env)).all (·.1.isSome) = true := by rfl) (hks : (backToKw pos (keywordEach kws X.env)).filterMap (·.1) = ks := by rfl) (hdb : (x == ("__debug__" : Str)) = false := by decide)
    (he : starEach (e :: es) X.env = (false, eval e X.env) :: starEach es X.env := by rfl) (hpl : ((backTo pos (starEach (e :: es) X.env)).any (·.1) || (backToKw pos (keywordEach kws X.env)).any (·.1.isNone)) = false := by rfl) :
    PE X (.Call (.Name x p) (e :: es) kws pos) (tMakeKS C n ks.length sp gV E t tk) := by
  refine ⟨fun pins s σ H Q I h => wpAny_Call_Name_kw (ld_glob I hg hm ?_ hdb)⟩
  refine PySem.W.callWith_KW (h₀ := X.base) I.ok.mod.kin M.kp hall (thn (ha.run pos pins s σ H _ I h) fun us s1 ⟨vs, H1, I1, r, q⟩ => ?_) hpl he
  refine thn (hkw.run pos pins s1 σ H1 _ I1 q) fun ws s2 ⟨zs, H2, I2, rz, l1, l2, q2⟩ => ⟨I2.kIn, ?_⟩
  rw [hks]
  have hq := q2 (s2.heap.objs.size + 1) s2.heap.objs.size (I2.hok.fresh (Nat.le_succ _)) (I2.hok.fresh (Nat.le_refl _)) (Nat.ne_of_lt (Nat.lt_succ_self _))
  have J := Inv.made (C := C) I2
  have rel : Vals (V.ref (s2.heap.objs.size + 1) :: vs) (Value.ref (s2.heap.objs.size + 1) :: us) := .cons rfl r
  have len1 : (Value.ref (s2.heap.objs.size + 1) :: us).length = n + 1 := by rw [List.length_cons, ← r.length, l1]
  refine wpAny_call (make_map (f := f) I2.kIn M.makes M.init (beq_iff_eq.mp M.fn) (codeAny_mono (F.run _ X.stack _ _ ⟨_, ks.zip ws⟩ _ _ _ (E σ) (hr.make C us (ks.zip ws)) (J.env0.make C us (ks.zip ws)) (hb.to _ _ ws J.kIn len1 (rz.length.symm.trans l2)) (hb.rel rel rz) hq) fun r s' hq' => ?_))
  cases r with
  | error er => exact hx σ pins _ _ er s' J hq'
  | ok fl =>
    cases fl with
    | ret u =>
      obtain ⟨v, H', J3, rv, ev, q3⟩ := J.after hq'
      subst ev
      exact ⟨rv, ⟨V.ref (s2.heap.objs.size + 1), H', J3, rfl, q3⟩⟩
    | next => exact hq'.elim
    | brk => exact hq'.elim
    | cont => exact hq'.elim
theorem kFld (K : PySem.W.Frag) {ta : TE} {fl : Str} (he : PE X e ta) (hk : X.K = K := by rfl) (hb : attributeBase e fl X.env (eval e X.env) = eval e X.env := by rfl) : PE X (.Attribute e fl pos) (tFld K ta fl) := hk ▸ pe_fld he hb
end
end Bk

namespace Bk
open PySem PySem.Spec PyProof.Rows L2
section
variable {K : PySem.W.Frag} {H H' : Hp} {st c : Addr}
theorem TyX.keep {x : V} {t : Value} (h : TyX K H x t) (e : ∀ p o, x = .ref p → H p = some o → H' p = some o) : TyX K H' x t := by
  cases h with
  | base b =>
    cases b with
    | non => exact .base .non
    | bl y => exact .base (.bl y)
    | int i => exact .base (.int i)
    | str y => exact .base (.str y)
    | flt y => exact .base (.flt y)
    | lst q => exact .base (.lst (e _ _ rfl q))
    | frz q => exact .base (.frz (e _ _ rfl q))
    | tup q => exact .base (.tup (e _ _ rfl q))
    | dK q => exact .base (.dK (e _ _ rfl q))
    | dT q => exact .base (.dT (e _ _ rfl q))
    | ins q c1 c2 c3 c4 c5 => exact .base (.ins (e _ _ rfl q) c1 c2 c3 c4 c5)
  | byt b => exact .byt b
  | set q => exact .set (e _ _ rfl q)
  | kList q c => exact .kList q c
  | kTuple q c => exact .kTuple q c
  | kDict q c => exact .kDict q c
  | fTuple q => exact .fTuple (e _ _ rfl q)
  | fDict q => exact .fDict (e _ _ rfl q)
theorem sql_keep {a : Addr} {xs : List V} (h : SqL K H a xs) (e : ∀ o, H a = some o → H' a = some o) : SqL K H' a xs := by
  rcases h with (h | ⟨o, h⟩) | h
  · exact .inl (.inl (e _ h))
  · exact .inl (.inr ⟨o, e _ h⟩)
  · exact .inr h
theorem fcons {p : V → Prop} {x : V} {l : List V} (h : p x) (r : ∀ y ∈ l, p y) : ∀ y ∈ x :: l, p y := fun y m => by
  rcases List.mem_cons.mp m with rfl | m
  · exact h
  · exact r y m
/-- not the stream's own objects -/
def Off (st c : Addr) (x : V) : Prop := ∀ p, x = .ref p → p ≠ st ∧ p ≠ c
theorem Off.ref {p : Addr} (h1 : p ≠ st) (h2 : p ≠ c) : Off st c (.ref p) := fun q e => by cases e; exact ⟨h1, h2⟩
theorem Off.flat {x : V} (h : flatV x = true) : Off st c x := fun q e => by subst e; cases h
def Far (K : PySem.W.Frag) (H : Hp) (st c : Addr) (x : V) : Prop := Itm K H x ∧ Off st c x
theorem Far.kept {x : V} (h : Far K H st c x) (k : Kept st c H H') : Far K H' st c x := by
  obtain ⟨⟨t, a, b⟩, o⟩ := h
  exact ⟨⟨t, TyX.keep a fun p u e q => k p u (o p e).1 (o p e).2 q, b⟩, o⟩
theorem Far.str {z : Str} (h : z.length ≤ 100000) : Far K H st c (.str z) := ⟨.str h, Off.flat rfl⟩
theorem itm_kit {x : V} {k : String} (t : TyX K H x (.type k)) (h : kitB k "str" = some false) (hs : isStr x = false) : Itm K H x := ⟨_, t, by rw [hs]; exact kit_ty h, fun z e => by subst e; cases hs⟩
theorem sqs_kit {x : V} {k : String} {b1 b2 : Bool} (t : TyX K H x (.type k)) (h1 : kitB k "list" = some b1) (h2 : kitB k "tuple" = some b2) : Sqs K H x (b1 || b2) := ⟨_, t, kit2 h1 h2⟩
/-- a thing of any objects, none of them the stream's -/
def ThF (K : PySem.W.Frag) (H : Hp) (st c : Addr) (x : V) (o : Option (List V)) : Prop := Thing K H x o ∧ Off st c x ∧ ∀ xs, o = some xs → ∀ y ∈ xs, Far K H st c y
theorem ThF.kept {x : V} {o : Option (List V)} (h : ThF K H st c x o) (k : Kept st c H H') : ThF K H' st c x o := by
  obtain ⟨T, off, hy⟩ := h
  refine ⟨?_, off, fun xs e y m => (hy xs e y m).kept k⟩
  have sq : ∀ {b : Bool}, Sqs K H x b → Sqs K H' x b := fun ⟨t, a, b⟩ => ⟨t, TyX.keep a fun p u e q => k p u (off p e).1 (off p e).2 q, b⟩
  cases T with
  | @seq a xs hS b hi hl =>
    have ka : ∀ o, H a = some o → H' a = some o := fun o q => k a o (off a rfl).1 (off a rfl).2 q
    exact .seq (hS.imp (fun z => sql_keep z ka) fun z => ka _ z) (sq b) (fun y m => ((hy xs rfl y m).kept k).1) hl
  | no b => exact .no (sq b)
theorem thf_lst {a : Addr} {xs : List V} (h : H a = some (.lst xs)) (h1 : a ≠ st) (h2 : a ≠ c) (hl : xs.length ≤ 100000) (hy : ∀ y ∈ xs, Far K H st c y) : ThF K H st c (.ref a) (some xs) :=
  ⟨.seq (.inl (SqL.of h)) (sqs_kit (k := "list") (b1 := true) (b2 := false) (.base (.lst h)) (by decide +kernel) (by decide +kernel)) (fun y m => (hy y m).1) hl, Off.ref h1 h2, fun ys e y m => by cases e; exact hy y m⟩
theorem thf_tup {a : Addr} {xs : List V} (h : H a = some (.tup xs)) (h1 : a ≠ st) (h2 : a ≠ c) (hl : xs.length ≤ 100000) (hy : ∀ y ∈ xs, Far K H st c y) : ThF K H st c (.ref a) (some xs) :=
  ⟨.seq (.inr h) (sqs_kit (k := "tuple") (b1 := false) (b2 := true) (.base (.tup h)) (by decide +kernel) (by decide +kernel)) (fun y m => (hy y m).1) hl, Off.ref h1 h2, fun ys e y m => by cases e; exact hy y m⟩
theorem thf_no {x : V} {k : String} (t : TyX K H x (.type k)) (h1 : kitB k "list" = some false) (h2 : kitB k "tuple" = some false) (o : Off st c x) : ThF K H st c x none := ⟨.no (sqs_kit t h1 h2), o, fun _ e => by cases e⟩
/-- what a turn of the law starts from: the stream and the list of odd things -/
structure Ground (K : PySem.W.Frag) (H : Hp) (st c od : Addr) (n : Nat) : Prop where
  S : Strm H st c n
  n1 : od ≠ st
  n2 : od ≠ c
  odd : ∃ xs, H od = some (.lst xs) ∧ xs.length = 14 ∧ ∀ x ∈ xs, Far K H st c x
theorem Ground.kept {od : Addr} {n n' : Nat} (G : Ground K H st c od n) (S : Strm H' st c n') (k : Kept st c H H') : Ground K H' st c od n' := by
  obtain ⟨xs, h1, h2, h3⟩ := G.odd
  exact ⟨S, G.n1, G.n2, xs, k _ _ G.n1 G.n2 h1, h2, fun x m => (h3 x m).kept k⟩
theorem pk_lst {a : Addr} {xs : List V} (h : SqL K H a xs) (n1 : a ≠ st) (n2 : a ≠ c) : Pk K H st c (.ref a) xs.length (fun j => xs.getD j .non) :=
  .lst h n1 n2 fun j hj => by rw [List.getD_eq_getElem?_getD, List.getElem?_eq_getElem hj]; rfl
theorem getD_mem {xs : List V} {j : Nat} (h : j < xs.length) : xs.getD j .non ∈ xs := by
  rw [List.getD_eq_getElem?_getD, List.getElem?_eq_getElem h]
  exact List.getElem_mem h
/-! ### the answers as data -/
theorem dp_strs : ∀ zs : List Str, DpAll K H (zs.map V.str) (zs.map PyData.str)
  | [] => .nil
  | x :: r => .cons (.str x) (dp_strs r)
theorem depth_strs : ∀ zs : List Str, PyData.depthAll (zs.map PyData.str) = 0
  | [] => by simp [PyData.depthAll]
  | x :: r => by
    have := depth_strs r
    simp [PyData.depthAll, PyData.depth, this]
theorem wide_strs : ∀ zs : List Str, wideAll (zs.map PyData.str) = 0
  | [] => by simp [wideAll]
  | x :: r => by
    have := wide_strs r
    simp [wideAll, wide, this]
def dMade (zs : List Str) : PyData := .tuple [.str (Str.ofString "made"), .tuple (zs.map PyData.str)]
def dBad (i : Nat) : PyData := .tuple [.str (Str.ofString "bad"), .int (i : Int)]
theorem dp_made {p t : Addr} {zs : List Str} (hp : H p = some (.tup [.str (Str.ofString "made"), .ref t])) (ht : SqT K H t (zs.map V.str)) : Dp K H (.ref p) (dMade zs) := .tup (SqT.of hp) (.cons (.str _) (.cons (.tup ht (dp_strs zs)) .nil))
theorem dp_bad {p : Addr} {i : Nat} (hp : H p = some (.tup [.str (Str.ofString "bad"), .int (i : Int)])) : Dp K H (.ref p) (dBad i) := .tup (SqT.of hp) (.cons (.str _) (.cons (.int _) .nil))
theorem made_depth (zs : List Str) : (dMade zs).depth ≤ 3 := by
  have := depth_strs zs
  simp [dMade, PyData.depth, PyData.depthAll, this]
theorem bad_depth (i : Nat) : (dBad i).depth ≤ 3 := by simp [dBad, PyData.depth, PyData.depthAll]
theorem made_wide {zs : List Str} (h : zs.length ≤ 100) : wide (dMade zs) ≤ 90000 := by
  have := wide_strs zs
  simp [dMade, wide, wideAll, this]
  omega
theorem bad_wide (i : Nat) : wide (dBad i) ≤ 90000 := by simp [dBad, wide, wideAll]
end
end Bk

namespace Bk
open PySem PySem.Spec PyProof.Rows L2
/-! ### the law's own rows of places -/
def startB (r : List Nat) : Nat := if r = [] then 0 else lastOf r + 1
def growB (n : Nat) (r : List Nat) : List (List Nat) := (List.range' (startB r) (n - startB r)).map fun j => r ++ [j]
def bRows (n : Nat) : Nat → List (List Nat)
  | 0 => [[]]
  | k + 1 => (bRows n k).flatMap (growB n)
structure BOk (n k : Nat) (r : List Nat) : Prop where
  len : r.length = k
  lt : ∀ x ∈ r, x < n
theorem bRows_ok {n : Nat} : ∀ k, ∀ r ∈ bRows n k, BOk n k r
  | 0, r, hr => by
    rw [List.mem_singleton.mp hr]
    exact ⟨rfl, fun x hx => nomatch hx⟩
  | k + 1, r, hr => by
    obtain ⟨r0, h0, hr⟩ := List.mem_flatMap.mp hr
    obtain ⟨j, hj, rfl⟩ := List.mem_map.mp hr
    obtain ⟨j1, j2⟩ := List.mem_range'_1.mp hj
    have o := bRows_ok k r0 h0
    refine ⟨by rw [List.length_append, o.len]; rfl, fun x hx => ?_⟩
    rcases List.mem_append.mp hx with hx | hx
    · exact o.lt x hx
    · rw [List.mem_singleton.mp hx]
      omega
theorem BOk.start {n k : Nat} {r : List Nat} (h : BOk n k r) : startB r ≤ n := by
  unfold startB
  split
  · exact Nat.zero_le _
  · rename_i e
    exact h.lt _ (lastOf_mem e)
theorem growB_length (n : Nat) (r : List Nat) : (growB n r).length = n - startB r := by
  unfold growB
  rw [List.length_map, List.length_range']
theorem growB_at {n : Nat} {r : List Nat} {j : Nat} (hj : j < n - startB r) : (growB n r)[j]? = some (r ++ [startB r + j]) := by
  unfold growB
  rw [List.getElem?_map, List.getElem?_range' hj]
  simp
theorem bRows_len {n : Nat} (hn : n ≤ 5) : ∀ k, (bRows n k).length ≤ 5 ^ k
  | 0 => Nat.le_refl _
  | k + 1 => by
    have h1 := flatMap_len (f := growB n) (m := 5) (l := bRows n k) fun x _ => by rw [growB_length]; omega
    have h2 := bRows_len hn k
    rw [Nat.pow_succ]
    show ((bRows n k).flatMap (growB n)).length ≤ _
    omega
theorem bRows_snoc {n : Nat} {rows : List (List Nat)} {i : Nat} {r : List Nat} (h : rows[i]? = some r) : (rows.take (i + 1)).flatMap (growB n) = (rows.take i).flatMap (growB n) ++ growB n r := by
  rw [take_succ h, List.flatMap_append, List.flatMap_cons, List.flatMap_nil, List.append_nil]
/-- both rows alike -/
theorem growB_eq {n k : Nat} {r : List Nat} (h : RowOk n k r) : growB n r = growRow n r := by
  unfold growB growRow startB
  rw [if_neg h.ne]
theorem flatMap_eq {α β : Type} {f g : α → List β} : ∀ {l : List α}, (∀ x ∈ l, f x = g x) → l.flatMap f = l.flatMap g
  | [], _ => rfl
  | x :: r, h => by rw [List.flatMap_cons, List.flatMap_cons, h x List.mem_cons_self, flatMap_eq (l := r) fun y hy => h y (List.mem_cons_of_mem _ hy)]
theorem bRows_one (n : Nat) : bRows n 1 = firstRows n := by
  show [[]].flatMap (growB n) = firstRows n
  rw [List.flatMap_cons, List.flatMap_nil, List.append_nil]
  unfold growB firstRows startB
  rw [if_pos rfl, Nat.sub_zero, List.range_eq_range']
  rfl
theorem bRows_next {n : Nat} : ∀ k, (∀ r ∈ bRows n (k + 1), RowOk n k r) ∧ bRows n (k + 2) = nextRows n (bRows n (k + 1))
  | 0 => by
    have h : ∀ r ∈ bRows n 1, RowOk n 0 r := by
      rw [bRows_one]
      exact firstRows_ok
    exact ⟨h, flatMap_eq fun r m => growB_eq (h r m)⟩
  | k + 1 => by
    obtain ⟨h1, h2⟩ := bRows_next (n := n) k
    have h : ∀ r ∈ bRows n (k + 2), RowOk n (k + 1) r := by
      rw [h2]
      exact nextRows_ok h1
    exact ⟨h, flatMap_eq fun r m => growB_eq (h r m)⟩
/-- all rows of one, two, .. places, as the law joins them -/
def bAll (n : Nat) : List (List Nat) := (List.range n).flatMap fun k => bRows n (k + 1)
theorem rowsFrom_b {n : Nat} : ∀ f k, rowsFrom n f (bRows n (k + 1)) = (List.range' k f).flatMap fun j => bRows n (j + 1)
  | 0, k => rfl
  | f + 1, k => by
    show bRows n (k + 1) ++ rowsFrom n f (nextRows n (bRows n (k + 1))) = _
    rw [← (bRows_next k).2, rowsFrom_b f (k + 1), List.range'_succ, List.flatMap_cons]
theorem bAll_eq (n : Nat) : bAll n = lotRows n := by
  unfold bAll lotRows
  rw [← bRows_one, rowsFrom_b n 0, List.range_eq_range']
theorem depth_rows (r : List Nat) : PyData.depthAll (r.map fun (k : Nat) => PyData.int (k : Int)) = 0 := by
  induction r with
  | nil => simp [PyData.depthAll]
  | cons x r ih => simp [PyData.depthAll, PyData.depth, ih]
theorem lay_rows (r : List Nat) : PyData.canLayAll0 (r.map fun (k : Nat) => PyData.int (k : Int)) = true := by
  induction r with
  | nil => simp [PyData.canLayAll0]
  | cons x r ih => simp [PyData.canLayAll0, PyData.canLay0, ih]
theorem shaped_row (r : List Nat) : SeqAt.shaped (.tuple (r.map fun (k : Nat) => PyData.int (k : Int))) = true := by
  have h1 := lay_rows r
  have h2 := depth_rows r
  simp [SeqAt.shaped, PyData.canLay0, PyData.depth, h1, h2]
theorem eqv_row (r : List Nat) : PyData.eqv (.tuple (r.map fun (k : Nat) => PyData.int (k : Int))) (.tuple []) = r.isEmpty := by
  cases r <;> simp [PyData.eqv, PyData.eqvAll]
theorem dp_row {K : PySem.W.Frag} {H : Hp} : ∀ r : List Nat, DpAll K H (rowV r) (r.map fun (k : Nat) => PyData.int (k : Int))
  | [] => .nil
  | x :: r => .cons (.int _) (dp_row r)
def pickAt (zs : List Str) (r : List Nat) : List Str := r.map fun k => zs.getD k Str.empty
/-- the lots of the first i lengths -/
def lawLots (ch : Bool) (zs : List Str) (i : Nat) : List (List Str) := if ch then (List.range i).flatMap (longRows zs) else ((List.range i).flatMap fun k => bRows zs.length (k + 1)).map (pickAt zs)
theorem lawLots_all (ch : Bool) (zs : List Str) : lawLots ch zs zs.length = lotsFor ch zs := by
  cases ch with
  | true => rfl
  | false =>
    show (bAll zs.length).map (pickAt zs) = lotsOf zs
    rw [bAll_eq]
    rfl
theorem lawLots_next (ch : Bool) (zs : List Str) (i : Nat) : lawLots ch zs (i + 1) = lawLots ch zs i ++ (if ch then longRows zs i else (bRows zs.length (i + 1)).map (pickAt zs)) := by
  cases ch with
  | true =>
    show (List.range (i + 1)).flatMap (longRows zs) = (List.range i).flatMap (longRows zs) ++ longRows zs i
    rw [List.range_succ, List.flatMap_append, List.flatMap_cons, List.flatMap_nil, List.append_nil]
  | false =>
    show ((List.range (i + 1)).flatMap fun k => bRows zs.length (k + 1)).map (pickAt zs) = _
    rw [List.range_succ, List.flatMap_append, List.flatMap_cons, List.flatMap_nil, List.append_nil, List.map_append]
    rfl
def spBlots (K : PySem.W.Frag) : Sp := fun vs H Q _ => ∃ (a : Addr) (zs : List Str) (ch : Bool), vs = [.ref a, .bl ch] ∧ H a = some (.lst (zs.map V.str)) ∧ zs.length ≤ mostFor ch ∧
  ∀ (D : Addr) (ws : List V) (H' : Hp), H D = none → Same H H' → H' D = some (.lst ws) → Ats H' (fun l => l.map V.str) ws (lotsFor ch zs) → Q (.ref D) H'
def spRows (K : PySem.W.Frag) : Nat → Sp
  | 0 => fun _ _ _ _ => False
  | m + 1 => fun vs H Q _ => ∃ k n : Nat, vs = [.int (k : Int), .int (n : Int)] ∧ k ≤ m ∧ k ≤ 5 ∧ n ≤ 5 ∧ ∀ (D : Addr) (ws : List V) (H' : Hp), H D = none → Same H H' → H' D = some (.lst ws) → Ats H' rowV ws (bRows n k) → Q (.ref D) H'
end Bk

namespace Bk
open PySem PySem.Spec PyProof.Rows L2
section
variable {P : Program} {w : World} {K : PySem.W.Frag} {mg : Str → Option Value} {base : Heap}
end
end Bk

namespace Bk
open PySem PySem.Spec PyProof.Rows L2
section
variable {P : Program} {w : World} {K : PySem.W.Frag} {mg : Str → Option Value} {base : Heap}
end
end Bk

namespace Bk
open PySem PySem.Spec PyProof.Rows L2
def signsZ : Str := Str.ofString "zyxwvutsrqponmlkjihg"
def spareNames : List Str := signsZ.cps.toList.map fun c => Str.ofString "z" ++ sg c
theorem spare_nodup : spareNames.Nodup := by decide +kernel
theorem spare_len : spareNames.length = 20 := by decide +kernel
theorem spare_names : ∀ z ∈ spareNames, isNameS z = true := by decide +kernel
theorem fresh_spare (found : List Str) (hf : found.length < 20) : ∃ y r, spareNames.filter (fun x => decide (¬ x ∈ found)) = y :: r ∧ isNameS y = true ∧ y ∉ found := by
  cases e : spareNames.filter (fun x => decide (¬ x ∈ found)) with
  | nil =>
    have h : ∀ x ∈ spareNames, x ∈ found := by
      intro x hx
      by_cases h : x ∈ found
      · exact h
      · have : x ∈ spareNames.filter (fun x => decide (¬ x ∈ found)) := List.mem_filter.mpr ⟨hx, decide_eq_true h⟩
        rw [e] at this
        cases this
    have := pigeon spareNames found spare_nodup h
    rw [spare_len] at this
    omega
  | cons y r =>
    have hy : y ∈ spareNames.filter (fun x => decide (¬ x ∈ found)) := by rw [e]; exact List.mem_cons_self
    obtain ⟨h1, h2⟩ := List.mem_filter.mp hy
    exact ⟨y, r, rfl, spare_names y h1, of_decide_eq_true h2⟩
def spSpare (K : PySem.W.Frag) : Sp := fun vs H Q _ => ∃ (a : Addr) (zs : List Str), vs = [.ref a] ∧ (SqL K H a (zs.map V.str) ∨ SqT K H a (zs.map V.str)) ∧ zs.length < 20 ∧ ∀ (z : Str) (H' : Hp), Same H H' → isNameS z = true → z ∉ zs → Q (.str z) H'
section
variable {P : Program} {w : World} {K : PySem.W.Frag} {mg : Str → Option Value} {base : Heap}
end
end Bk

namespace Bk
open PySem PySem.Spec PyProof.Rows L2
section
variable {K : PySem.W.Frag}
/-! ### the top's facts -/
theorem fun_of {x qual : Str} {st : Stmt} {f : Addr} {fd : FuncData} (F : FunD K x qual (defArgs st) (defBody st) (defScope st) [] [] f fd) : Fun K x qual st f fd := by
  obtain ⟨⟨oc, od, dV, kV, doc, pm, an, cdv, ct, osl, rfl, lk, hcd, hD, _⟩, kp⟩ := F
  rcases hD with ⟨_, rfl⟩ | ⟨e, _⟩
  · exact ⟨⟨oc, od, kV, doc, pm, an, cdv, ct, osl, rfl, lk, hcd⟩, kp⟩
  · exact absurd rfl e
theorem mroE_ok {C : Addr} {l : List Value} (h : mroE C l = true) : ∃ bm, l = .ref C :: bm ∧ PySem.HandSPX.refsVE bm = true := by
  unfold mroE at h
  split at h
  · obtain ⟨h1, h2⟩ := Bool.and_eq_true_iff.mp h
    have e := of_decide_eq_true h1
    subst e
    exact ⟨_, rfl, h2⟩
  · cases h
theorem sixE_ok {l : List (Option Value)} (h : sixE l = true) : ∃ a b c d e, l = [a, b, c, d, some (.builtin "ValueError.__new__"), e] := by
  unfold sixE at h
  split at h
  · have e := of_decide_eq_true h
    subst e
    exact ⟨_, _, _, _, _, rfl⟩
  · cases h
theorem ownErr_ok {C : Addr} (h : ownErr K C = true) : ∃ nm q N bs bm sn sub ab col dd k0 k1 k2 k3 k5, K.lookup C = some (excClassObj nm q C N bs bm true sn sub ab col dd k0 k1 k2 k3 k5 "ValueError.__new__") ∧ PySem.HandSPX.refsVE bm = true := by
  unfold ownErr at h
  split at h
  · rename_i t dd cd sl q
    obtain ⟨h1, h⟩ := Bool.and_eq_true_iff.mp h
    obtain ⟨h2, h⟩ := Bool.and_eq_true_iff.mp h
    obtain ⟨h3, h⟩ := Bool.and_eq_true_iff.mp h
    obtain ⟨h4, h5⟩ := Bool.and_eq_true_iff.mp h
    have e1 := of_decide_eq_true h1
    obtain ⟨bm, e4, e5⟩ := mroE_ok h4
    obtain ⟨a, b, c, d, e, e6⟩ := sixE_ok h5
    obtain ⟨l⟩ := sl
    obtain ⟨c1, c2, c3, c4, c5, c6, c7, c8, c9, c10, c11⟩ := cd
    subst e1
    simp only at h2 h3 e4 e6
    subst h2 e4 e6
    have h3 : c11 = false := by
      cases c11 with
      | true => cases h3
      | false => rfl
    subst h3
    exact ⟨c1, c5, c4, c2, bm, c7, c8, c9, c10, dd, a, b, c, d, e, q, e5⟩
  · cases h
theorem errB_ok {mg : Str → Option Value} {x : Str} {C fI : Addr} {f : Str} (h : errB K C fI = true) (g : mg x = some (.ref C)) (noF : PySem.W.findIn K (.ref C) f = some none) (iC : PySem.W.findIn K (.ref C) "__init__" = some (some (.ref fI))) (te : PySem.W.exmOne K (.ref C) (.ref C) = some true) : ExT K mg x C fI f := by
  obtain ⟨h1, h⟩ := Bool.and_eq_true_iff.mp h
  obtain ⟨h2, h⟩ := Bool.and_eq_true_iff.mp h
  obtain ⟨h3, h⟩ := Bool.and_eq_true_iff.mp h
  obtain ⟨h4, h⟩ := Bool.and_eq_true_iff.mp h
  obtain ⟨h5, h⟩ := Bool.and_eq_true_iff.mp h
  obtain ⟨h6, h7⟩ := Bool.and_eq_true_iff.mp h
  exact ⟨g, ⟨ownErr_ok h1, of_decide_eq_true h7, of_decide_eq_true h3, of_decide_eq_true h4, h5⟩, xfB_ok h2, noF, iC, of_decide_eq_true h6, te⟩
theorem insB_ok {C : Addr} (h : insB K C = true) (c : Cls K C) (H : Hp) (x dx : Addr) (fs : List (Str × V)) (e : H x = some (.ins C dx fs)) : TyX K H (.ref x) (.ref C) := by
  obtain ⟨h1, h⟩ := Bool.and_eq_true_iff.mp h
  obtain ⟨h2, h⟩ := Bool.and_eq_true_iff.mp h
  obtain ⟨h3, h4⟩ := Bool.and_eq_true_iff.mp h
  exact .base (.ins e c (of_decide_eq_true h1) (of_decide_eq_true h2) (of_decide_eq_true h3) (of_decide_eq_true h4))
end
end Bk

/-! len, in, comparisons and subscripts of instances whose class says them itself: my own rules beside the layer's -/
namespace Bk
open PySem PySem.Spec PyProof.Rows L2
section
variable {X : Cx} {CX : CXT} {n : Nat} {C f : Addr} {fd : FuncData} {ps : List Str} {sp : Sp} {E : XK} {A : Around}
/-- a def of the text called from within a builtin -/
theorem own_run {pins : List (Addr × Obj)} {σ : L2.St} {H : Hp} {s : Shared} {Q : VK} {vs : List V} {us : List Value} (F : FnOk X.prog X.w X.K X.mg X.base CX n f fd ps sp) (hb : Binds X.K fd ps []) (hx : Passes CX X E) (sb : Sub X n A) (I : Inv X pins σ H s) (r : Vals vs us)
    (h : sp vs H Q E) : wpAny (model X.prog X.w) A (call (.ref f) us) (EP X pins σ Q) X.xe s := by
  have e := I.env0
  have e0 : Env0 X.prog X.w X.K X.mg X.base A X.stack s H := ⟨by rw [sb.fr]; exact e.frames, e.mod, e.bs, e.bsz, e.funs, e.frf, e.hok, e.bare⟩
  have hl := F.len _ _ _ _ h
  refine wpAny_call (codeAny_mono (F.run A X.stack s H ⟨us, []⟩ us vs _ E sb.room e0 (by
    have := hb s us I.kIn (by rw [List.append_nil, ← r.length, hl])
    simpa using this) r h) fun z s' hq => ?_)
  cases z with
  | error er => exact hx pins σ H s er s' I hq
  | ok fl =>
    cases fl with
    | ret w => exact I.after hq
    | next => exact False.elim hq
    | brk => exact False.elim hq
    | cont => exact False.elim hq
/-- a method that the class at C says itself, by name -/
structure Own (K : PySem.W.Frag) (C : Addr) (m : Str) (f : Addr) : Prop where
  at_ : PySem.W.findIn K (.ref C) m = some (some (.ref f))
  fn : PySem.W.isFn K (.ref f) = true
/-- len(x) -/
def rLenOwn (C : Addr) (sp : Sp) (E : XK) : List V → Hp → VK → Prop := fun xs H Q => ∃ (a dx : Addr) (fs : List (Str × V)), xs = [.ref a] ∧ H a = some (.ins C dx fs) ∧ sp [.ref a] H (fun v H' => ∃ k : Int, v = .int k ∧ 0 ≤ k ∧ k < 2 ^ 63 ∧ Q (.int k) H') E
theorem call_lenOwn (F : FnOk X.prog X.w X.K X.mg X.base CX n f fd ps sp) (hb : Binds X.K fd ps []) (hx : Passes CX X E) (hr : Room (n + 1) X.A) (m : Own X.K C "__len__" f) : CallR X (.builtin "len") (rLenOwn C sp E) := by
  intro pins s σ H xs us Q I r h
  obtain ⟨a, dx, fs, rfl, ha, hs⟩ := h
  cases r with
  | cons ra rn =>
    cases rn
    cases ra
    obtain ⟨mA, J, _⟩ := ins_get I.hok ha
    obtain ⟨od, J, _⟩ := J.look
    have sb : Sub X (n + 1) X.A := ⟨hr, rfl⟩
    obtain ⟨_, hF⟩ := I.fr
    refine PySem.W.len_K hF I.ok.mod.kin J m.at_ m.fn (wpAny_mono (own_run (vs := [.ref a]) F hb hx sb.in1 I (.cons rfl .nil) hs) (fun v s' hv => ?_) fun _ _ z => z)
    obtain ⟨x, H', I', rv, k, rfl, h0, h1, q⟩ := hv
    obtain ⟨t, rfl⟩ := rv
    exact ⟨⟨h0, h1⟩, .int k, H', I'.tok _, ⟨_, rfl⟩, q⟩
/-- x in y, y such an instance -/
def rInOwn (C : Addr) (sp : Sp) (E : XK) (neg : Bool) : R2 := fun x y H Q => ∃ (a dx : Addr) (fs : List (Str × V)), y = .ref a ∧ H a = some (.ins C dx fs) ∧ sp [.ref a, x] H (fun v H' => ∃ b : Bool, v = .bl b ∧ Q (.bl (if neg then !b else b)) H') E
theorem op_inOwn (F : FnOk X.prog X.w X.K X.mg X.base CX n f fd ps sp) (hb : Binds X.K fd ps []) (hx : Passes CX X E) (hr : Room n X.A) (m : Own X.K C "__contains__" f) : OpR X (compareOp .In) (rInOwn C sp E false) := by
  intro pins s σ H x y v u Q I rx ry h
  obtain ⟨a, dx, fs, rfl, ha, hs⟩ := h
  cases ry
  obtain ⟨mA, J, _⟩ := ins_get I.hok ha
  obtain ⟨od, J, _⟩ := J.look
  obtain ⟨_, hF⟩ := I.fr
  refine PySem.W.in_K hF I.ok.mod.kin J m.at_ m.fn (wpAny_mono (own_run (vs := [.ref a, x]) F hb hx ⟨hr, rfl⟩ I (.cons rfl (.cons rx .nil)) hs) (fun v s' hv => ?_) fun _ _ z => z)
  obtain ⟨x, H', I', rv, b, rfl, q⟩ := hv
  cases rv
  exact wpAny_truthy_bool ⟨.bl b, H', I', rfl, q⟩
theorem op_notInOwn (F : FnOk X.prog X.w X.K X.mg X.base CX n f fd ps sp) (hb : Binds X.K fd ps []) (hx : Passes CX X E) (hr : Room n X.A) (m : Own X.K C "__contains__" f) : OpR X (compareOp .NotIn) (rInOwn C sp E true) := by
  intro pins s σ H x y v u Q I rx ry h
  obtain ⟨a, dx, fs, rfl, ha, hs⟩ := h
  cases ry
  obtain ⟨mA, J, _⟩ := ins_get I.hok ha
  obtain ⟨od, J, _⟩ := J.look
  obtain ⟨_, hF⟩ := I.fr
  refine PySem.W.notIn_K hF I.ok.mod.kin J m.at_ m.fn (wpAny_mono (own_run (vs := [.ref a, x]) F hb hx ⟨hr, rfl⟩ I (.cons rfl (.cons rx .nil)) hs) (fun v s' hv => ?_) fun _ _ z => z)
  obtain ⟨x, H', I', rv, b, rfl, q⟩ := hv
  cases rv
  exact wpAny_truthy_bool ⟨.bl (!b), H', I', rfl, q⟩
end
section
variable {X : Cx} {pins : List (Addr × Obj)} {σ : L2.St} {H : Hp} {s : Shared}
theorem looks_cls {M : Model} {h : Heap} {a : Addr} {o : Obj} {t : Value} (e : h.get? a = some o) (c : o.cls = t) : PySem.W.Looks M h (typeOf (.ref a)) t := fun _ _ _ _ k q => wpAny_typeOf_ref (k _ _ e) (by rw [c]; exact q)
/-- the class of what a tracked value stands for -/
theorem type_of {x : V} {u t : Value} (I : Inv X pins σ H s) (rx : RelV x u) (ty : TyX X.K H x t) : PySem.W.Looks (model X.prog X.w) s.heap (typeOf u) t := by
  cases ty with
  | base b =>
    cases b with
    | non => cases (show u = Value.none from rx); exact PySem.W.Looks.of_pure rfl
    | bl y => cases (show u = Value.bool y from rx); exact PySem.W.Looks.of_pure rfl
    | int i => obtain ⟨t, q⟩ := (show ∃ t, u = Value.int i t from rx); cases q; exact PySem.W.Looks.of_pure rfl
    | str y => obtain ⟨t, q⟩ := (show ∃ t, u = Value.str y t from rx); cases q; exact PySem.W.Looks.of_pure rfl
    | flt y => obtain ⟨t, q⟩ := (show ∃ t, u = Value.float y t from rx); cases q; exact PySem.W.Looks.of_pure rfl
    | @lst a xs ea =>
      cases (show u = Value.ref a from rx)
      obtain ⟨_, _, n, _, h1⟩ := (show ObjOk X.prog X.w H s.heap a (.lst xs) from I.hok a _ ea)
      exact looks_cls h1 rfl
    | @frz a ob xs ea =>
      cases (show u = Value.ref a from rx)
      obtain ⟨_, _, _, n, _, h1⟩ := (show ObjOk X.prog X.w H s.heap a (.frz ob (.lst xs)) from I.hok a _ ea)
      exact looks_cls h1 rfl
    | @tup a xs ea =>
      cases (show u = Value.ref a from rx)
      obtain ⟨_, _, _, o, h1, h2, _⟩ := (show ObjOk X.prog X.w H s.heap a (.tup xs) from I.hok a _ ea)
      exact looks_cls h1 h2
    | @dK a kvs ea =>
      cases (show u = Value.ref a from rx)
      obtain ⟨_, _, vs, _, o, es, ep, h1, h2, _⟩ := (show ObjOk X.prog X.w H s.heap a (.dK kvs) from I.hok a _ ea)
      exact looks_cls h1 h2.1
    | @dT a kvs ea =>
      cases (show u = Value.ref a from rx)
      obtain ⟨_, _, xs, _, o, es, ep, h1, h2, _⟩ := (show ObjOk X.prog X.w H s.heap a (.dT kvs) from I.hok a _ ea)
      exact looks_cls h1 h2.1
    | @ins a C dx fs ea cl ha hn htk hm =>
      cases (show u = Value.ref a from rx)
      obtain ⟨mA, O, _⟩ := ins_get I.hok ea
      exact looks_cls O.obj rfl
  | byt y => obtain ⟨t, q⟩ := (show ∃ t, u = Value.bytes y t from rx); cases q; exact PySem.W.Looks.of_pure rfl
  | @set a S n ea =>
    cases (show u = Value.ref a from rx)
    obtain ⟨o, _, _, _, e, ex, _⟩ := I.hok a _ ea
    exact looks_cls e ex.1
  | @kList a o e c =>
    cases (show u = Value.ref a from rx)
    exact looks_cls (I.kIn a o e) c
  | @kTuple a o e c =>
    cases (show u = Value.ref a from rx)
    exact looks_cls (I.kIn a o e) c
  | @kDict a o e c =>
    cases (show u = Value.ref a from rx)
    exact looks_cls (I.kIn a o e) c
  | @fTuple a o xs ea =>
    cases (show u = Value.ref a from rx)
    obtain ⟨_, _, _, _, o', h1, h2, _⟩ := (show ObjOk X.prog X.w H s.heap a (.frz o (.tup xs)) from I.hok a _ ea)
    exact looks_cls h1 h2
  | @fDict a o kvs ea =>
    cases (show u = Value.ref a from rx)
    obtain ⟨_, _, _, vs, _, o', es, ep, h1, h2, _⟩ := (show ObjOk X.prog X.w H s.heap a (.frz o (.dK kvs)) from I.hok a _ ea)
    exact looks_cls h1 h2.1
end
section
variable {X : Cx} {CX : CXT} {n : Nat} {C f : Addr} {fd : FuncData} {ps : List Str} {sp : Sp} {E : XK}
/-- x op y, x an instance whose class says the comparison itself; it tells a truth value -/
def rCmpOwn (K : PySem.W.Frag) (C : Addr) (sp : Sp) (E : XK) : R2 := fun x y H Q => ∃ (a dx : Addr) (fs : List (Str × V)) (t : Value), x = .ref a ∧ H a = some (.ins C dx fs) ∧ TyX K H y t ∧ PySem.W.notFirst K C t = true ∧ sp [.ref a, y] H (fun v H' => ∃ b : Bool, v = .bl b ∧ Q (.bl b) H') E
theorem op_cmpOwn {op : CmpOp} (F : FnOk X.prog X.w X.K X.mg X.base CX n f fd ps sp) (hb : Binds X.K fd ps []) (hx : Passes CX X E) (hr : Room n X.A) (m : Own X.K C (cmpInfo op).2.1 f) (hop : compareOp op = richCompare op := by rfl) : OpR X (compareOp op) (rCmpOwn X.K C sp E) := by
  intro pins s σ H x y v u Q I rx ry h
  obtain ⟨a, dx, fs, t, rfl, ha, ty, nf, hs⟩ := h
  cases rx
  obtain ⟨mA, J, _⟩ := ins_get I.hok ha
  obtain ⟨od, J, _⟩ := J.look
  obtain ⟨_, hF⟩ := I.fr
  rw [hop]
  refine PySem.W.cmp_K (op := op) hr.units0 hF I.ok.mod.kin J (type_of I ry ty) nf m.at_ m.fn (wpAny_mono (own_run (vs := [.ref a, y]) F hb hx ⟨hr, rfl⟩ I (.cons rfl (.cons ry .nil)) hs) (fun v s' hv => ?_) fun _ _ z => z)
  obtain ⟨z, H', I', rv, b, rfl, q⟩ := hv
  cases rv
  exact ⟨.bl b, H', I', rfl, q⟩
end
end Bk

namespace Bk
open PySem PySem.Spec PyProof.Rows L2
def spFLen (C : Addr) : Sp := fun vs H Q _ => ∃ (x : Addr) (zs : List Str) (ch : Bool), vs = [.ref x] ∧ FoldersAt C H x zs ch ∧ zs.length ≤ 100 ∧ Q (.int (zs.length : Int)) H
def spFEq (K : PySem.W.Frag) (C : Addr) : Sp := fun vs H Q _ => ∃ (x : Addr) (y : V) (t : Value) (zs : List Str) (ch r : Bool), vs = [.ref x, y] ∧ FoldersAt C H x zs ch ∧ (∀ z ∈ zs, isNameS z = true) ∧ TyX K H y t ∧
  ((PySem.W.kitOne K t (.ref C) = some false ∧ r = false) ∨ (PySem.W.kitOne K t (.ref C) = some true ∧ ∃ (b : Addr) (zs' : List Str) (ch' : Bool), y = .ref b ∧ FoldersAt C H b zs' ch' ∧ (∀ z ∈ zs', isNameS z = true) ∧ r = (decide (zs = zs') && decide (ch = ch')))) ∧ ∀ H', Same H H' → Q (.bl r) H'
theorem name_ok {z : Str} (h : isNameS z = true) : PyData.strOk z = true := by
  unfold isNameS at h
  simp only [Bool.and_eq_true] at h
  unfold PyData.strOk
  rw [← Array.all_toList]
  refine List.all_eq_true.mpr fun c m => ?_
  have := (letters_mem c).mp (of_decide_eq_true (List.all_eq_true.mp h.2 c m))
  exact decide_eq_true (by omega)
theorem look_chain (t pd : Addr) (ch : Bool) : (foldersF t pd ch).lookup ("chain" : Str) = some (.bl ch) := by
  have h : (("chain" : Str) == ("names" : Str)) = false := by decide +kernel
  show List.lookup ("chain" : Str) [(("names" : Str), V.ref t), ("chain", .bl ch), ("places", .ref pd)] = _
  simp [List.lookup, h]
theorem look_places (t pd : Addr) (ch : Bool) : (foldersF t pd ch).lookup ("places" : Str) = some (.ref pd) := by
  have h : (("places" : Str) == ("names" : Str)) = false := by decide +kernel
  have h2 : (("places" : Str) == ("chain" : Str)) = false := by decide +kernel
  show List.lookup ("places" : Str) [(("names" : Str), V.ref t), ("chain", .bl ch), ("places", .ref pd)] = _
  simp [List.lookup, h, h2]
theorem lay_strs : ∀ zs : List Str, (∀ z ∈ zs, isNameS z = true) → PyData.canLayAll0 (zs.map PyData.str) = true
  | [], _ => by simp [PyData.canLayAll0]
  | x :: r, h => by
    have := lay_strs r fun z m => h z (List.mem_cons_of_mem _ m)
    simp [PyData.canLayAll0, PyData.canLay0, this, name_ok (h x List.mem_cons_self)]
theorem shaped_strs (zs : List Str) (h : ∀ z ∈ zs, isNameS z = true) : SeqAt.shaped (.tuple (zs.map PyData.str)) = true := by
  have h1 := lay_strs zs h
  have h2 := depth_strs zs
  simp [SeqAt.shaped, PyData.canLay0, PyData.depth, h1, h2]
theorem eqvAll_strs : ∀ a b : List Str, PyData.eqvAll (a.map PyData.str) (b.map PyData.str) = decide (a = b)
  | [], [] => by simp [PyData.eqvAll]
  | [], _ :: _ => by simp [PyData.eqvAll]
  | _ :: _, [] => by simp [PyData.eqvAll]
  | x :: r, y :: t => by
    have ih := eqvAll_strs r t
    simp only [List.map_cons, PyData.eqvAll, PyData.eqv, ih]
    by_cases h1 : x = y
    · subst h1
      by_cases h2 : r = t
      · subst h2
        simp
      · simp [h2]
    · simp [h1]
theorem eqv_strs (a b : List Str) : PyData.eqv (.tuple (a.map PyData.str)) (.tuple (b.map PyData.str)) = decide (a = b) := by
  simp [PyData.eqv, eqvAll_strs]
section
variable {P : Program} {w : World} {K : PySem.W.Frag} {mg : Str → Option Value} {base : Heap}
theorem scFLen : FnScope ["self"] ["self"] (defScope (inClass (topS 32) 1)) := ⟨rfl, rfl, rfl, by decide +kernel, rfl, by decide +kernel, by decide +kernel⟩
theorem ok_flen (B : Bi mg) {C f0 f : Addr} {fd : FuncData} (T : FolT K mg C f0) (F : Fun K "__len__" "Folders.__len__" (inClass (topS 32) 1) f fd) : FnOk P w K mg base CX0 1 f fd ["self"] (spFLen C) := by
  refine F.ok scFLen (fun vs H Q E h => ?_) (fun cdv A outer s H vs Q E hr h => ?_)
  · obtain ⟨x, zs, ch, rfl, _⟩ := h
    rfl
  · obtain ⟨x, zs, ch, rfl, ⟨dx, t, pd, hx, ht, hp⟩, hl, q⟩ := h
    have nd := scFLen.nd
    refine ⟨_, (pss_one (ps_ret (pe_callB (kLen K) (by rfl) B.len PySem.boot_len (pa_cons (pe_fld (pv 0) rfl) pa_nil)))), ?_⟩
    exact ⟨_, rfl, x, C, dx, _, _, rfl, hx, T.cl, T.nN, look_names _ _ _, .ref t, zs.length, rfl, .inr ⟨_, SqT.of ht, by rw [List.length_map]⟩, q⟩
theorem scFEq : FnScope ["self", "other"] ["self", "other"] (defScope (inClass (topS 32) 3)) := ⟨rfl, rfl, rfl, by decide +kernel, rfl, by decide +kernel, by decide +kernel⟩
theorem ok_feq (B : Bi mg) {C_Folders f0 f : Addr} {fd : FuncData} (T : FolT K mg C_Folders f0) (F : Fun K "__eq__" "Folders.__eq__" (inClass (topS 32) 3) f fd) : FnOk P w K mg base CX0 1 f fd ["self", "other"] (spFEq K C_Folders) := by
  refine F.ok scFEq (fun vs H Q E h => ?_) (fun cdv A outer s H vs Q E hr h => ?_)
  · obtain ⟨x, y, t, zs, ch, r, rfl, _⟩ := h
    rfl
  · obtain ⟨x, y, ty, zs, ch, r, rfl, ⟨dx, t, pd, hx, ht, hp⟩, hl, tyx, hcase, q⟩ := h
    have nd := scFEq.nd
    have g_Folders := T.g
    refine ⟨_, (pss_one (ps_ret (pe_and (pe_callB (kIsi K) (by rfl) B.isinstance (by decide +kernel) (pa_cons (pv 1) (pa_cons (pe_glob (v := .ref _) (by rfl) g_Folders rfl) pa_nil))) (pe_and (pe_cmpR (kEqD K hr.units) (pe_fld (pv 0) rfl) (pe_fld (pv 1) rfl) (nomark _)) (pe_one (pe_cmpR op_eq (pe_fld (pv 0) rfl) (pe_fld (pv 1) rfl) (nomark _))))))), ?_⟩
    rcases hcase with ⟨hk, rfl⟩ | ⟨hk, b, zs', ch', rfl, ⟨dx', t', pd', hx', ht', hp'⟩, hl', rfl⟩
    · refine ⟨_, rfl, y, .ref C_Folders, ty, .ref C_Folders, false, rfl, .own _, tyx, hk, _, rfl, ?_⟩
      refine iteF ?_
      exact q H (Same.refl _)
    · refine ⟨_, rfl, .ref b, .ref C_Folders, ty, .ref C_Folders, true, rfl, .own _, tyx, hk, _, rfl, ?_⟩
      refine iteT ?_
      refine ⟨_, rfl, x, C_Folders, dx, _, _, rfl, hx, T.cl, T.nN, look_names _ _ _, _, rfl, b, C_Folders, dx', _, _, rfl, hx', T.cl, T.nN, look_names _ _ _, ?_⟩
      refine ⟨.tuple (zs.map PyData.str), .tuple (zs'.map PyData.str), .tup (SqT.of ht) (dp_strs zs), .tup (SqT.of ht') (dp_strs zs'), shaped_strs zs hl, shaped_strs zs' hl', _, rfl, ?_⟩
      rw [eqv_strs]
      by_cases e : zs = zs'
      · rw [decide_eq_true e]
        refine iteT ?_
        refine ⟨_, rfl, x, C_Folders, dx, _, _, rfl, hx, T.cl, T.nC, look_chain _ _ _, _, rfl, b, C_Folders, dx', _, _, rfl, hx', T.cl, T.nC, look_chain _ _ _, ?_⟩
        refine ⟨rfl, ?_⟩
        have := q H (Same.refl _)
        rw [decide_eq_true e, Bool.true_and] at this
        rw [show decide (V.bl ch = V.bl ch') = decide (ch = ch') by cases ch <;> cases ch' <;> rfl]
        exact this
      · rw [decide_eq_false e]
        refine iteF ?_
        have := q H (Same.refl _)
        rw [decide_eq_false e, Bool.false_and] at this
        exact this
end
end Bk

namespace Bk
open PySem PySem.Spec PyProof.Rows L2
/-! ### no lot stands twice -/
theorem nodup_inj {α : Type} {l : List α} (h : l.Nodup) {i j : Nat} (hi : i < l.length) (hj : j < l.length) (e : l[i] = l[j]) : i = j := by
  have p := List.pairwise_iff_getElem.mp h
  rcases Nat.lt_trichotomy i j with q | q | q
  · exact absurd e (p i j hi hj q)
  · exact q
  · exact absurd e.symm (p j i hj hi q)
theorem growB_nodup (n : Nat) (r : List Nat) : (growB n r).Nodup := by
  unfold growB
  unfold List.Nodup
  rw [List.pairwise_map]
  refine List.Pairwise.imp ?_ (List.nodup_range' (s := startB r) (n := n - startB r) (step := 1))
  intro a b hne e
  exact hne (by simpa using e)
theorem bRows_nodup (n : Nat) : ∀ k, (bRows n k).Nodup
  | 0 => List.nodup_cons.mpr ⟨(fun h => nomatch h), List.nodup_nil⟩
  | k + 1 => by
    show ((bRows n k).flatMap (growB n)).Nodup
    unfold List.Nodup
    rw [List.pairwise_flatMap]
    refine ⟨fun r _ => growB_nodup n r, List.Pairwise.imp ?_ (bRows_nodup n k)⟩
    intro a b hne x hx y hy e
    subst e
    obtain ⟨i, _, rfl⟩ := List.mem_map.mp hx
    obtain ⟨j, _, h⟩ := List.mem_map.mp hy
    exact hne (List.append_inj_left' h rfl).symm
theorem range_pair (n : Nat) : (List.range n).Pairwise (· ≠ ·) := List.nodup_range
theorem bAll_nodup (n : Nat) : (bAll n).Nodup := by
  unfold bAll
  unfold List.Nodup
  rw [List.pairwise_flatMap]
  refine ⟨fun k _ => bRows_nodup n (k + 1), List.Pairwise.imp ?_ (range_pair n)⟩
  intro a b hne x hx y hy e
  subst e
  have h1 := (bRows_ok (a + 1) x hx).len
  have h2 := (bRows_ok (b + 1) x hy).len
  exact hne (by omega)
theorem getD_inj {zs : List Str} (h : zs.Nodup) {i j : Nat} (hi : i < zs.length) (hj : j < zs.length) (e : zs.getD i Str.empty = zs.getD j Str.empty) : i = j := by
  rw [List.getD_eq_getElem?_getD, List.getD_eq_getElem?_getD, List.getElem?_eq_getElem hi, List.getElem?_eq_getElem hj] at e
  exact nodup_inj h hi hj e
theorem pick_inj {zs : List Str} (h : zs.Nodup) : ∀ {a b : List Nat}, (∀ x ∈ a, x < zs.length) → (∀ x ∈ b, x < zs.length) → pickAt zs a = pickAt zs b → a = b
  | [], [], _, _, _ => rfl
  | [], _ :: _, _, _, e => nomatch e
  | _ :: _, [], _, _, e => nomatch e
  | x :: r, y :: t, ha, hb, e => by
    have e : zs.getD x Str.empty :: pickAt zs r = zs.getD y Str.empty :: pickAt zs t := e
    injection e with e1 e2
    have h1 := getD_inj h (ha x List.mem_cons_self) (hb y List.mem_cons_self) e1
    have h2 := pick_inj h (fun z m => ha z (List.mem_cons_of_mem _ m)) (fun z m => hb z (List.mem_cons_of_mem _ m)) e2
    rw [h1, h2]
theorem bAll_lt {n : Nat} {r : List Nat} (h : r ∈ bAll n) : ∀ x ∈ r, x < n := by
  obtain ⟨k, _, hr⟩ := List.mem_flatMap.mp h
  exact (bRows_ok (k + 1) r hr).lt
theorem map_nodup {α β : Type} {f : α → β} : ∀ {l : List α}, l.Nodup → (∀ x ∈ l, ∀ y ∈ l, f x = f y → x = y) → (l.map f).Nodup
  | [], _, _ => List.nodup_nil
  | x :: r, h, hf => by
    obtain ⟨h1, h2⟩ := List.nodup_cons.mp h
    rw [List.map_cons, List.nodup_cons]
    refine ⟨fun m => ?_, map_nodup h2 fun a ha b hb => hf a (List.mem_cons_of_mem _ ha) b (List.mem_cons_of_mem _ hb)⟩
    obtain ⟨y, hy, e⟩ := List.mem_map.mp m
    have := hf y (List.mem_cons_of_mem _ hy) x List.mem_cons_self e
    exact h1 (this ▸ hy)
theorem lotsOf_nodup {zs : List Str} (h : zs.Nodup) : (lotsOf zs).Nodup := by
  show ((lotRows zs.length).map (pickAt zs)).Nodup
  rw [← bAll_eq]
  exact map_nodup (bAll_nodup _) fun x hx y hy e => pick_inj h (bAll_lt hx) (bAll_lt hy) e
theorem cut_head {zs : List Str} {i l : Nat} (h : i < zs.length) : ((zs.drop i).take (l + 1))[0]? = some zs[i] := by
  rw [List.getElem?_take_of_lt (Nat.succ_pos _), List.getElem?_drop, Nat.add_zero, List.getElem?_eq_getElem h]
theorem longRows_nodup {zs : List Str} (h : zs.Nodup) (l : Nat) : (longRows zs l).Nodup := by
  unfold longRows
  refine map_nodup List.nodup_range fun i hi j hj e => ?_
  have hi := List.mem_range.mp hi
  have hj := List.mem_range.mp hj
  have h1 := cut_head (zs := zs) (l := l) (i := i) (by omega)
  have h2 := cut_head (zs := zs) (l := l) (i := j) (by omega)
  rw [e, h2] at h1
  exact (nodup_inj h (by omega) (by omega) (Option.some.inj h1)).symm
theorem chainLots_nodup {zs : List Str} (h : zs.Nodup) : (chainLots zs).Nodup := by
  unfold chainLots
  unfold List.Nodup
  rw [List.pairwise_flatMap]
  refine ⟨fun l _ => longRows_nodup h l, List.Pairwise.imp ?_ (range_pair zs.length)⟩
  intro a b hne x hx y hy e
  subst e
  obtain ⟨i, hi, rfl⟩ := List.mem_map.mp hx
  obtain ⟨j, hj, e⟩ := List.mem_map.mp hy
  have hi := List.mem_range.mp hi
  have hj := List.mem_range.mp hj
  have := congrArg List.length e
  rw [List.length_take, List.length_take, List.length_drop, List.length_drop] at this
  exact hne (by omega)
theorem lots_nodup {ch : Bool} {zs : List Str} (h : zs.Nodup) : (lotsFor ch zs).Nodup := by
  cases ch with
  | true => exact chainLots_nodup h
  | false => exact lotsOf_nodup h
theorem inr_inj : ∀ {a b : List Str}, (a.map Sum.inr : List Key) = b.map Sum.inr → a = b
  | [], [], _ => rfl
  | [], _ :: _, h => nomatch h
  | _ :: _, [], h => nomatch h
  | x :: r, y :: t, h => by
    have h : (Sum.inr x : Key) :: r.map Sum.inr = Sum.inr y :: t.map Sum.inr := h
    injection h with h1 h2
    injection h1 with h1
    rw [h1, inr_inj h2]
theorem putK_fresh {kvs : List (List Key × V)} {k : List Key} {v : V} (h : k ∉ kvs.map (·.1)) : putK kvs k v = kvs ++ [(k, v)] := by
  unfold putK
  rw [if_neg]
  intro e
  obtain ⟨p, hp, hk⟩ := List.any_eq_true.mp e
  exact h (List.mem_map.mpr ⟨p, hp, of_decide_eq_true hk⟩)
theorem places_keys {ls : List (List Str)} (h : ls.Nodup) : ∀ i, i ≤ ls.length → (placesOf (ls.take i)).map (·.1) = (ls.take i).map fun l => (l.map Sum.inr : List Key)
  | 0, _ => rfl
  | i + 1, hi => by
    have ih := places_keys h i (by omega)
    have e : ls[i]? = some ls[i] := List.getElem?_eq_getElem (by omega)
    rw [places_snoc e, putK_fresh, List.map_append, ih, take_succ e, List.map_append]
    · rfl
    · rw [ih]
      intro m
      obtain ⟨l, hl, q⟩ := List.mem_map.mp m
      have q := inr_inj q
      subst q
      obtain ⟨j, hj, e2⟩ := List.mem_take_iff_getElem.mp hl
      have := nodup_inj h (by omega) (by omega) e2
      omega
theorem keys_ats {H : Hp} {kvs : List (List Key × V)} {bs : List Addr} {ls : List (List Str)} (h : IsKeys H kvs bs) (e : kvs.map (·.1) = ls.map fun l => (l.map Sum.inr : List Key)) : Ats H (fun l : List Str => l.map V.str) (bs.map V.ref) ls := by
  unfold IsKeys at h
  induction h generalizing ls with
  | nil =>
    cases ls with
    | nil => exact .nil
    | cons l r => cases e
  | @cons p b ps bs hp t ih =>
    cases ls with
    | nil => cases e
    | cons l r =>
      have e : p.1 :: ps.map (·.1) = (l.map Sum.inr : List Key) :: r.map fun l => (l.map Sum.inr : List Key) := e
      injection e with e1 e2
      have a := Ats.one (g := fun l : List Str => l.map V.str) (H := H) (b := b) (x := l) (by
        rw [hp, e1, List.map_map]
        rfl)
      exact a.append (ih e2)
/-- the keys of places are the lots, in their order -/
theorem places_ats {H : Hp} {ch : Bool} {zs : List Str} {bs : List Addr} (hn : zs.Nodup) (h : IsKeys H (placesOf (lotsFor ch zs)) bs) : Ats H (fun l : List Str => l.map V.str) (bs.map V.ref) (lotsFor ch zs) := by
  have := places_keys (lots_nodup (ch := ch) hn) (lotsFor ch zs).length (Nat.le_refl _)
  rw [List.take_length] at this
  exact keys_ats h this
end Bk

namespace Bk
open PySem PySem.Spec PyProof.Rows L2
def spFLots (C : Addr) : Sp := fun vs H Q _ => ∃ (x : Addr) (zs : List Str) (ch : Bool), vs = [.ref x] ∧ FoldersAt C H x zs ch ∧ zs.Nodup ∧ ∀ (D : Addr) (ws : List V) (H' : Hp), H D = none → Same H H' → H' D = some (.lst ws) → Ats H' (fun l : List Str => l.map V.str) ws (lotsFor ch zs) → Q (.ref D) H'
def spFIn (C : Addr) : Sp := fun vs H Q _ => ∃ (x : Addr) (y : V) (zs : List Str) (ch : Bool), vs = [.ref x, y] ∧ FoldersAt C H x zs ch ∧ flatV y = true ∧ ∀ H', Same H H' → Q (.bl (inV y (zs.map V.str))) H'
section
variable {P : Program} {w : World} {K : PySem.W.Frag} {mg : Str → Option Value} {base : Heap}
theorem scFLots : FnScope ["self"] ["self"] (defScope (inClass (topS 32) 4)) := ⟨rfl, rfl, rfl, by decide +kernel, rfl, by decide +kernel, by decide +kernel⟩
theorem ok_flots (B : Bi mg) {C f0 f : Addr} {fd : FuncData} (T : FolT K mg C f0) (F : Fun K "lots" "Folders.lots" (inClass (topS 32) 4) f fd) : FnOk P w K mg base CX0 1 f fd ["self"] (spFLots C) := by
  refine F.ok scFLots (fun vs H Q E h => ?_) (fun cdv A outer s H vs Q E hr h => ?_)
  · obtain ⟨x, zs, ch, rfl, _⟩ := h
    rfl
  · obtain ⟨x, zs, ch, rfl, ⟨dx, t, pd, hx, ht, hp⟩, hn, q⟩ := h
    have nd := scFLots.nd
    refine ⟨_, (pss_one (ps_ret (pe_callTy (call_list_dT rfl) (by rfl) B.list (by decide +kernel) (pa_cons (pe_fld (pv 0) rfl) pa_nil)))), ?_⟩
    refine ⟨_, rfl, x, C, dx, _, _, rfl, hx, T.cl, T.nP, look_places _ _ _, pd, _, rfl, .inl hp, fun D bs nD hk => ?_⟩
    have e := same_upd (o := HO.lst (bs.map V.ref)) nD
    exact q D _ _ nD e upd_same ((places_ats hn hk).same e)
theorem scFIn : FnScope ["self", "x"] ["self", "x"] (defScope (inClass (topS 32) 2)) := ⟨rfl, rfl, rfl, by decide +kernel, rfl, by decide +kernel, by decide +kernel⟩
theorem ok_fin (B : Bi mg) {C f0 f : Addr} {fd : FuncData} (T : FolT K mg C f0) (F : Fun K "__contains__" "Folders.__contains__" (inClass (topS 32) 2) f fd) : FnOk P w K mg base CX0 1 f fd ["self", "x"] (spFIn C) := by
  refine F.ok scFIn (fun vs H Q E h => ?_) (fun cdv A outer s H vs Q E hr h => ?_)
  · obtain ⟨x, y, zs, ch, rfl, _⟩ := h
    rfl
  · obtain ⟨x, y, zs, ch, rfl, ⟨dx, t, pd, hx, ht, hp⟩, hf, q⟩ := h
    have nd := scFIn.nd
    refine ⟨_, (pss_one (ps_ret (pe_cmpR (kIn K) (pv 1) (pe_fld (pv 0) rfl) rfl))), ?_⟩
    exact ⟨_, rfl, _, rfl, x, C, dx, _, _, rfl, hx, T.cl, T.nN, look_names _ _ _, t, _, rfl, .inr (SqT.of ht), hf, flat_strs _, q H (Same.refl _)⟩
end
end Bk

/-! == with an instance on the right whose class says == itself, and in of a tuple for such an instance -/
namespace Bk
open PySem PySem.Spec PyProof.Rows L2
open AutoSeq1 (wpAny_loadPart')
open MeetsSeq
theorem str_eq_inst (b : Str) (u : Tok) (l : Addr) (c : Value) (dd : Option Addr) (sl : Array (Option Value)) :
    Meets (Builtin.«str.__eq__» ⟨[.str b u, .ref l], []⟩) (fun _ R s => s.heap.get? l = some { cls := c, dict := dd, data := .plain, slots := sl } ∧ R (.ok (.ret .notImplemented)) s) :=
  .of_wp fun prog w A R s h => by obtain ⟨hp, g, d, tk, os⟩ := s; obtain ⟨hl, h⟩ := h; wp_walk using wpAny_loadPart' hl, wpAny_load hl; exact ⟨_, rfl, h⟩
theorem int_eq_inst (b : Int) (u : Tok) (l : Addr) (c : Value) (dd : Option Addr) (sl : Array (Option Value)) :
    Meets (Builtin.«int.__eq__» ⟨[.int b u, .ref l], []⟩) (fun _ R s => s.heap.get? l = some { cls := c, dict := dd, data := .plain, slots := sl } ∧ R (.ok (.ret .notImplemented)) s) :=
  .of_wp fun prog w A R s h => by obtain ⟨hp, g, d, tk, os⟩ := s; obtain ⟨hl, h⟩ := h; wp_walk using wpAny_loadPart' hl, wpAny_load hl; exact ⟨_, rfl, h⟩
def NotSub (C : Addr) (T : String) (s : Shared) : Prop := ∀ (M : Model) (A : Around) (E : Value → Shared → Prop) (Q : Bool → Shared → Prop), Q false s → wpAny M A (isSubtype (.ref C) (.type T)) Q E s
theorem list_eq_inst (l b C : Addr) (items : Array Value) (n : Nat) (dd db : Option Addr) (sl sb : Array (Option Value)) :
    Meets (Builtin.«list.__eq__» ⟨[.ref l, .ref b], []⟩) (fun _ R s => s.heap.get? l = some { cls := .type "list", dict := dd, data := .seq items n, slots := sl } ∧ s.heap.get? b = some { cls := .ref C, dict := db, data := .plain, slots := sb } ∧ NotSub C "list" s ∧ R (.ok (.ret .notImplemented)) s) :=
  .of_wp fun prog w A R s h => by obtain ⟨hp, g, d, tk, os⟩ := s; obtain ⟨hl, hb, hn, h⟩ := h; wp_walk using wpAny_loadPart' hl, wpAny_loadPart' hb; refine hn _ _ _ _ ?_; wp_walk; exact ⟨_, rfl, h⟩
theorem tuple_eq_inst (l b C : Addr) (items : Array Value) (n : Nat) (dd db : Option Addr) (sl sb : Array (Option Value)) :
    Meets (Builtin.«tuple.__eq__» ⟨[.ref l, .ref b], []⟩) (fun _ R s => s.heap.get? l = some { cls := .type "tuple", dict := dd, data := .seq items n, slots := sl } ∧ s.heap.get? b = some { cls := .ref C, dict := db, data := .plain, slots := sb } ∧ NotSub C "tuple" s ∧ R (.ok (.ret .notImplemented)) s) :=
  .of_wp fun prog w A R s h => by obtain ⟨hp, g, d, tk, os⟩ := s; obtain ⟨hl, hb, hn, h⟩ := h; wp_walk using wpAny_loadPart' hl, wpAny_loadPart' hb; refine hn _ _ _ _ ?_; wp_walk; exact ⟨_, rfl, h⟩
section
variable {X : Cx} {prog : Program} {w : World} {A : Around} {E : Value → Shared → Prop} {s : Shared} {K : PySem.W.Frag} {a C f : Addr} {ox : Obj} {od : Option Obj} {u : Value} {T id : String}
theorem rc_own_refl {Q : Value → Shared → Prop} (hu : A.units < cLine) (X : K.In s.heap) (ha : s.TypeIs u T) (I : PySem.W.InstAt s.heap a ox C od) (hsub : PySem.W.subIn K (.ref C) (.type T) = some false) (h1 : Slot T (cmpInfo .Eq).2.1 id)
    (hc1 : ∀ Q' : Value → Shared → Prop, Q' .notImplemented s → wpAny (model prog w) A (call (.builtin id) [u, .ref a]) Q' E s)
    (hs : PySem.W.findIn K (.ref C) "__eq__" = some (some (.ref f))) (hf : PySem.W.isFn K (.ref f) = true) (h : wpAny (model prog w) A (call (.ref f) [.ref a, u]) (PySem.W.CmpBack Q) E s) : wpAny (model prog w) A (richCompare .Eq u (.ref a)) Q E s := by
  have one : wpAny (model prog w) A (tryCompare (.ref a) (cmpInfo .Eq).2.2 u) (fun r s' => ∃ v, r = some v ∧ Q v s') E s := by
    unfold tryCompare
    refine wpAny_bind (PySem.W.ifBound_K X I hs hf (wpAny_mono h (fun v s' hv => ?_) fun _ _ e => e))
    cases v <;> first | exact hv.elim | exact wpAny_pure ⟨_, rfl, hv⟩
  rcases hi : cmpInfo CmpOp.Eq with ⟨sym, f1, r⟩
  rw [hi] at h1 one
  simp only [richCompare, hi, ha.oneThing_none]
  try with_reducible refine wpAny_holding ?_
  refine wpAny_bind (wpAny_cRoomFor_or (.inr hu) ?_)
  refine wpAny_bind (wpAny_typeOf ha (wpAny_bind (I.type.here ?_)))
  have hne : (Value.type T != Value.ref C) = true := rfl
  simp only [hne, if_true]
  refine wpAny_bind ((PySem.W.looks_subIn X hsub).here ?_)
  simp only [Bool.false_eq_true, if_false, Bool.not_false, if_true]
  refine wpAny_bind (m := tryCompare u _ (.ref a)) (wpAny_tryCompare_declines ha h1 (hc1 _ ⟨rfl, ?_⟩))
  refine wpAny_bind (m := tryCompare (.ref a) _ u) (wpAny_mono one (fun r s' z => ?_) fun _ _ e => e)
  obtain ⟨v, rfl, hq⟩ := z
  exact wpAny_pure hq
end
/-- values of the kinds whose own == knows nothing of an instance -/
inductive Bik (H : Hp) : V → String → Prop where
  | non : Bik H .non "NoneType"
  | int (i : Int) : Bik H (.int i) "int"
  | str (z : Str) : Bik H (.str z) "str"
  | lst {l : Addr} {xs : List V} (h : H l = some (.lst xs)) : Bik H (.ref l) "list"
  | tup {l : Addr} {xs : List V} (h : H l = some (.tup xs)) : Bik H (.ref l) "tuple"
section
variable {X : Cx} {CX : CXT} {n : Nat} {C f : Addr} {fd : FuncData} {ps : List Str} {sp : Sp} {E : XK}
theorem not_sub {K : PySem.W.Frag} {T : String} {s : Shared} (X : K.In s.heap) (h : PySem.W.subIn K (.ref C) (.type T) = some false) : NotSub C T s := fun M A E Q q => (PySem.W.looks_subIn X h).here q
def rEqRefl (K : PySem.W.Frag) (C : Addr) (sp : Sp) (E : XK) : R2 := fun x y H Q => ∃ (a dx : Addr) (fs : List (Str × V)) (T : String), y = .ref a ∧ H a = some (.ins C dx fs) ∧ Bik H x T ∧ PySem.W.subIn K (.ref C) (.type T) = some false ∧ sp [.ref a, x] H (fun v H' => ∃ b : Bool, v = .bl b ∧ Q (.bl b) H') E
/-- the comparison of such a value with an instance, at any place below the body -/
theorem rc_refl {A : Around} {pins : List (Addr × Obj)} {σ : L2.St} {H : Hp} {s : Shared} {x : V} {v : Value} {a dx : Addr} {fs : List (Str × V)} {T : String} {Q : VK} (FO : FnOk X.prog X.w X.K X.mg X.base CX n f fd ps sp) (hb : Binds X.K fd ps []) (hx : Passes CX X E) (sb : Sub X n A) (m : Own X.K C "__eq__" f)
    (I : Inv X pins σ H s) (rx : RelV x v) (ha : H a = some (.ins C dx fs)) (bk : Bik H x T) (hsub : PySem.W.subIn X.K (.ref C) (.type T) = some false) (hs : sp [.ref a, x] H (fun v H' => ∃ b : Bool, v = .bl b ∧ Q (.bl b) H') E) :
    wpAny (model X.prog X.w) A (richCompare .Eq v (.ref a)) (EP X pins σ Q) X.xe s := by
  obtain ⟨mA, O, _⟩ := ins_get I.hok ha
  have ob := O.obj
  obtain ⟨od, J, _⟩ := O.look
  have hu : A.units < cLine := sb.room.units0
  have fin : wpAny (model X.prog X.w) A (call (.ref f) [.ref a, v]) (PySem.W.CmpBack (EP X pins σ Q)) X.xe s := by
    refine wpAny_mono (own_run (vs := [.ref a, x]) FO hb hx sb I (.cons rfl (.cons rx .nil)) hs) (fun v s' hv => ?_) fun _ _ z => z
    obtain ⟨z, H', I', rv, b, rfl, q⟩ := hv
    cases rv
    exact ⟨.bl b, H', I', rfl, q⟩
  cases bk with
  | non =>
    cases rx
    exact rc_own_refl hu I.kIn rfl J hsub F.slot_NoneType_eq (fun _ hq => call_gives F.slot_NoneType_eq rfl F.entry_NoneType_eq (F.args_NoneType_eq_2 _ _) (SeqAt.NoneType___eq___none_ref_0 a) hq) m.at_ m.fn fin
  | int i =>
    obtain ⟨t, rfl⟩ := rx
    exact rc_own_refl hu I.kIn (typeIs_int s i t) J hsub F.slot_int_eq (fun _ hq => call_meets F.slot_int_eq (typeIs_int s i t) F.entry_int_eq (F.args_int_eq_2 _ _) (int_eq_inst i t a (.ref C) _ _) ⟨ob, hq⟩) m.at_ m.fn fin
  | str z =>
    obtain ⟨t, rfl⟩ := rx
    exact rc_own_refl hu I.kIn (typeIs_str s z t) J hsub F.slot_str_eq (fun _ hq => call_meets F.slot_str_eq (typeIs_str s z t) F.entry_str_eq (F.args_str_eq_2 _ _) (str_eq_inst z t a (.ref C) _ _) ⟨ob, hq⟩) m.at_ m.fn fin
  | @lst l xs hl =>
    cases rx
    obtain ⟨_, its, k, _, h1⟩ := (show ObjOk X.prog X.w H s.heap l (.lst xs) from I.hok l _ hl)
    exact rc_own_refl hu I.kIn ⟨_, h1, rfl⟩ J hsub F.slot_list_eq (fun _ hq => call_meets F.slot_list_eq ⟨_, h1, rfl⟩ F.entry_list_eq (F.args_list_eq_2 _ _) (list_eq_inst l a C _ _ _ _ _ _) ⟨h1, ob, not_sub I.kIn hsub, hq⟩) m.at_ m.fn fin
  | @tup l xs hl =>
    cases rx
    obtain ⟨_, its, _, o, h1, h2, k, h3⟩ := (show ObjOk X.prog X.w H s.heap l (.tup xs) from I.hok l _ hl)
    obtain ⟨cls, dd, data, sl⟩ := o
    simp only at h2 h3
    subst h2 h3
    exact rc_own_refl hu I.kIn ⟨_, h1, rfl⟩ J hsub F.slot_tuple_eq (fun _ hq => call_meets F.slot_tuple_eq ⟨_, h1, rfl⟩ F.entry_tuple_eq (F.args_tuple_eq_2 _ _) (tuple_eq_inst l a C _ _ _ _ _ _) ⟨h1, ob, not_sub I.kIn hsub, hq⟩) m.at_ m.fn fin
theorem op_eqRefl (FO : FnOk X.prog X.w X.K X.mg X.base CX n f fd ps sp) (hb : Binds X.K fd ps []) (hx : Passes CX X E) (hr : Room n X.A) (m : Own X.K C "__eq__" f) : OpR X (compareOp .Eq) (rEqRefl X.K C sp E) := by
  intro pins s σ H x y v u Q I rx ry h
  obtain ⟨a, dx, fs, T, rfl, ha, bk, hsub, hs⟩ := h
  cases ry
  show wpAny (model X.prog X.w) X.A (richCompare .Eq v (.ref a)) (EP X pins σ Q) X.xe s
  exact rc_refl FO hb hx ⟨hr, rfl⟩ m I rx ha bk hsub hs
end
end Bk

/-! in of a tuple of texts for an instance whose class says == itself -/
namespace Bk
open PySem PySem.Spec PyProof.Rows L2
open AutoSeq1 (wpAny_loadPart')
open MeetsSeq MeetsSeq2 MeetsSeq3 SeqRoads2
section
variable {prog : Program} {w : World} {A : Around} {R : Result → Shared → Prop}
theorem contains_no (l : Addr) (items : Array Value) (n : Nat) (dd : Option Addr) (sl : Array (Option Value)) (x : Value) (I : Shared → Prop)
    (turn : ∀ y, y ∈ items → ∀ s, I s → wpAny (model prog w) A.in1 (eqBool y x) (fun r s' => r = false ∧ I s') (fun e s' => R (.error e) s') s) (fin : ∀ s, I s → R (.ok (.ret (.bool false))) s)
    {s : Shared} (hl : s.heap.get? l = some { cls := .type "tuple", dict := dd, data := .seq items n, slots := sl }) (h : I s) :
    wpAny (model prog w) A.in1 (Builtin.«tuple.__contains__» ⟨[.ref l, x], []⟩) (GQ.FinOf prog w A R) (fun e s' => R (.error e) s') s := by
  have h0 := h
  obtain ⟨hp, g, d, tk, os⟩ := s
  wp_walk using wpAny_loadPart' hl, wpAny_forIn_array _ (fun rest b s' => b.1 = none ∧ (∀ y, y ∈ rest → y ∈ items) ∧ I s') _

  case turn =>
    rintro y rest b s' ⟨hb, hmem, hI⟩
    refine wpAny_bind (wpAny_mono (turn y (hmem y (List.mem_cons_self ..)) s' hI) (fun r s2 q2 => ?_) fun _ _ x => x)
    obtain ⟨hr, q2⟩ := q2
    subst hr
    wp_walk
    exact ⟨rfl, fun z hz => hmem z (List.mem_cons_of_mem _ hz), q2⟩
  case fin =>
    rintro ⟨b1, b2⟩ s' ⟨hb, -, hI⟩
    simp only at hb
    subst hb
    have hR := fin s' hI
    wp_walk
    simpa using hR
  case h =>
    exact ⟨rfl, fun y hy => by simpa using hy, h0⟩
end
section
variable {X : Cx} {CX : CXT} {n : Nat} {C f : Addr} {fd : FuncData} {ps : List Str} {sp : Sp} {E : XK}
theorem strs_vals : ∀ {zs : List Str} {us : List Value}, Vals (zs.map V.str) us → ∀ u ∈ us, ∃ z ∈ zs, RelV (.str z) u
  | [], _, r, u, hu => by cases r; cases hu
  | z :: zs, _, r, u, hu => by
    cases r with
    | cons r1 r2 =>
      rcases List.mem_cons.mp hu with rfl | hu
      · exact ⟨z, List.mem_cons_self, r1⟩
      · obtain ⟨z', m, q⟩ := strs_vals r2 u hu
        exact ⟨z', List.mem_cons_of_mem _ m, q⟩
def rInOdd (K : PySem.W.Frag) (C : Addr) (sp : Sp) (E : XK) : R2 := fun x y H Q => ∃ (a dx p : Addr) (fs : List (Str × V)) (zs : List Str), x = .ref a ∧ y = .ref p ∧ H a = some (.ins C dx fs) ∧ H p = some (.tup (zs.map V.str)) ∧ PySem.W.subIn K (.ref C) (.type "str") = some false ∧
  (∀ z ∈ zs, ∀ H', Ext H H' → sp [.ref a, .str z] H' (fun v H'' => ∃ b : Bool, v = .bl b ∧ ∃ c : Bool, V.bl b = .bl c ∧ c = false ∧ Ext H H'') E) ∧ ∀ H', Ext H H' → Q (.bl false) H'
theorem op_inOdd (FO : FnOk X.prog X.w X.K X.mg X.base CX n f fd ps sp) (hb : Binds X.K fd ps []) (hx : Passes CX X E) (hr : Room (n + 1) X.A) (m : Own X.K C "__eq__" f) : OpR X (compareOp .In) (rInOdd X.K C sp E) := by
  intro pins s σ H x y v u Q I rx ry h
  obtain ⟨a, dx, p, fs, zs, rfl, rfl, ha, hp, hsub, hs, q⟩ := h
  cases rx
  cases ry
  have sb : Sub X (n + 1) X.A := ⟨hr, rfl⟩
  obtain ⟨_, its, rv, o, h1, h2, k, h3⟩ := (show ObjOk X.prog X.w H s.heap p (.tup (zs.map V.str)) from I.hok p _ hp)
  obtain ⟨cls, dd, data, sl⟩ := o
  simp only at h2 h3
  subst h2 h3
  have turn : ∀ y, y ∈ its.toArray → ∀ s, (∃ H', Inv X pins σ H' s ∧ Ext H H') → wpAny (model X.prog X.w) X.A.in1 (eqBool y (.ref a)) (fun r s' => r = false ∧ ∃ H', Inv X pins σ H' s' ∧ Ext H H') X.xe s := by
    rintro y hy s1 ⟨H1, I1, e1⟩
    obtain ⟨z, mz, rz⟩ := strs_vals rv y (by simpa using hy)
    have rz' := rz
    obtain ⟨t, rfl⟩ := rz
    unfold eqBool
    refine wpAny_holding ?_
    refine wpAny_ite_split (fun hab => absurd (eq_of_beq hab) nofun) (fun _ => ?_)
    refine wpAny_bind (wpAny_mono (rc_refl (Q := fun v H' => ∃ b : Bool, v = .bl b ∧ b = false ∧ Ext H H') FO hb hx sb.in1 m I1 rz' (e1 _ _ ha) (.str z) hsub ?_) (fun r s' hv => ?_) fun _ _ x => x)
    · exact hs z mz H1 e1
    · obtain ⟨w, H', I', rw', b, rfl, rfl, e⟩ := hv
      cases rw'
      exact wpAny_truthy_bool ⟨rfl, H', I', e⟩
  show wpAny _ X.A (do return .bool (← contains (.ref p) (.ref a))) (EP X pins σ Q) X.xe s
  refine wpAny_bind (wpAny_contains_slot (T := "tuple") ⟨_, h1, rfl⟩ F.slot_tuple_contains (wpAny_mono (GQ.call_here (E := X.xe) (Q := fun v s' => v = .bool false ∧ ∃ H', Inv X pins σ H' s' ∧ Ext H H') F.slot_tuple_contains ⟨_, h1, rfl⟩ F.entry_tuple_contains (F.args_tuple_contains_2 _ _) (contains_no p _ _ _ _ (.ref a) (fun s' => ∃ H', Inv X pins σ H' s' ∧ Ext H H') turn (fun s' q => ⟨rfl, q⟩) h1 ⟨H, I, Ext.rfl'⟩)) (fun v s' hv => ?_) fun _ _ x => x))
  obtain ⟨rfl, H', I', e⟩ := hv
  exact wpAny_truthy_bool (wpAny_pure ⟨.bl false, H', I', rfl, q H' e⟩)
end
end Bk

/-! != of two instances of a class that says == itself and nothing of != -/
namespace Bk
open PySem PySem.Spec PyProof.Rows L2
theorem ns_some {K : PySem.W.Frag} {h : Heap} {N : Addr} {mN : Str → Option Value} {m : Str} {u : Value} (kin : K.In h) (ns : h.Ns N mN) (e : PySem.W.nsIn K N m = some (some u)) : mN m = some u := by
  obtain ⟨ob, ents, epo, atN, dat, _, look⟩ := ns
  unfold PySem.W.nsIn at e
  split at e
  · rename_i cl di ents' epo' slo lk
    have both := kin _ _ lk
    rw [atN] at both
    cases both
    cases dat
    split at e
    · rename_i ent found
      cases e
      rw [← look]
      unfold nsFind findBy
      rw [← Array.find?_toList, found]
      rfl
    · split at e <;> cases e
  · cases e
theorem sixB_ok {l : List (Option Value)} (h : sixB l = true) : ∃ a b c d n e, l = [a, b, c, d, some (.builtin n), e] := by
  unfold sixB at h
  split at h
  · exact ⟨_, _, _, _, _, _, rfl⟩
  · cases h
theorem eqCls_ok {K : PySem.W.Frag} {C f x : Addr} {h : Heap} {o : Obj} (X : K.In h) (e : eqCls K C f = true) (hf : PySem.W.isFn K (.ref f) = true) (hx : h.get? x = some o) (hc : o.cls = .ref C) : h.OwnEqNoNe x C f "object" [.type "object"] := by
  unfold eqCls at e
  split at e
  · rename_i t dd cd sl q
    obtain ⟨h1, e⟩ := Bool.and_eq_true_iff.mp e
    obtain ⟨h2, e⟩ := Bool.and_eq_true_iff.mp e
    obtain ⟨h3, e⟩ := Bool.and_eq_true_iff.mp e
    obtain ⟨h4, e⟩ := Bool.and_eq_true_iff.mp e
    obtain ⟨h5, e⟩ := Bool.and_eq_true_iff.mp e
    obtain ⟨h6, h7⟩ := Bool.and_eq_true_iff.mp e
    have e1 := of_decide_eq_true h1
    have e2 := of_decide_eq_true h2
    obtain ⟨a, b, c, d, n, e', e6⟩ := sixB_ok h4
    obtain ⟨l⟩ := sl
    obtain ⟨c1, c2, c3, c4, c5, c6, c7, c8, c9, c10, c11⟩ := cd
    subst e1
    simp only at e2 e6 h5 h6 h7
    subst e2 e6
    have h3 : c11 = false := by
      cases c11 with
      | true => cases h3
      | false => rfl
    subst h3
    have hN : h.Ns c4 (h.nsMap c4) := .of_isNs (PySem.W.isNs_of_in X h5)
    have hff : ∃ of, h.get? f = some of ∧ of.cls = .type "function" := by
      have z : (K.lookup f).map (·.cls) = some (.type "function") := beq_iff_eq.mp hf
      cases q2 : K.lookup f with
      | none =>
        rw [q2] at z
        cases z
      | some of =>
        rw [q2] at z
        exact ⟨of, X _ _ q2, Option.some.inj z⟩
    obtain ⟨of, g1, g2⟩ := hff
    exact ⟨o, of, c1, c5, c4, c2, c6, c7, c8, c9, c10, dd, a, b, c, d, e', n, h.nsMap c4, _, hx, hc, X _ _ q, hN, ns_some X hN (of_decide_eq_true h6), g1, g2, F.cmp_object.mro, F.cmp_object.eq.lookup, PySem.W.nsMap_none_of_in X h5 (of_decide_eq_true h7)⟩
  · cases e
section
variable {X : Cx} {CX : CXT} {n : Nat} {C f : Addr} {fd : FuncData} {ps : List Str} {sp : Sp} {E : XK}
def rNeOwn (C : Addr) (sp : Sp) (E : XK) : R2 := fun x y H Q => ∃ (a dx b dy : Addr) (fs gs : List (Str × V)), x = .ref a ∧ y = .ref b ∧ H a = some (.ins C dx fs) ∧ H b = some (.ins C dy gs) ∧ sp [.ref a, .ref b] H (fun v H' => ∃ r : Bool, v = .bl r ∧ Q (.bl (!r)) H') E
theorem op_neOwn (FO : FnOk X.prog X.w X.K X.mg X.base CX n f fd ps sp) (hb : Binds X.K fd ps []) (hx : Passes CX X E) (hr : Room (n + 1) X.A) (e : eqCls X.K C f = true) (hf : PySem.W.isFn X.K (.ref f) = true) : OpR X (compareOp .NotEq) (rNeOwn C sp E) := by
  intro pins s σ H x y v u Q I rx ry h
  obtain ⟨a, dx, b, dy, fs, gs, rfl, rfl, ha, hb', hs⟩ := h
  cases rx
  cases ry
  have sb : Sub X (n + 1) X.A := ⟨hr, rfl⟩
  obtain ⟨mA, OA, _⟩ := ins_get I.hok ha
  obtain ⟨mB, OB, _⟩ := ins_get I.hok hb'
  obtain ⟨hp, g, d, t, os⟩ := s
  refine compareOp_ne_ownEq F.cmp_object (eqCls_ok I.kIn e hf OA.obj rfl) OB.obj rfl (hu_of hr) (wpAny_mono (own_run (vs := [.ref a, .ref b]) FO hb hx sb.in1 I (.cons rfl (.cons rfl .nil)) hs) (fun v s' hv => ?_) fun _ _ z => z)
  obtain ⟨z, H', I', rv, r, rfl, q⟩ := hv
  cases rv
  exact ⟨r, rfl, .bl (!r), H', I', rfl, q⟩
end
end Bk

/-! in of a tuple of texts for lists, tuples and dicts: never -/
namespace Bk
open PySem PySem.Spec PyProof.Rows L2
open AutoSeq1 (wpAny_loadPart')
open MeetsSeq MeetsSeq2 MeetsSeq3 SeqRoads2
theorem str_eq_dict (b : Str) (u : Tok) (l : Addr) (c : Value) (es : Array DictEntry) (ep : Nat) (dd : Option Addr) (sl : Array (Option Value)) :
    Meets (Builtin.«str.__eq__» ⟨[.str b u, .ref l], []⟩) (fun _ R s => s.heap.get? l = some { cls := c, dict := dd, data := .dict es ep, slots := sl } ∧ R (.ok (.ret .notImplemented)) s) :=
  .of_wp fun prog w A R s h => by obtain ⟨hp, g, d, tk, os⟩ := s; obtain ⟨hl, h⟩ := h; wp_walk using wpAny_loadPart' hl, wpAny_load hl; exact ⟨_, rfl, h⟩
theorem dict_eq_str (l : Addr) (es : Array DictEntry) (ep : Nat) (dd : Option Addr) (sl : Array (Option Value)) (b : Str) (u : Tok) :
    Meets (Builtin.«dict.__eq__» ⟨[.ref l, .str b u], []⟩) (fun _ R s => s.heap.get? l = some { cls := .type "dict", dict := dd, data := .dict es ep, slots := sl } ∧ R (.ok (.ret .notImplemented)) s) :=
  .of_wp fun prog w A R s h => by obtain ⟨hp, g, d, tk, os⟩ := s; obtain ⟨hl, h⟩ := h; have f1 := F.sub_str_dict; wp_walk using wpAny_loadPart' hl; exact ⟨_, rfl, h⟩
section
variable {A : Around} {s : Shared}
theorem at_str_dict {l : Addr} {o : Obj} {es : Array DictEntry} {ep : Nat} (b : Str) (u : Tok) (hl : s.heap.get? l = some o) (hc : o.cls = .type "dict") (hd : o.data = .dict es ep) (hu : A.units < cLine) : SeqAt.EqAt A s (.str b u) (.ref l) false := fun prog w E Q h => by
  obtain ⟨cls, dd, data, sl⟩ := o
  simp only at hc hd
  subst hc hd
  unfold eqBool
  refine wpAny_holding ?_
  refine wpAny_ite_split (fun hab => absurd (eq_of_beq hab) nofun) (fun _ => ?_)
  refine wpAny_bind (SeqAt.rc_eq_decline_or (k := false) (typeIs_str s b u) ⟨_, hl, rfl⟩ (by decide) F.sub_dict_str F.slot_str_eq F.slot_dict_eq_refl
    (fun _ hq => call_meets F.slot_str_eq (typeIs_str s b u) F.entry_str_eq (F.args_str_eq_2 _ _) (str_eq_dict b u l (.type "dict") es ep dd sl) ⟨hl, hq⟩)
    (fun _ hq => call_meets F.slot_dict_eq_refl ⟨_, hl, rfl⟩ F.entry_dict_eq (F.args_dict_eq_2 _ _) (dict_eq_str l es ep dd sl b u) ⟨hl, hq⟩)
    (fun _ hq => wpAny_of_eq (rfl : isSame (.str b u) (.ref l) = pure false) hq) (.inr hu) (wpAny_truthy_bool h))
end
/-- lists, tuples, dicts that the heap tracks -/
inductive Box (H : Hp) : V → Prop where
  | lst {l : Addr} {xs : List V} (h : H l = some (.lst xs)) : Box H (.ref l)
  | tup {l : Addr} {xs : List V} (h : H l = some (.tup xs)) : Box H (.ref l)
  | dK {l : Addr} {kvs : List (Key × V)} (h : H l = some (.dK kvs)) : Box H (.ref l)
section
variable {X : Cx}
theorem at_str_box {A : Around} {pins : List (Addr × Obj)} {σ : L2.St} {H : Hp} {s : Shared} {x : V} {v : Value} (I : Inv X pins σ H s) (bx : Box H x) (rx : RelV x v) (hu : A.units < cLine) (b : Str) (t : Tok) : SeqAt.EqAt A s (.str b t) v false := by
  cases bx with
  | @lst l xs h =>
    cases rx
    obtain ⟨_, its, k, _, h1⟩ := (show ObjOk X.prog X.w H s.heap l (.lst xs) from I.hok l _ h)
    exact SeqAt.EqAt.str_list b t (items := its.toArray) ⟨_, h1, rfl, _, rfl⟩ hu
  | @tup l xs h =>
    cases rx
    obtain ⟨_, its, _, p⟩ := (show ObjOk X.prog X.w H s.heap l (.tup xs) from I.hok l _ h)
    exact SeqAt.EqAt.str_tuple b t p hu
  | @dK l kvs h =>
    cases rx
    obtain ⟨_, _, vs, _, o, es, ep, h1, h2, h3, _⟩ := (show ObjOk X.prog X.w H s.heap l (.dK kvs) from I.hok l _ h)
    exact at_str_dict b t h1 h2.1 h3 hu
def rInBox : R2 := fun x y H Q => ∃ (p : Addr) (zs : List Str), y = .ref p ∧ H p = some (.tup (zs.map V.str)) ∧ Box H x ∧ Q (.bl false) H
theorem op_inBox (hu : X.A.units + 1 < cLine) : OpR X (compareOp .In) rInBox := by
  intro pins s σ H x y v u Q I rx ry h
  obtain ⟨p, zs, rfl, hp, bx, q⟩ := h
  cases ry
  obtain ⟨_, its, rv, pl⟩ := (show ObjOk X.prog X.w H s.heap p (.tup (zs.map V.str)) from I.hok p _ hp)
  refine SeqAt.in_tupleAt (fun _ => false) pl (fun w hw => ?_) ⟨.bl false, H, I, ?_, q⟩
  · obtain ⟨z, mz, t, rfl⟩ := strs_vals rv w (by simpa using hw)
    exact at_str_box I bx rx (A := X.A.in1) (by show X.A.in1.units < cLine; exact hu) z t
  · have : its.toArray.any (fun _ => false) = false := by simp
    rw [this]
    rfl
end
end Bk

namespace Bk
open PySem PySem.Spec PyProof.Rows L2
/-- what a turn of the law of made folders keeps: the stream, the list of names, the folders made of them -/
structure Grd (C : Addr) (H : Hp) (st c nl x : Addr) (n : Nat) (zs : List Str) (ch : Bool) : Prop where
  S : Strm H st c n
  nm : H nl = some (.lst (zs.map V.str))
  fo : FoldersAt C H x zs ch
section
variable {C st c nl x : Addr} {H H' : Hp} {n : Nat} {zs : List Str} {ch : Bool}
theorem FoldersAt.same {C x : Addr} {H H' : Hp} {zs : List Str} {ch : Bool} (h : FoldersAt C H x zs ch) (e : Same H H') : FoldersAt C H' x zs ch := by
  obtain ⟨dx, t, pd, h1, h2, h3⟩ := h
  exact ⟨dx, t, pd, e _ _ h1, e _ _ h2, e _ _ h3⟩
theorem FoldersAt.updL {p : Addr} {l : List V} {o : HO} (h : FoldersAt C H x zs ch) (hp : H p = some (.lst l)) : FoldersAt C (upd H p o) x zs ch := by
  obtain ⟨dx, t, pd, h1, h2, h3⟩ := h
  refine ⟨dx, t, pd, ?_, ?_, ?_⟩
  · rw [upd_ne (ne_of h1 hp (fun z => nomatch z))]
    exact h1
  · rw [upd_ne (ne_of h2 hp (fun z => nomatch z))]
    exact h2
  · rw [upd_ne (ne_of h3 hp (fun z => nomatch z))]
    exact h3
theorem Grd.same (g : Grd C H st c nl x n zs ch) (e : Same H H') : Grd C H' st c nl x n zs ch := ⟨g.S.same e, e _ _ g.nm, g.fo.same e⟩
theorem Grd.updL {p : Addr} {l : List V} {o : HO} (g : Grd C H st c nl x n zs ch) (hp : H p = some (.lst l)) (h1 : p ≠ st) (h2 : p ≠ c) (h3 : p ≠ nl) : Grd C (upd H p o) st c nl x n zs ch :=
  ⟨g.S.upd h1 h2, by rw [upd_ne h3.symm]; exact g.nm, g.fo.updL hp⟩
end
theorem wrong_ok {zs : List Str} {most : Nat} (h0 : zs ≠ []) (hl : zs.length ≤ most) (hn : ∀ z ∈ zs, isNameS z = true) (nd : zs.Nodup) : wrongOf (some (zs.map V.str)) most = none := by
  have all : ∀ k i, zs.length - i = k → wrongFrom (zs.map V.str) most i ((zs.map V.str).drop i) = none := by
    intro k
    induction k with
    | zero => exact fun i e => wrong_end (by rw [List.length_map]; omega)
    | succ k ih =>
      intro i e
      have hi : i < zs.length := by omega
      have hx : (zs.map V.str)[i]? = some (.str zs[i]) := by rw [List.getElem?_map, List.getElem?_eq_getElem hi]; rfl
      rw [wrong_step hx, if_neg, ih (i + 1) (by omega)]
      have h1 := hn zs[i] (List.getElem_mem hi)
      have h2 : inV (.str zs[i]) ((zs.map V.str).take i) = false := by
        rw [← List.map_take, inV_strs]
        refine decide_eq_false fun m => ?_
        obtain ⟨j, hj, e2⟩ := List.mem_take_iff_getElem.mp m
        have := nodup_inj nd (by omega) hi e2
        omega
      have h3 : ¬ i = most := by omega
      simp [badAt, isNameB, h1, h2, h3]
  show firstWrong (zs.map V.str) most = none
  unfold firstWrong
  rw [if_neg (fun e => h0 (List.map_eq_nil_iff.mp e))]
  exact all _ 0 rfl
theorem look_lots (t pd : Addr) (ch : Bool) : (foldersF t pd ch).lookup ("lots" : Str) = none := by
  have h : (("lots" : Str) == ("names" : Str)) = false := by decide +kernel
  have h2 : (("lots" : Str) == ("chain" : Str)) = false := by decide +kernel
  have h3 : (("lots" : Str) == ("places" : Str)) = false := by decide +kernel
  show List.lookup ("lots" : Str) [(("names" : Str), V.ref t), ("chain", .bl ch), ("places", .ref pd)] = _
  simp [List.lookup, h, h2, h3]
theorem lot_len {ch : Bool} {zs l : List Str} (m : l ∈ lotsFor ch zs) : l.length ≤ zs.length := by
  cases ch with
  | true =>
    obtain ⟨k, _, hl⟩ := List.mem_flatMap.mp (show l ∈ (List.range zs.length).flatMap (longRows zs) from m)
    obtain ⟨j, _, rfl⟩ := List.mem_map.mp hl
    rw [List.length_take, List.length_drop]
    omega
  | false =>
    obtain ⟨r, hr, rfl⟩ := List.mem_map.mp (show l ∈ (lotRows zs.length).map _ from m)
    obtain ⟨k, o⟩ := lotRows_ok r hr
    have h1 := o.len
    have h2 := o.last
    have h3 := o.lt_last
    rw [List.length_map]
    omega
/-! ### lots as data -/
section
variable {K : PySem.W.Frag} {H : Hp}
def dLots (ls : List (List Str)) : PyData := .list (ls.map fun l => .tuple (l.map PyData.str))
theorem dp_lots {ws : List V} {ls : List (List Str)} (h : Ats H (fun l : List Str => l.map V.str) ws ls) : DpAll K H ws (ls.map fun l => .tuple (l.map PyData.str)) := by
  induction ls generalizing ws with
  | nil =>
    have : ws = [] := List.length_eq_zero_iff.mp h.1
    subst this
    exact .nil
  | cons l r ih =>
    cases ws with
    | nil => exact absurd h.1 (by simp)
    | cons w ws =>
      obtain ⟨b, rfl, hb⟩ := h.2 0 w l rfl rfl
      refine .cons (.tup (SqT.of hb) (dp_strs l)) (ih ⟨by simpa using h.1, fun i v x h1 h2 => h.2 (i + 1) v x (by simpa using h1) (by simpa using h2)⟩)
theorem depth_lots : ∀ ls : List (List Str), PyData.depthAll (ls.map fun l => PyData.tuple (l.map PyData.str)) ≤ 1
  | [] => by simp [PyData.depthAll]
  | l :: r => by
    have := depth_lots r
    have h := depth_strs l
    simp [PyData.depthAll, PyData.depth, h]
    omega
theorem wide_lots {m : Nat} : ∀ ls : List (List Str), (∀ l ∈ ls, l.length ≤ m) → wideAll (ls.map fun l => PyData.tuple (l.map PyData.str)) ≤ m
  | [], _ => by simp [wideAll]
  | l :: r, h => by
    have := wide_lots r fun x hx => h x (List.mem_cons_of_mem _ hx)
    have h1 := wide_strs l
    have h2 := h l List.mem_cons_self
    simp [wideAll, wide, h1]
    omega
def dTold (zs : List Str) (ch : Bool) : PyData := .list [.tuple (zs.map PyData.str), .bool ch, .int (zs.length : Int)]
theorem dp_told {q t : Addr} {zs : List Str} {ch : Bool} (hq : H q = some (.lst [.ref t, .bl ch, .int (zs.length : Int)])) (ht : H t = some (.tup (zs.map V.str))) : Dp K H (.ref q) (dTold zs ch) :=
  .lst (SqL.of hq) (.cons (.tup (SqT.of ht) (dp_strs zs)) (.cons (.bl ch) (.cons (.int _) .nil)))
end
theorem told_depth (zs : List Str) (ch : Bool) : (dTold zs ch).depth ≤ 3 := by
  have := depth_strs zs
  simp [dTold, PyData.depth, PyData.depthAll, this]
theorem told_wide {zs : List Str} {ch : Bool} (h : zs.length ≤ 100) : wide (dTold zs ch) ≤ 90000 := by
  have := wide_strs zs
  simp [dTold, wide, wideAll, this]
  omega
theorem lots_depth (ls : List (List Str)) : (dLots ls).depth ≤ 3 := by
  have := depth_lots ls
  simp [dLots, PyData.depth]
  omega
theorem lots_wide {ls : List (List Str)} (h1 : ls.length ≤ 2000) (h2 : ∀ l ∈ ls, l.length ≤ 100) : wide (dLots ls) ≤ 90000 := by
  have := wide_lots ls h2
  simp [dLots, wide]
  omega
/-! ### rows of truth values -/
theorem rep_bools (n m : Nat) : (List.replicate (n : Int).toNat [V.bl true]).flatten ++ (List.replicate (m : Int).toNat [V.bl false]).flatten = (List.range (n + m)).map fun j => V.bl (decide (j < n)) := by
  rw [Int.toNat_natCast, Int.toNat_natCast, List.flatten_replicate_singleton, List.flatten_replicate_singleton]
  refine List.ext_getElem (by simp) fun i h1 h2 => ?_
  by_cases h : i < n
  · rw [List.getElem_append_left (by simpa using h)]
    simp [h]
  · rw [List.getElem_append_right (by simpa using h)]
    simp [h]
theorem dp_bools {K : PySem.W.Frag} {H : Hp} {α : Type} (f : α → Bool) : ∀ l : List α, DpAll K H (l.map fun j => V.bl (f j)) (l.map fun j => PyData.bool (f j))
  | [] => .nil
  | x :: r => .cons (.bl _) (dp_bools f r)
def dBools {α : Type} (f : α → Bool) (l : List α) : PyData := .list (l.map fun j => PyData.bool (f j))
theorem bools_depth {α : Type} (f : α → Bool) (l : List α) : (dBools f l).depth ≤ 3 := by
  have h : ∀ l : List α, PyData.depthAll (l.map fun j => PyData.bool (f j)) = 0 := by
    intro l
    induction l with
    | nil => simp [PyData.depthAll]
    | cons x r ih => simp [PyData.depthAll, PyData.depth, ih]
  have := h l
  simp [dBools, PyData.depth, this]
theorem bools_wide {α : Type} (f : α → Bool) {l : List α} (hl : l.length ≤ 100) : wide (dBools f l) ≤ 90000 := by
  have h : ∀ l : List α, wideAll (l.map fun j => PyData.bool (f j)) = 0 := by
    intro l
    induction l with
    | nil => simp [wideAll]
    | cons x r ih => simp [wideAll, wide, ih]
  have := h l
  simp [dBools, wide, this]
  omega
theorem inV_odd {y : V} (h : ∀ s, y ≠ .str s) : ∀ zs : List Str, inV y (zs.map V.str) = false
  | [] => rfl
  | x :: r => by
    have ih := inV_odd h r
    unfold inV at ih ⊢
    rw [List.map_cons, List.any_cons, ih, Bool.or_false]
    cases y <;> first | rfl | exact absurd rfl (h _)
end Bk

namespace Bk
open PySem PySem.Spec PyProof.Rows L2
def spFInA (C : Addr) : Sp := fun vs H Q _ => ∃ (x : Addr) (y : V) (zs : List Str) (ch r : Bool), vs = [.ref x, y] ∧ FoldersAt C H x zs ch ∧
  ((flatV y = true ∧ r = inV y (zs.map V.str)) ∨ (Box H y ∧ r = false) ∨ (∃ (b : Addr) (zs' : List Str) (ch' : Bool), y = .ref b ∧ FoldersAt C H b zs' ch' ∧ (∀ z ∈ zs', isNameS z = true) ∧ r = false)) ∧ ∀ H', Same H H' → Q (.bl r) H'
section
variable {P : Program} {w : World} {K : PySem.W.Frag} {mg : Str → Option Value} {base : Heap}
theorem OpR.or3 {X : Cx} {f : Value → Value → Sem Value} {r1 r2 r3 : R2} (h1 : OpR X f r1) (h2 : OpR X f r2) (h3 : OpR X f r3) : OpR X f (fun x y H Q => r1 x y H Q ∨ r2 x y H Q ∨ r3 x y H Q) := by
  intro pins s σ H x y v u Q I rx ry h
  rcases h with h | h | h
  · exact h1 pins s σ H x y v u Q I rx ry h
  · exact h2 pins s σ H x y v u Q I rx ry h
  · exact h3 pins s σ H x y v u Q I rx ry h
theorem ok_finA (B : Bi mg) {C f0 fE f : Addr} {fdE fd : FuncData} (T : FolT K mg C f0) (GE : FnOk P w K mg base CX0 1 fE fdE ["self", "other"] (spFEq K C)) (bE : Binds K fdE ["self", "other"] []) (mE : Own K C "__eq__" fE) (nS : PySem.W.subIn K (.ref C) (.type "str") = some false)
    (kS : PySem.W.kitOne K (.type "str") (.ref C) = some false) (F : Fun K "__contains__" "Folders.__contains__" (inClass (topS 32) 2) f fd) : FnOk P w K mg base CX0 3 f fd ["self", "x"] (spFInA C) := by
  refine F.ok scFIn (fun vs H Q E h => ?_) (fun cdv A outer s H vs Q E hr h => ?_)
  · obtain ⟨x, y, zs, ch, r, rfl, _⟩ := h
    rfl
  · obtain ⟨x, y, zs, ch, r, rfl, ⟨dx, t, pd, hx, ht, hp⟩, hc, q⟩ := h
    have nd := scFIn.nd
    have hu := hu_of hr
    refine ⟨_, (pss_one (ps_ret (pe_cmpR (OpR.or3 (kIn K) (op_inBox hu) (op_inOdd GE bE pass0 hr mE)) (pv 1) (pe_fld (pv 0) rfl) rfl))), ?_⟩
    refine ⟨_, rfl, _, rfl, x, C, dx, _, _, rfl, hx, T.cl, T.nN, look_names _ _ _, ?_⟩
    rcases hc with ⟨hf, rfl⟩ | ⟨bx, rfl⟩ | ⟨b, zs', ch', rfl, FA, hn, rfl⟩
    · exact .inl ⟨t, _, rfl, .inr (SqT.of ht), hf, flat_strs _, q H (Same.refl _)⟩
    · exact .inr (.inl ⟨t, zs, rfl, ht, bx, q H (Same.refl _)⟩)
    · have FA0 := FA
      obtain ⟨dx', t', pd', hx', _, _⟩ := FA0
      exact .inr (.inr ⟨b, dx', t, _, zs, rfl, rfl, hx', ht, nS, fun z _ H' e => ⟨b, .str z, .type "str", zs', ch', false, rfl, FA.same e, hn, .base (.str z), .inl ⟨kS, rfl⟩, fun H'' e' => ⟨false, rfl, false, rfl, rfl, Same.trans e e'⟩⟩, fun H' e => q H' e⟩)
end
end Bk

namespace Bk
open PySem PySem.Spec PyProof.Rows L2
theorem cut_upto (xs : List V) (k : Nat) : cutV xs none (some (k : Int)) = xs.take k := by
  unfold cutV
  rw [HT.sIx_none, HT.sIx_nat, List.drop_zero, Nat.sub_zero]
  by_cases h : k ≤ xs.length
  · rw [Nat.min_eq_left h]
  · rw [Nat.min_eq_right (by omega), List.take_length, List.take_of_length_le (by omega)]
theorem cut_from (xs : List V) (k : Nat) : cutV xs (some (k : Int)) none = xs.drop k := by
  unfold cutV
  rw [HT.sIx_none, HT.sIx_nat]
  by_cases h : k ≤ xs.length
  · rw [Nat.min_eq_left h, List.take_of_length_le (by rw [List.length_drop]; exact Nat.le_refl _)]
  · rw [Nat.min_eq_right (by omega), Nat.sub_self, List.take_zero, List.drop_of_length_le (by omega)]
theorem cut_last (xs : List V) (k : Nat) (hk : 0 < k) : cutV xs (some (-(k : Int))) none = xs.drop (xs.length - k) := by
  have e : HT.sIx xs.length 0 (some (-(k : Int))) = xs.length - k := by
    show (if -(k : Int) < 0 then (-(k : Int) + (xs.length : Int)).toNat else min (-(k : Int)).toNat xs.length) = _
    rw [if_pos (by omega)]
    omega
  unfold cutV
  rw [HT.sIx_none, e, List.take_of_length_le (by rw [List.length_drop]; omega)]
theorem cut_but (xs : List V) (k : Nat) (hk : 0 < k) : cutV xs none (some (-(k : Int))) = xs.take (xs.length - k) := by
  have e : HT.sIx xs.length xs.length (some (-(k : Int))) = xs.length - k := by
    show (if -(k : Int) < 0 then (-(k : Int) + (xs.length : Int)).toNat else min (-(k : Int)).toNat xs.length) = _
    rw [if_pos (by omega)]
    omega
  unfold cutV
  rw [HT.sIx_none, e, List.drop_zero, Nat.sub_zero]
/-- names that can be made to folders -/
structure Fit (zs : List Str) (m : Nat) : Prop where
  ne : zs ≠ []
  len : zs.length ≤ m
  nm : ∀ z ∈ zs, isNameS z = true
  nd : zs.Nodup
section
variable {zs : List Str} {m : Nat} {s : Str}
theorem Fit.right (h : Fit zs m) : wrongOf (some (zs.map V.str)) m = none := wrong_ok h.ne h.len h.nm h.nd
theorem Fit.pos (h : Fit zs m) : 0 < zs.length := List.length_pos_iff.mpr h.ne
theorem Fit.snoc (h : Fit zs m) (hs : isNameS s = true) (hn : s ∉ zs) : (∀ z ∈ zs ++ [s], isNameS z = true) ∧ (zs ++ [s]).Nodup := by
  refine ⟨fun z mz => ?_, ?_⟩
  · rcases List.mem_append.mp mz with mz | mz
    · exact h.nm z mz
    · rw [List.mem_singleton.mp mz]
      exact hs
  · rw [List.nodup_append]
    exact ⟨h.nd, (by simp), fun a ha b hb e => hn (by rw [List.mem_singleton.mp hb] at e; rw [← e]; exact ha)⟩
theorem Fit.take5 (h : Fit zs m) (m' : Nat) (hm : 5 ≤ m') : Fit (zs.take 5) m' :=
  ⟨fun e => by
    have h1 := congrArg List.length e
    rw [List.length_take, List.length_nil] at h1
    have h2 := h.pos
    omega, by rw [List.length_take]; omega, fun z mz => h.nm z (List.mem_of_mem_take mz), h.nd.sublist (List.take_sublist 5 zs)⟩
theorem Fit.tail5 (h : Fit zs m) (hm : 5 ≤ m) (hs : isNameS s = true) (hn : s ∉ zs) : Fit (((zs ++ [s]).drop 1).drop (zs.length - 5)) m ∧ s ∈ ((zs ++ [s]).drop 1).drop (zs.length - 5) := by
  have hp := h.pos
  obtain ⟨h1, h2⟩ := h.snoc hs hn
  have hm' : s ∈ ((zs ++ [s]).drop 1).drop (zs.length - 5) := by
    rw [List.drop_drop, List.drop_append_of_le_length (by omega)]
    exact List.mem_append_right _ List.mem_cons_self
  refine ⟨⟨(fun e => by rw [e] at hm'; exact nomatch hm'), ?_, fun z mz => h1 z (List.mem_of_mem_drop (List.mem_of_mem_drop mz)), h2.sublist ((List.drop_sublist _ _).trans (List.drop_sublist _ _))⟩, hm'⟩
  rw [List.length_drop, List.length_drop, List.length_append]
  simp
  omega
theorem Fit.last (h : Fit zs m) (hs : isNameS s = true) (hn : s ∉ zs) : Fit (zs.take (zs.length - 1) ++ [s]) m := by
  have hp := h.pos
  have hl := h.len
  refine ⟨by simp, ?_, fun z mz => ?_, ?_⟩
  · rw [List.length_append, List.length_take]
    simp
    omega
  · rcases List.mem_append.mp mz with mz | mz
    · exact h.nm z (List.mem_of_mem_take mz)
    · rw [List.mem_singleton.mp mz]
      exact hs
  · rw [List.nodup_append]
    exact ⟨h.nd.sublist (List.take_sublist _ _), (by simp), fun a ha b hb e => hn (by rw [List.mem_singleton.mp hb] at e; rw [← e]; exact List.mem_of_mem_take ha)⟩
theorem Fit.rev (h : Fit zs m) : Fit zs.reverse m := ⟨by simp [h.ne], by rw [List.length_reverse]; exact h.len, fun z mz => h.nm z (List.mem_reverse.mp mz), (by unfold List.Nodup; rw [List.pairwise_reverse]; exact List.Pairwise.imp (fun q e => q e.symm) h.nd)⟩
theorem rev_other (h : zs.Nodup) (hl : 1 < zs.length) : zs ≠ zs.reverse := fun e => by
  have h0 : zs[0]? = zs.reverse[0]? := by rw [← e]
  rw [List.getElem?_reverse (by omega), List.getElem?_eq_getElem (by omega), List.getElem?_eq_getElem (by omega)] at h0
  have := nodup_inj h (by omega) (by omega) (Option.some.inj h0)
  omega
end
/-- folders that are not those of zs and ch -/
def Oth (C : Addr) (zs : List Str) (ch : Bool) (H : Hp) (v : V) : Prop := ∃ (b : Addr) (zs' : List Str) (ch' : Bool), v = .ref b ∧ FoldersAt C H b zs' ch' ∧ (∀ z ∈ zs', isNameS z = true) ∧ (decide (zs = zs') && decide (ch = ch')) = false
theorem Oth.same {C : Addr} {zs : List Str} {ch : Bool} {H H' : Hp} {v : V} (h : Oth C zs ch H v) (e : Same H H') : Oth C zs ch H' v := by
  obtain ⟨b, zs', ch', h1, h2, h3, h4⟩ := h
  exact ⟨b, zs', ch', h1, h2.same e, h3, h4⟩
theorem Oth.updL {C : Addr} {zs : List Str} {ch : Bool} {H : Hp} {v : V} {p : Addr} {l : List V} {o : HO} (h : Oth C zs ch H v) (hp : H p = some (.lst l)) : Oth C zs ch (upd H p o) v := by
  obtain ⟨b, zs', ch', h1, h2, h3, h4⟩ := h
  exact ⟨b, zs', ch', h1, h2.updL hp, h3, h4⟩
end Bk

/-! dict(pairs), dict(zip(xs, ys)), the keys tuples of ints and texts -/
namespace Bk
open PySem PySem.Spec PyProof.Rows L2
/-- later pairs win, the place is the first one's -/
def mergeT (kvs more : List (List Key × V)) : List (List Key × V) := more.foldl (fun acc kv => putK acc kv.1 kv.2) kvs
theorem mergeT_len : ∀ (more kvs : List (List Key × V)), (mergeT kvs more).length ≤ kvs.length + more.length
  | [], kvs => Nat.le_refl _
  | p :: r, kvs => by
    have h1 := mergeT_len r (putK kvs p.1 p.2)
    have h2 := length_putK kvs p.1 p.2
    show (mergeT (putK kvs p.1 p.2) r).length ≤ _
    rw [List.length_cons]
    omega
theorem KT.merge {H : Hp} : ∀ (more : List (List Key × V)) (ps : List (List Key × Addr × Value)) (kvs : List (List Key × V)) (xs : List (List Key × Addr × Value)), KT H more ps → KT H kvs xs → KT H (mergeT kvs more) (storedAllH xs ps)
  | [], _, _, _, .nil, h => h
  | p :: more, q :: ps, kvs, xs, .cons e t, h => by
    obtain ⟨k, b, u⟩ := q
    obtain ⟨e1, e2, e3⟩ := e
    have e1 : p.1 = k := e1
    subst e1
    show KT H (mergeT (putK kvs p.1 p.2) more) (storedAllH (storedH xs p.1 b u) ps)
    exact KT.merge more ps _ _ t (h.put p.1 e2 e3)
section
variable {X : Cx}
theorem dt_made {pins : List (Addr × Obj)} {σ : L2.St} {H : Hp} {s : Shared} {kvs : List (List Key × V)} {prs : List (List Key × Addr × Value)} {h' : Heap} {tk : Nat} {d : Addr} {Q : VK} (I : Inv X pins σ H s) (kt : KT H kvs prs) (hz : kvs.length ≤ sizeLine) (hsd : s.heap.objs.size ≤ d)
    (hd : h'.DictOfH (tupleKind (mixKind X.prog X.w)) d (storedAllH [] prs)) (k : ∀ b o, s.heap.get? b = some o → h'.get? b = some o) (q : ∀ p, H p = none → Q (.ref p) (upd H p (.dT (mergeT [] kvs)))) :
    EP X pins σ Q (.ref d) { s with heap := h', toks := tk } := by
  have hm : (d == sysModules) = false := beq_eq_false_iff_ne.mpr (Nat.ne_of_gt (Nat.lt_of_lt_of_le I.big hsd))
  have hn := I.hok.fresh hsd
  obtain ⟨o, es, ep, h1, h2, h3, h4, _, h5⟩ := hd
  have hlen := mergeT_len kvs []
  rw [List.length_nil, Nat.zero_add] at hlen
  refine ⟨.ref d, upd H d (.dT (mergeT [] kvs)), I.laid (t' := tk) k hsd ?_, rfl, q _ hn⟩
  refine ⟨Nat.le_trans hlen hz, hm, storedAllH [] prs, (KT.merge _ _ _ _ kt .nil).keeps fun c ys ec => ?_, o, es, ep, h1, h2, h3, h4, h5⟩
  rw [upd_ne (ne_of_none ec hn)]
  exact ec
theorem kt_keys {H : Hp} : ∀ {l : List (List Key × V)} {m : List (List Key × Addr × Value)}, KT H l m → ∀ x ∈ m, H x.2.1 = some (.tup (x.1.map kV)) := by
  intro l m q
  induction q with
  | nil => intro x hx; exact nomatch hx
  | @cons p q ps qs hq t ih =>
    intro x hx
    rcases List.mem_cons.mp hx with e | hx
    · subst e
      rw [← hq.1]
      exact hq.2.1
    · exact ih x hx
theorem stay_of {pins : List (Addr × Obj)} {σ : L2.St} {H : Hp} {s : Shared} {kvs : List (List Key × V)} {prs : List (List Key × Addr × Value)} {wr : List Addr} (I : Inv X pins σ H s) (kt : KT H kvs prs) (hw : ∀ b ∈ wr, s.heap.objs.size ≤ b) : KeysStay (tupleKind (mixKind X.prog X.w)) s.heap s.heap.objs.size wr prs := fun h' hk x hx => by
  have all : ∀ {l : List (List Key × V)} {m : List (List Key × Addr × Value)}, KT H l m → ∀ x ∈ m, H x.2.1 = some (.tup (x.1.map kV)) := by
    intro l m q
    induction q with
    | nil => intro x hx; exact nomatch hx
    | @cons p q ps qs hq t ih =>
      intro x hx
      rcases List.mem_cons.mp hx with e | hx
      · subst e
        rw [← hq.1]
        exact hq.2.1
      · exact ih x hx
  have hb := all kt x hx
  obtain ⟨o, arr, n, h1, h2, h3, h4⟩ := key_of (P := X.prog) (w := X.w) I.hok hb
  have hlt := Heap.lt_size h1
  exact ⟨o, arr, n, hk _ _ (Nat.ne_of_lt hlt) (fun z => Nat.lt_irrefl _ (Nat.lt_of_lt_of_le hlt (hw _ z))) h1, h2, h3, h4⟩
/-- dict(xs) of a list of pairs whose first parts are tuples -/
def rDictPT (K : PySem.W.Frag) : List V → Hp → VK → Prop := fun xs H Q => ∃ (a : Addr) (ps : List Addr) (kvs : List (List Key × V)), xs = [.ref a] ∧ SqL K H a (ps.map V.ref) ∧ Paired (fun p kv => ∃ b, H p = some (.tup [.ref b, kv.2]) ∧ H b = some (.tup (kv.1.map kV))) ps kvs ∧ ∀ p, H p = none → Q (.ref p) (upd H p (.dT (mergeT [] kvs)))
theorem pairsT_of {pins : List (Addr × Obj)} {σ : L2.St} {H : Hp} {s : Shared} (I : Inv X pins σ H s) : ∀ {ps : List Addr} {kvs : List (List Key × V)}, Paired (fun p kv => ∃ b, H p = some (.tup [.ref b, kv.2]) ∧ H b = some (.tup (kv.1.map kV))) ps kvs →
    ∃ prs : List (List Key × Addr × Value), KT H kvs prs ∧ prs.length = ps.length ∧ ∀ (j : Nat) (q : List Key × Addr × Value), prs[j]? = some q → ∃ p, ps[j]? = some p ∧ s.heap.IsTuple p #[.ref q.2.1, q.2.2]
  | _, _, .nil => ⟨[], .nil, rfl, fun j q e => by simp at e⟩
  | _, _, .cons (a := p) (b := kv) h t => by
    obtain ⟨prs, r, hl, hp⟩ := pairsT_of I t
    obtain ⟨b, h1, h2⟩ := h
    obtain ⟨_, its, rv, o, g1, g2, n, g3⟩ := (show ObjOk X.prog X.w H s.heap p (.tup [.ref b, kv.2]) from I.hok p _ h1)
    obtain ⟨u, y, ei, ru, ry⟩ := vals2 rv
    subst ei
    cases (show u = Value.ref b from ru)
    refine ⟨(kv.1, b, y) :: prs, .cons ⟨rfl, h2, ry⟩ r, by rw [List.length_cons, List.length_cons, hl], fun j q e => ?_⟩
    cases j with
    | zero =>
      have e' : (kv.1, b, y) = q := Option.some.inj e
      subst e'
      exact ⟨p, rfl, o, g1, g2, n, g3⟩
    | succ j =>
      obtain ⟨p', e1, e2⟩ := hp j q (by simpa using e)
      exact ⟨p', by simpa using e1, e2⟩
theorem call_dictPT (hcalm : X.calm = true) (hu : X.A.units + 64 < cLine) : CallR X (.type "dict") (rDictPT X.K) := by
  intro pins s σ H xs us Q I r q
  obtain ⟨a, ps, kvs, ex, hq, hp, q⟩ := q
  subst ex
  obtain ⟨u, eu, rx⟩ := vals1 r
  subst eu
  cases rx
  obtain ⟨its, rv, pl, hz⟩ := I.list hq
  have ei := refs_at rv
  subst ei
  rw [List.length_map] at hz
  obtain ⟨prs, kt, hl, hpr⟩ := pairsT_of I hp
  have hlk : kvs.length = prs.length := Paired.length kt
  let vs : List (Value × Value) := prs.map fun x => (.ref x.2.1, x.2.2)
  have hvl : vs.length = prs.length := List.length_map _
  have items : PairItems s.heap (ps.map Value.ref).toArray (fun j => ps.getD j 0) vs := by
    refine ⟨by simp [hvl, hl], fun j k v e => ?_⟩
    rw [List.getElem?_map] at e
    obtain ⟨x, hx, ex⟩ := Option.map_eq_some_iff.mp e
    cases ex
    obtain ⟨p, hp1, hp2⟩ := hpr j x hx
    have hg : ps.getD j 0 = p := by rw [List.getD_eq_getElem?_getD, hp1]; rfl
    show (ps.map Value.ref).toArray[j]? = some (Value.ref (ps.getD j 0)) ∧ PairAt s.heap (ps.getD j 0) _ _
    rw [hg]
    exact ⟨by simp [hp1], .inl hp2⟩
  refine call_dict_pairsH (ps := prs) (PairArg.list a (ps.map Value.ref).toArray (fun j => ps.getD j 0) vs) (I.ok.hd hcalm) ?_ ⟨?_, items⟩ ⟨hvl.symm, fun i key v e => ?_⟩ (stay_of I kt fun b z => nomatch z) (by rw [hvl, hl]; exact hz) fun h' tk hd' k => ?_
  · show X.A.in1.in1.units < cLine
    exact Nat.lt_of_le_of_lt (Nat.add_le_add_left (by decide : 2 ≤ 64) _) hu
  · obtain ⟨o, n, ho, hc, hd, hdat⟩ := pl
    exact ⟨o, n, ho, hc, hd, hdat⟩
  · have e : (prs.map fun x => (Value.ref x.2.1, x.2.2))[i]? = some (key, v) := e
    rw [List.getElem?_map] at e
    obtain ⟨x, hx, ex⟩ := Option.map_eq_some_iff.mp e
    cases ex
    exact ⟨x.1, x.2.1, hx, rfl⟩
  · exact dt_made I kt (by rw [hlk, hl]; exact hz) (Nat.le_refl _) hd' (fun b o e => k b o (fun z => nomatch z) e) q
end
end Bk

/-! == and != of two dicts whose keys are tuples -/
namespace PySem.W
open PySem PySem.Calls PyProof.Rows PyProof.V PySem.Spec
section
variable {prog : Program} {w : World} {K : Type} [DecidableEq K] {knd : HeapKind prog w K} {A : Around} {E : Value → Shared → Prop} {s : Shared}
inductive BkHits {K : Type} [DecidableEq K] (A : Around) (s : Shared) (kb : List (K × Addr × Value)) : List (K × Addr × Value) → Bool → Prop
  | nil : BkHits A s kb [] true
  | miss {k : K} {c : Addr} {v : Value} {r : List (K × Addr × Value)} : (∀ p, (k, p) ∉ kb) → BkHits A s kb ((k, c, v) :: r) false
  | hit {k : K} {c : Addr} {v : Value} {p : Addr × Value} {r : List (K × Addr × Value)} {e b : Bool} : (k, p) ∈ kb → SeqAt.EqAt A s v p.2 e → BkHits A s kb r b → BkHits A s kb ((k, c, v) :: r) (e && b)
theorem BkHits.inv {kb : List (K × Addr × Value)} {k : K} {c : Addr} {v : Value} {r : List (K × Addr × Value)} {b : Bool} (h : BkHits A s kb ((k, c, v) :: r) b) :
    ((∀ p, (k, p) ∉ kb) ∧ b = false) ∨ ∃ p e b', (k, p) ∈ kb ∧ SeqAt.EqAt A s v p.2 e ∧ BkHits A s kb r b' ∧ b = (e && b') := by
  cases h with
  | miss hn => exact .inl ⟨hn, rfl⟩
  | hit hy he hr => exact .inr ⟨_, _, _, hy, he, hr, rfl⟩
theorem bk_one {kb : List (K × Addr × Value)} (hn : (kb.map (·.1)).Nodup) {k : K} {p q : Addr × Value} (hp : (k, p) ∈ kb) (hq : (k, q) ∈ kb) : p = q := by
  induction kb with
  | nil => cases hp
  | cons x r ih =>
    rw [List.map_cons, List.nodup_cons] at hn
    rcases List.mem_cons.mp hp with e0 | hp
    · rcases List.mem_cons.mp hq with e | hq
      · exact (Prod.mk.inj (e0.trans e.symm)).2
      · exact absurd (show x.1 ∈ r.map (·.1) from by rw [← e0]; exact List.mem_map.mpr ⟨(k, q), hq, rfl⟩) hn.1
    · rcases List.mem_cons.mp hq with e | hq
      · exact absurd (show x.1 ∈ r.map (·.1) from by rw [← e]; exact List.mem_map.mpr ⟨(k, p), hp, rfl⟩) hn.1
      · exact ih hn.2 hp hq
theorem bk_samePairs {nm : String} {a b : Addr} {ka kb : List (K × Addr × Value)} {r : Bool} {Q : Bool → Shared → Prop} (hu : knd.room A) (ha : (a == sysModules) = false) (hb : (b == sysModules) = false)
    (da : s.heap.DictOfH knd a ka) (db : s.heap.DictOfH knd b kb) (hits : ka.length = kb.length → BkHits A s kb ka r) (h : Q (ka.length == kb.length && r) s) :
    wpAny (model prog w) A (Builtin.Dict.samePairs nm a b) Q E s := by
  obtain ⟨oa, es, ep, hoa, _, hda, hea, hisa, hna⟩ := da
  obtain ⟨ob, es', ep', hob, _, hdb, heb, hisb, hnb⟩ := db
  have hla : ka.length = es.size := (size_of_entries hea).symm
  have hlb : kb.length = es'.size := (size_of_entries heb).symm
  rw [hla, hlb] at h
  unfold Builtin.Dict.samePairs Builtin.Dict.showsAll
  rw [if_neg (show ¬ (a == sysModules) = true by rw [ha]; exact Bool.false_ne_true), if_neg (show ¬ (b == sysModules) = true by rw [hb]; exact Bool.false_ne_true)]
  refine wpAny_bind (wpAny_pure (wpAny_bind (wpAny_pure ?_)))
  refine wpAny_bind (wpAny_dictEntries hoa hda ?_)
  dsimp only
  refine wpAny_bind (wpAny_dictEntries hob hdb ?_)
  by_cases hsz : es.size = es'.size
  case neg =>
    rw [if_pos (by simpa using hsz)]
    have hbf : (es.size == es'.size) = false := by simpa using hsz
    rw [hbf, Bool.false_and] at h
    exact wpAny_bind (wpAny_rule (wpAny_pure h))
  case pos =>
    have h' : Q r s := by simpa [hsz] using h
    have hits' := hits (by rw [hla, hlb]; exact hsz)
    rw [if_neg (by rw [hsz]; simp)]
    refine wpAny_bind (wpAny_dictEpoch hoa hda ?_)
    refine wpAny_bind ?_
    rw [Std.Legacy.Range.forIn_eq_forIn_range']
    simp only [Std.Legacy.Range.size, Nat.sub_zero, Nat.add_sub_cancel, Nat.div_one]
    refine wpAny_forIn_list _
      (fun rest q s' => s' = s ∧ q = (none, ()) ∧ ∃ i, rest = List.range' i (es.size - i) ∧ i ≤ es.size ∧ BkHits A s kb (ka.drop i) r)
      _ ?_ ?_ _ _ ⟨rfl, rfl, 0, by simp, Nat.zero_le _, hits'⟩
    · rintro x rest q s' ⟨rfl, rfl, i, hr, hi, hpre⟩
      have hlt : i < es.size := by
        rcases Nat.lt_or_ge i es.size with h | h
        · exact h
        · rw [Nat.sub_eq_zero_of_le h] at hr; simp at hr
      obtain ⟨rfl, hrest⟩ : x = i ∧ rest = List.range' (i + 1) (es.size - (i + 1)) := by
        have e : es.size - i = (es.size - (i + 1)) + 1 := by omega
        rw [e, List.range'_succ] at hr
        injection hr with h1 h2
        exact ⟨h1, h2⟩
      refine wpAny_bind (wpAny_dictEntries hoa hda ?_)
      rw [Array.getElem?_eq_getElem hlt]
      have hlt' : x < ka.length := by rw [hla]; exact hlt
      obtain ⟨k, c, v, hkv⟩ : ∃ k c v, ka[x] = (k, c, v) := ⟨_, _, _, rfl⟩
      have hdrop : ka.drop x = (k, c, v) :: ka.drop (x + 1) := by rw [← hkv]; exact List.drop_eq_getElem_cons hlt'
      have hent : es[x] = entryOfKey knd (k, c, v) := by
        have q := entry_at hea x
        rw [Array.getElem?_eq_getElem hlt, List.getElem?_eq_getElem hlt', hkv] at q
        exact Option.some.inj q
      have hkey := hisa (k, c, v) (by rw [← hkv]; exact List.getElem_mem hlt')
      rw [hdrop] at hpre
      rw [hent]
      show wpAny _ _ (holding [Value.ref c, v] _ >>= _) _ _ _
      refine wpAny_bind (wpAny_holding (wpAny_bind (wpAny_dictFind_heap hu hkey hob hdb heb hisb hnb (fun hnone => ?_) fun j p hj => ?_)))
      · rcases hpre.inv with ⟨_, er⟩ | ⟨y, _, _, hy, _⟩
        · rw [er] at h'
          refine wpAny_pure ?_
          show wpAny _ _ (if (!false) = true then _ else _) _ _ _
          rw [if_pos (by decide)]
          exact wpAny_pure (wpAny_pure h')
        · obtain ⟨j, hj⟩ := List.mem_iff_getElem?.mp hy
          exact absurd hj (hnone j y)
      · have hjlt : j < es'.size := by
          have := (List.getElem?_eq_some_iff.mp hj).1
          omega
        have hval : es'[j].val = p.2 := by
          have q := entry_at heb j
          rw [Array.getElem?_eq_getElem hjlt, hj] at q
          rw [Option.some.inj q]
          rfl
        refine wpAny_bind (wpAny_dictEntries hob hdb ?_)
        rw [Array.getElem?_eq_getElem hjlt]
        rcases hpre.inv with ⟨hn, _⟩ | ⟨y, e, b', hy, he, hrr, er⟩
        · exact absurd (List.mem_of_getElem? hj) (hn p)
        · have ey := bk_one hnb hy (List.mem_of_getElem? hj)
          rw [ey, ← hval] at he
          refine wpAny_holding (he prog w _ _ ?_)
          cases e with
          | false =>
            rw [er, Bool.false_and] at h'
            show wpAny _ _ (if (!false) = true then _ else _) _ _ _
            rw [if_pos (by decide)]
            exact wpAny_pure (wpAny_pure h')
          | true =>
            rw [Bool.true_and] at er
            rw [← er] at hrr
            show wpAny _ _ (if (!true) = true then _ else _) _ _ _
            rw [if_neg (by decide)]
            refine wpAny_bind (wpAny_dictEpoch hoa hda ?_)
            rw [if_neg (by simp)]
            exact wpAny_pure ⟨rfl, rfl, x + 1, hrest, hlt, hrr⟩
    · rintro q s' ⟨rfl, rfl, i, hr, hi, hpre⟩
      have hin : i = es.size := by
        rcases Nat.lt_or_ge i es.size with h | h
        · have e : es.size - i = (es.size - (i + 1)) + 1 := by omega
          rw [e, List.range'_succ] at hr; exact nomatch hr
        · exact Nat.le_antisymm hi h
      refine wpAny_pure ?_
      rw [hin, ← hla, List.drop_length] at hpre
      cases hpre
      exact h'
theorem bk_eq {a b : Addr} {ka kb : List (K × Addr × Value)} {r : Bool} {Q : Value → Shared → Prop} (hu1 : knd.room A.in1) (ha : (a == sysModules) = false) (hb : (b == sysModules) = false)
    (da : s.heap.DictOfH knd a ka) (db : s.heap.DictOfH knd b kb) (hu : A.units < cLine) (hits : ka.length = kb.length → BkHits A.in1 s kb ka r) (h : Q (.bool (ka.length == kb.length && r)) s) :
    wpAny (model prog w) A (compareOp .Eq (.ref a) (.ref b)) Q E s := by
  refine wpAny_richCompare_same_room (op := .Eq) da.typeIs db.typeIs PySem.F.slot_dict_eq (wpAny_call_entry PySem.F.slot_dict_eq da.typeIs PySem.F.entry_dict_eq ?_ (PySem.F.args_dict_eq_2 _ _)) hu
  show wpAny _ _ (Builtin.Dict.dictSlotArgs "__eq__" ⟨[.ref a, .ref b], []⟩ >>= _) _ _ s
  refine wpAny_bind ?_
  unfold Builtin.Dict.dictSlotArgs
  refine wpAny_bind (wpAny_notOrdered_dict da.typeIs ?_)
  show wpAny _ _ (pure (Value.ref a, Value.ref b)) _ _ s
  refine wpAny_pure ?_
  refine wpAny_bind (wpAny_isInstance (T := "dict") db.typeIs PySem.F.sub_dict_dict ?_)
  simp only [Bool.not_true, Bool.false_eq_true, if_false]
  refine wpAny_bind (wpAny_pure (wpAny_bind (wpAny_pure ?_)))
  refine wpAny_bind (bk_samePairs hu1 ha hb da db hits ?_)
  refine wpAny_pure ⟨_, rfl, ?_, ?_⟩
  · exact fun x => nomatch x
  · simpa using h
theorem bk_ne {a b : Addr} {ka kb : List (K × Addr × Value)} {r : Bool} {Q : Value → Shared → Prop} (hu1 : knd.room A.in1) (ha : (a == sysModules) = false) (hb : (b == sysModules) = false)
    (da : s.heap.DictOfH knd a ka) (db : s.heap.DictOfH knd b kb) (hu : A.units < cLine) (hits : ka.length = kb.length → BkHits A.in1 s kb ka r) (h : Q (.bool (!(ka.length == kb.length && r))) s) :
    wpAny (model prog w) A (compareOp .NotEq (.ref a) (.ref b)) Q E s := by
  refine wpAny_richCompare_same_room (op := .NotEq) da.typeIs db.typeIs PySem.F.slot_dict_ne (wpAny_call_entry PySem.F.slot_dict_ne da.typeIs PySem.F.entry_dict_ne ?_ (PySem.F.args_dict_ne_2 _ _)) hu
  show wpAny _ _ (Builtin.Dict.dictSlotArgs "__ne__" ⟨[.ref a, .ref b], []⟩ >>= _) _ _ s
  refine wpAny_bind ?_
  unfold Builtin.Dict.dictSlotArgs
  refine wpAny_bind (wpAny_notOrdered_dict da.typeIs ?_)
  show wpAny _ _ (pure (Value.ref a, Value.ref b)) _ _ s
  refine wpAny_pure ?_
  refine wpAny_bind (wpAny_isInstance (T := "dict") db.typeIs PySem.F.sub_dict_dict ?_)
  simp only [Bool.not_true, Bool.false_eq_true, if_false]
  refine wpAny_bind (wpAny_pure (wpAny_bind (wpAny_pure ?_)))
  refine wpAny_bind (bk_samePairs hu1 ha hb da db hits ?_)
  refine wpAny_pure ⟨_, rfl, ?_, ?_⟩
  · exact fun x => nomatch x
  · simpa using h
end
end PySem.W

/-! == and != of two dicts whose keys are tuples, their values whole numbers -/
namespace Bk
open PySem PySem.Spec PyProof.Rows L2
def getT (ks : List (List Key × Int)) (k : List Key) : Option Int := (ks.find? fun p => decide (p.1 = k)).map (·.2)
theorem getT_pos {p : List Key × Int} {r : List (List Key × Int)} {k : List Key} (e : p.1 = k) : getT (p :: r) k = some p.2 := by simp [getT, List.find?_cons, e]
theorem getT_neg {p : List Key × Int} {r : List (List Key × Int)} {k : List Key} (e : ¬ p.1 = k) : getT (p :: r) k = getT r k := by simp [getT, List.find?_cons, e]
/-- whether two tables of whole numbers are equal -/
def sameT (ks ls : List (List Key × Int)) : Bool := ks.length == ls.length && ks.all fun p => decide (getT ls p.1 = some p.2)
def tabV (ks : List (List Key × Int)) : List (List Key × V) := ks.map fun p => (p.1, V.int p.2)
theorem tab_len (ks : List (List Key × Int)) : (tabV ks).length = ks.length := List.length_map ..
theorem valV_tab (ls : List (List Key × Int)) (k : List Key) : valV (tabV ls) k = (getT ls k).map V.int := by
  induction ls with
  | nil => rfl
  | cons p r ih =>
    show valV ((p.1, V.int p.2) :: tabV r) k = _
    by_cases h : p.1 = k
    · rw [valV_pos h, getT_pos h]
      rfl
    · rw [valV_neg h, ih, getT_neg h]
theorem atKey_none {xs : List (List Key × Addr × Value)} {k : List Key} (e : atKey xs k = none) (z : Addr × Value) : (k, z) ∉ xs := fun hz => by
  unfold atKey at e
  rw [Option.map_eq_none_iff, List.find?_eq_none] at e
  exact e _ hz (decide_eq_true rfl)
theorem atKey_mem {xs : List (List Key × Addr × Value)} {k : List Key} {w : Addr × Value} (e : atKey xs k = some w) : (k, w) ∈ xs := by
  unfold atKey at e
  obtain ⟨⟨k', w'⟩, h1, rfl⟩ := Option.map_eq_some_iff.mp e
  have h2 := List.mem_of_find?_eq_some h1
  have h3 := List.find?_some (p := fun x : List Key × Addr × Value => decide (x.fst = k)) h1
  have h3 : k' = k := of_decide_eq_true h3
  rw [← h3]
  exact h2
theorem hitsT {A : Around} {s : Shared} {H : Hp} {ls : List (List Key × Int)} {vb : List (List Key × Addr × Value)} (rb : KT H (tabV ls) vb) {ks : List (List Key × Int)} : ∀ {va : List (List Key × Addr × Value)}, KT H (tabV ks) va →
    PySem.W.BkHits A s vb va (ks.all fun p => decide (getT ls p.1 = some p.2)) := by
  induction ks with
  | nil =>
    intro va ra
    cases ra
    exact .nil
  | cons p r ih =>
    intro va ra
    cases ra with
    | @cons _ q _ qs h t =>
      obtain ⟨h1, _, h3⟩ := h
      obtain ⟨k, c, v⟩ := q
      have h1 : p.1 = k := h1
      subst h1
      have rr := rb.val p.1
      rw [valV_tab] at rr
      rw [List.all_cons]
      cases e : getT ls p.1 with
      | none =>
        rw [e] at rr
        rw [show decide ((none : Option Int) = some p.2) = false from decide_eq_false (fun z => nomatch z), Bool.false_and]
        refine .miss fun z hz => ?_
        cases e2 : atKey vb p.1 with
        | none => exact atKey_none e2 z hz
        | some w => rw [e2] at rr; exact rr
      | some j =>
        rw [e] at rr
        cases e2 : atKey vb p.1 with
        | none => rw [e2] at rr; exact absurd rr (fun z => z)
        | some w =>
          rw [e2] at rr
          obtain ⟨t1, ht1⟩ : ∃ t, v = Value.int p.2 t := h3
          obtain ⟨t2, ht2⟩ : ∃ t, w.2 = Value.int j t := rr
          have hm := atKey_mem e2
          have q := SeqAt.EqAt.int_int (A := A) (s := s) p.2 t1 j t2
          rw [← ht1, ← ht2] at q
          have ed : decide (some j = some p.2) = (p.2 == j) := by
            by_cases z : p.2 = j
            · subst z; simp
            · have : ¬ j = p.2 := fun x => z x.symm
              simp [z, this]
          rw [ed]
          exact .hit hm q (ih t)
section
variable {X : Cx}
def rEqT (neg : Bool) : R2 := fun x y H Q => ∃ a b ks ls, x = .ref a ∧ y = .ref b ∧ H a = some (.dT (tabV ks)) ∧ H b = some (.dT (tabV ls)) ∧ Q (.bl (if neg then !sameT ks ls else sameT ks ls)) H
theorem op_eqT (hu : X.A.units + 1 < cLine) : OpR X (compareOp .Eq) (rEqT false) := by
  intro pins s σ H x y v u Q I rx ry h
  obtain ⟨a, b, ks, ls, rfl, rfl, ea, eb, q⟩ := h
  obtain rfl : v = Value.ref a := rx
  obtain rfl : u = Value.ref b := ry
  obtain ⟨_, ya, va, ra, da⟩ := dt_of I.hok ea
  obtain ⟨_, yb, vb, rb, db⟩ := dt_of I.hok eb
  have hl1 : va.length = ks.length := by rw [← Paired.length ra]; exact tab_len ks
  have hl2 : vb.length = ls.length := by rw [← Paired.length rb]; exact tab_len ls
  refine PySem.W.bk_eq (knd := tupleKind (mixKind X.prog X.w)) (tupleKind_room_in1 hu) ya yb da db (Nat.lt_of_succ_lt hu) (fun _ => hitsT rb ra) ?_
  rw [hl1, hl2]
  exact ⟨_, H, I, (show RelV (.bl _) _ from rfl), q⟩
theorem op_neT (hu : X.A.units + 1 < cLine) : OpR X (compareOp .NotEq) (rEqT true) := by
  intro pins s σ H x y v u Q I rx ry h
  obtain ⟨a, b, ks, ls, rfl, rfl, ea, eb, q⟩ := h
  obtain rfl : v = Value.ref a := rx
  obtain rfl : u = Value.ref b := ry
  obtain ⟨_, ya, va, ra, da⟩ := dt_of I.hok ea
  obtain ⟨_, yb, vb, rb, db⟩ := dt_of I.hok eb
  have hl1 : va.length = ks.length := by rw [← Paired.length ra]; exact tab_len ks
  have hl2 : vb.length = ls.length := by rw [← Paired.length rb]; exact tab_len ls
  refine PySem.W.bk_ne (knd := tupleKind (mixKind X.prog X.w)) (tupleKind_room_in1 hu) ya yb da db (Nat.lt_of_succ_lt hu) (fun _ => hitsT rb ra) ?_
  rw [hl1, hl2]
  exact ⟨_, H, I, (show RelV (.bl _) _ from rfl), q⟩
end
end Bk

/-! a dict comprehension with tests, its keys tuples -/
namespace Bk
open PySem PySem.Spec PyProof.Rows L2
section
variable {X : Cx}
/-- {k: v for target in iter if ..}, the keys tuples: D the new dict -/
def tDcTI (wi : TI) (g : TG) (tt : TT) (tk tv : TE) (vs : List Nat) : TE := fun σ H Q => wi σ H fun J H1 => ∀ D, H1 D = none → ∃ W : Nat → Nat → Hp → Prop, (∃ m, W 0 m (upd H1 D (.dT []))) ∧ ∀ i m H, W i m H →
  (J.stop i H ∧ Q (.ref D) H) ∨ (J.go i H ∧ ∃ Nx : Hp → Prop, (∀ H', Nx H' → ∃ m', m' < m ∧ W (i + 1) m' H') ∧ ∀ x H', J.yld i H x H' → g x (wipe σ vs) H' fun σ2 H2 => wipe σ2 vs = wipe σ vs ∧ tt σ2 H2 fun bb H3 =>
    if bb = true then tk σ2 H3 fun y H4 => tv σ2 H4 fun z H5 => ∃ kvs k b, y = .ref b ∧ H5 b = some (.tup (k.map kV)) ∧ H5 D = some (.dT kvs) ∧ kvs.length < sizeLine ∧ Nx (upd H5 D (.dT (putK kvs k z))) else Nx H3)
theorem pe_dcTI {kx vx tg iter : Expr} {ifs : List Expr} {scope : Scope} {own : List (Str × Nat)} {pos : Pos} {wi : TI} {g : TG} {tt : TT} {tk tv : TE} (hu : X.A.units < cLine) (hc : X.calm = true) (hN : X.N.Nodup) (hi : PI X tg iter wi) (ok : BlkOk X.N X.env.scope scope own)
    (hg : ∀ (s : Shared) (H : Hp) (C : Addr) (cl : List (Str × Addr)) (fp : List Addr), PG (X.blk s H scope (compEnvC scope cl C X.env) fp) tg g) (ht : ∀ (s : Shared) (H : Hp) (C : Addr) (cl : List (Str × Addr)) (fp : List Addr), PTs (X.blk s H scope (compEnvC scope cl C X.env) fp) ifs tt)
    (hk : ∀ (s : Shared) (H : Hp) (C : Addr) (cl : List (Str × Addr)) (fp : List Addr), PE (X.blk s H scope (compEnvC scope cl C X.env) fp) kx tk)
    (he : ∀ (s : Shared) (H : Hp) (C : Addr) (cl : List (Str × Addr)) (fp : List Addr), PE (X.blk s H scope (compEnvC scope cl C X.env) fp) vx tv) (hs : ∀ x, foldedSetIterable iter X.env x = pure x := by intro _; rfl) :
    PE X (.DictComp kx vx [⟨tg, iter, ifs, 0⟩] scope pos) (tDcTI wi g tt tk tv (own.map (·.2))) := by
  refine ⟨fun pins s σ H Q I h => ?_⟩
  rw [arm_eval_DictComp]
  have fr : ∀ y ∈ scope.names, y.2 = .free → ∃ c, X.env.cells.lookup y.1 = some c := fun y hy e => (ok.free y hy e).elim (fun k => I.ok.has _ (.inl k)) fun k => I.ok.has _ (.inr k)
  refine wpAny_comprehension_free rfl hs (closure_ok fr) ok.kind (fun y hy e => by rw [ok.uniq y hy, e]) (thn (hi.run pins s σ H _ I h) fun xv s1 hx => thn hx fun itv s2 h2 => ?_)
  obtain ⟨it, fp, tn, J, H2, rfl, I2, T, st2, f2, q⟩ := h2
  refine wpAny_newObj_type (newEnv_comp ?_)
  -- the new dict stands at D
  obtain ⟨D, hD⟩ : ∃ D, D = s2.heap.objs.size := ⟨_, rfl⟩
  obtain ⟨W, ⟨m0, w0⟩, turn⟩ := q D (I2.hok.fresh (Nat.le_of_eq hD.symm))
  obtain ⟨s3, hs3⟩ : ∃ s3 : Shared, s3 = { s2 with heap := s2.heap.push { cls := .type "dict", data := .dict #[] } } := ⟨_, rfl⟩
  have hh3 : s3.heap = s2.heap.push { cls := .type "dict", data := .dict #[] } := by rw [hs3]
  have k3 : ∀ b o, s2.heap.get? b = some o → s3.heap.get? b = some o := fun b o e => by rw [hh3]; exact Heap.get?_push_of_some _ e
  have I3 : Inv X pins σ (upd H2 D (.dT [])) s3 := by
    subst hs3 hD
    exact I2.laid (t' := s2.toks) (fun b o e => Heap.get?_push_of_some _ e) (Nat.le_refl _) (dt_empty s2.heap I2.big)
  have young : ∀ b ∈ fp, b < s2.heap.objs.size := fun b hb => (T.obj _ _ st2 b hb).elim fun o e => Heap.lt_size e.1
  have f3 : ∀ b ∈ fp, FpOk X pins (upd H2 D (.dT [])) b ∧ b < s3.heap.objs.size := fun b hb => by
    refine ⟨⟨?_, (f2 b hb).2⟩, by rw [hh3, Heap.size_push]; exact Nat.lt_succ_of_lt (young b hb)⟩
    rw [upd_ne (by rw [hD]; exact Nat.ne_of_lt (young b hb))]
    exact (f2 b hb).1
  have st3 : tn 0 s3.heap := T.keep _ _ _ st2 fun b _ => k3 b
  rw [← hs3]
  obtain ⟨H3, hH3⟩ : ∃ H3, H3 = upd H2 D (.dT []) := ⟨_, rfl⟩
  rw [← hH3] at I3 f3 w0
  have I4 := block_start I3 ok hN f3
  let cl := cellsFrom (s3.heap.objs.size + 1) scope.names (cloFrom X.env.cells scope.names [])
  have pg := hg s3 H3 s3.heap.objs.size cl fp
  have pt := ht s3 H3 s3.heap.objs.size cl fp
  have pk := hk s3 H3 s3.heap.objs.size cl fp
  have pe := he s3 H3 s3.heap.objs.size cl fp
  show codeAny _ _ (.compStart (.DictComp kx vx [⟨tg, iter, ifs, 0⟩] scope pos) 0 (.ref it) (.ref s2.heap.objs.size) (compEnvC scope cl s3.heap.objs.size X.env)) (compPost (model X.prog X.w) X.A X.xe none _ (.ref s2.heap.objs.size) s3.heap.objs.size) { s3 with heap := pushCells (s3.heap.push { cls := .type "dict", data := .dict #[] }) scope.names }
  rw [← hD]
  obtain ⟨ce, hce⟩ : ∃ ce, ce = compEnvC scope cl s3.heap.objs.size X.env := ⟨_, rfl⟩
  have cL : ce.locals = s3.heap.objs.size := by rw [hce]; rfl
  have I4' : Inv (X.blk s3 H3 scope ce fp) [] (wipe σ (own.map (·.2))) H3 { s3 with heap := pushCells (s3.heap.push { cls := .type "dict", data := .dict #[] }) scope.names } := by rw [hce]; exact I4
  rw [← hce] at pg pt pk pe ⊢
  clear I4
  obtain ⟨s4, hs4⟩ : ∃ s4 : Shared, s4 = { s3 with heap := pushCells (s3.heap.push { cls := .type "dict", data := .dict #[] }) scope.names } := ⟨_, rfl⟩
  rw [← hs4] at I4' ⊢
  have st4 : tn 0 s4.heap := T.keep _ _ _ st3 fun b _ o e => by rw [hs4]; exact pushCells_keeps _ _ _ _ (Heap.get?_push_of_some _ e)
  have stat : ∀ {σ' : L2.St} {H' : Hp} {s' : Shared}, Inv (X.blk s3 H3 scope ce fp) [] σ' H' s' → (∀ b ∈ fp, H' b = none) → ∀ b ∈ fp, FpOk (X.blk s3 H3 scope ce fp) [] H' b := fun I' hn b hb =>
    ⟨hn b hb, (I'.ok.exf b hb).1, I'.ok.exfs b hb, .inl hb, fun x c e => (I'.ok.exf b hb).2 x c e, fun p hp => by simp at hp⟩
  suffices loop : codeAny (model X.prog X.w) X.A (.compLoop (.DictComp kx vx [⟨tg, iter, ifs, 0⟩] scope pos) 0 (.ref it) (.ref D) ce) (compPost (model X.prog X.w) X.A X.xe none (EP X pins σ Q) (.ref D) s3.heap.objs.size) s4 from
    codeAny_compStart_dict loop (T.self X.A 0 _ _ _ st4 loop)
  refine compLoop_anyD (fun n s' => ∃ i H', Inv (X.blk s3 H3 scope ce fp) [] (wipe σ (own.map (·.2))) H' s' ∧ tn i s'.heap ∧ (∀ b ∈ fp, H' b = none) ∧ W i n H') ?_ m0 ⟨0, H3, I4', st4, fun b hb => (f3 b hb).1.1, w0⟩
  rintro n s5 ⟨i, H5, I5, st5, n5, w5⟩
  rcases turn i n H5 w5 with ⟨stop, qq⟩ | ⟨go, Nx, hNx, step⟩
  · refine thnF (T.done (X.blk s3 H3 scope ce fp) rfl rfl rfl hc i [] s5 _ H5 (fun _ _ => False) I5 (stat I5 n5) st5 stop) fun r s6 ⟨hr, I6⟩ => ?_
    subst hr
    have I7 : Inv X pins σ H5 s6 := I3.call' (ch := fp) I6.os I6.base I6.hok I6.bare fun b hb => ⟨(f3 b hb).1.2.2.2.1, (f3 b hb).1.2.1, (f3 b hb).1.2.2.2.2.1, (f3 b hb).1.2.2.2.2.2⟩
    obtain ⟨m, hn, _⟩ := I6.loc
    refine ⟨m, by rw [← cL]; exact hn, fun h'' sb => ?_⟩
    obtain ⟨g0, g1, g2, g3, g4, g5⟩ := I3.fpOk (H' := H5) (Nat.le_refl _) (by rw [← cL]; exact I6.free)
    exact ⟨.ref D, H5, I7.turned (t' := s6.toks) (fun b o hb e => (sb.2 b hb).trans e) g0 g1 g3 g4 g5, rfl, qq⟩
  · refine thnF (T.item (X.blk s3 H3 scope ce fp) rfl rfl rfl hc i [] s5 _ H5 (fun _ _ => False) I5 (stat I5 n5) st5 go) fun r s6 ⟨u, hr, h6⟩ => ?_
    subst hr
    refine thnF h6 fun _ s7 ⟨x, H7, I7, r7, y7, st7, n7⟩ => ?_
    have I7' := I7.pinned (stat I7 n7) (T.obj _ _ st7)
    refine thnF (pg.run _ s7 _ H7 x u _ I7' r7 (step x H7 y7)) fun _ s8 ⟨σ8, H8, I8, hw8, q8⟩ => ?_
    refine thnF (pt.run _ s8 σ8 H8 _ I8 q8) fun bb s9 ⟨H9, I9, q9⟩ => ?_
    have fin : ∀ {s' : Shared} {H' : Hp}, Inv (X.blk s3 H3 scope ce fp) ([] ++ pinsAt fp s7.heap) σ8 H' s' → Nx H' → ∃ m, m < n ∧ ∃ i H', Inv (X.blk s3 H3 scope ce fp) [] (wipe σ (own.map (·.2))) H' s' ∧ tn i s'.heap ∧ (∀ b ∈ fp, H' b = none) ∧ W i m H' := fun {s' H'} I' nx => by
      obtain ⟨m', hm, w'⟩ := hNx H' nx
      have pin' : ∀ b ∈ fp, ∀ o, s7.heap.get? b = some o → s'.heap.get? b = some o ∧ H' b = none := fun b hb o e =>
        have z := I'.pin (b, o) (List.mem_append_right _ (List.mem_append_right _ (mem_pinsAt hb e)))
        ⟨z.1, z.2.1⟩
      have hl : (wipe σ (own.map (·.2))).length = σ8.length := by rw [← hw8, wipe_length]
      refine ⟨m', hm, i + 1, H', (I'.unpinned (pins := [])).weak hl (fun j v e => ?_), T.keep _ _ _ st7 fun b hb o e => (pin' b hb o e).1, fun b hb => ?_, w'⟩
      · rw [← hw8] at e
        exact (wipe_some e).1
      · obtain ⟨o, e, _⟩ := T.obj _ _ st7 b hb
        exact (pin' b hb o e).2
    cases bb with
    | false =>
      simp only [Bool.false_eq_true, if_false] at q9 ⊢
      exact fin I9 q9
    | true =>
      simp only [if_true] at q9 ⊢
      refine thnF (pk.run _ s9 σ8 H9 _ I9 q9) fun z s10 ⟨yk, H10, I10, r10, q10⟩ => ?_
      refine thnF (pe.run _ s10 σ8 H10 _ I10 q10) fun z2 s11 ⟨yv, H11, I11, r11, kvs, k, b, ek, hb11, hD11, hz11, nx⟩ => ?_
      subst ek
      exact put_tup (X := X.blk s3 H3 scope ce fp) hu I11 hD11 hz11 hb11 r10 r11 fun s12 I12 => fin I12 nx
end
end Bk

/-! an own exception made by one keyword: type.__call__, BaseException.__new__, the own __init__ -/
namespace PySem
namespace HandSPX
open Builtin Builtin.ObjectAttr
open PySem.Calls PyProof.Rows
section
variable {M : Model} {A : Around} {E : Value → Shared → Prop} {h : Heap} {g : Array GenState} {d : Drawn} {t : Nat} {os : OsState}
variable {nm q : Str} {C N : Addr} {bs bm bmB : List Value} {hdct : Bool} {sn : List Str} {sub : List Value} {ab : Bool} {col : Option Bool} {dd : Option Addr} {k0 k1 k2 k3 k5 : Option Value} {B newId initId : String}
theorem bk_check_new (F : ExcBaseFacts B newId initId bmB) (hT : ∀ X : String, bm.contains (.type X) = bmB.contains (.type X)) {kn : Str} {ku : Value} {Q : Unit → Shared → Prop}
    (hC : h.get? C = some (excClassObj nm q C N bs bm hdct sn sub ab col dd k0 k1 k2 k3 k5 newId)) (hq : Q () ⟨h, g, d, t, os⟩) : wpAny M A (checkBuiltinCall newId ⟨[.ref C], [(kn, ku)]⟩) Q E ⟨h, g, d, t, os⟩ := by
  have hcont : (Value.ref C :: bm).contains (.type B) = true := by rw [List.contains_cons, hT, F.hasB, Bool.or_true]
  have hstar := F.noStar
  simp only [checkBuiltinCall, F.newKind, F.newSplit, F.newRow]
  repeat (first | refine wpAny_loadPart_at hC ?_ | (refine wpAny_isSubtype_exc hC ?_; rw [hcont]) | refine wpAny_staticBase_exc hC ?_ | refine wpAny_madeBy_exc hC ?_ | simp only [bne_self_eq_false, Bool.false_eq_true, if_false] | wp_step)
  exact hq
end
section
variable {prog : Program} {w : World} {A : Around} {E : Value → Shared → Prop} {R : Result → Shared → Prop} {h : Heap} {g : Array GenState} {d : Drawn} {t : Nat} {os : OsState}
variable {nm q : Str} {C N : Addr} {bs bm bmB : List Value} {hdct : Bool} {sn : List Str} {sub : List Value} {ab : Bool} {col : Option Bool} {dd : Option Addr} {k0 k1 k2 k3 k5 : Option Value} {B newId initId : String}
theorem bk_new (F : ExcBaseFacts B newId initId bmB) (hT : ∀ X : String, bm.contains (.type X) = bmB.contains (.type X)) {kn : Str} {ku : Value}
    (hC : h.get? C = some (excClassObj nm q C N bs bm hdct sn sub ab col dd k0 k1 k2 k3 k5 newId))
    (hq : R (.ok (.ret (.ref (h.objs.size + 1)))) ⟨(h.push { cls := .type "tuple", data := .seq ([] : List Value).toArray }).push
      { cls := .ref C, data := .fields #[.ref h.objs.size, .none, .none, .none, .bool false, .none] }, g, d, t, os⟩) :
    codeAny (model prog w) A (.builtin newId ⟨[.ref C], [(kn, ku)]⟩) R ⟨h, g, d, t, os⟩ := by
  have hends := F.ends
  have hrest : ([] : List Value).length ≤ sizeLine := Nat.zero_le _
  have hcB : (Value.ref C :: bm).contains (.type B) = true := by rw [List.contains_cons, hT, F.hasB, Bool.or_true]
  have hcA : (Value.ref C :: bm).contains (.type "AttributeError") = false := by rw [List.contains_cons, hT, F.noAttr]; rfl
  have hcN : (Value.ref C :: bm).contains (.type "NameError") = false := by rw [List.contains_cons, hT, F.noName]; rfl
  refine codeAny_builtinAt F.entry ?_
  unfold Builtin.«BaseException.__new__»
  refine wpAt_bind ?_
  show wpAt _ _ _ (stack >>= _) _ _ _
  refine wpAt_bind (wpAt_stack fun p below => wpAt_of_wpAny ?_)
  wp_walk
  refine wpAt_of_wpAny ?_
  rw [F.owner]
  repeat (first | with_reducible refine wpAny_madeHere_exc F.canon hC ?_ | with_reducible refine wpAny_loadPart_at hC ?_ | (with_reducible refine wpAny_isSubtype_exc hC ?_; first | rw [hcB] | rw [hcA] | rw [hcN]) | wp_step)
  show R _ _
  rw [Heap.size_push]
  exact hq
theorem bk_type_call (F : ExcBaseFacts B newId initId bmB) (hT : ∀ X : String, bm.contains (.type X) = bmB.contains (.type X)) {kn : Str} {ku : Value} {fI : Addr} {Q : Fin → Shared → Prop}
    (hC : h.get? C = some (excClassObj nm q C N bs bm hdct sn sub ab col dd k0 k1 k2 k3 k5 newId))
    (hi : W.Looks (model prog w) h (typeLookup (.ref C) "__init__") (some (.ref fI))) (hb : ∀ self, W.Looks (model prog w) h (bindSpecial (.ref fI) self) (.ref fI, [self]))
    (hq : codeAny (model prog w) A (.call (.ref fI) ⟨[.ref (h.objs.size + 1)], [(kn, ku)]⟩)
      (fun r s' => match r with | .ok (.ret v) => v = .none ∧ Q (.done (.ret (.ref (h.objs.size + 1)))) s' | .ok _ => False | .error e => E e s')
      ⟨(h.push (W.kdv_tup [])).push (excO C h.objs.size), g, d, t, os⟩) :
    wpAny (model prog w) A (Builtin.«type.__call__» ⟨[.ref C], [(kn, ku)]⟩) Q E ⟨h, g, d, t, os⟩ := by
  repeat (first | with_reducible refine wpAny_loadPart_at hC ?_ | with_reducible refine wpAny_madeBy_exc hC ?_ | wp_step)
  refine codeAny_call_builtin_code (Code.quiet_builtin _ F.quiet) (bk_check_new F hT hC ?_)
  refine bk_new F hT hC ?_
  show wpAny _ _ _ _ _ _
  have k : ∀ b o, h.get? b = some o → ((h.push (W.kdv_tup [])).push (excO C h.objs.size)).get? b = some o := fun b o e => Heap.get?_push_of_some _ (Heap.get?_push_of_some _ e)
  have hC₁ := k _ _ hC
  have hget : ((h.push (W.kdv_tup [])).push (excO C h.objs.size)).get? (h.objs.size + 1) = some (excO C h.objs.size) := by heap_get
  have hcC : (Value.ref C :: bm).contains (.ref C) = true := by simp
  have i1 := hi.keeps k
  have b1 := (hb (.ref (h.objs.size + 1))).keeps k
  unfold isInstance
  repeat (first | with_reducible refine wpAny_loadPart_at hget ?_ | (with_reducible refine wpAny_isSubtype_exc hC₁ ?_; rw [hcC]) | wp_step)
  show wpAny _ _ (typeLookup (.ref C) _) _ _ _
  refine i1.at ?_
  refine wpAny_holding (wpAny_bind (b1.at ?_))
  refine wpAny_bind (wpAny_call (codeAny_mono hq fun r s' z => ?_))
  rcases r with e | (v | _ | _ | _) <;> first | exact z | exact z.elim | skip
  obtain ⟨rfl, z⟩ := z
  first
    | exact wpAny_pure (wpAny_pure z)
    | (wp_walk; exact z)
theorem bk_call_own (F : ExcBaseFacts B newId initId bmB) (hT : ∀ X : String, bm.contains (.type X) = bmB.contains (.type X)) {kn : Str} {ku : Value} {fI : Addr}
    (hC : h.get? C = some (excClassObj nm q C N bs bm hdct sn sub ab col dd k0 k1 k2 k3 k5 newId))
    (hi : W.Looks (model prog w) h (typeLookup (.ref C) "__init__") (some (.ref fI))) (hb : ∀ self, W.Looks (model prog w) h (bindSpecial (.ref fI) self) (.ref fI, [self]))
    (hq : codeAny (model prog w) (A.under (.builtin "type.__call__" ⟨[.ref C], [(kn, ku)]⟩)) (.call (.ref fI) ⟨[.ref (h.objs.size + 1)], [(kn, ku)]⟩) (W.InitBack (h.objs.size + 1) R)
      ⟨(h.push (W.kdv_tup [])).push (excO C h.objs.size), g, d, t, os⟩) :
    codeAny (model prog w) A (.call (.ref C) ⟨[], [(kn, ku)]⟩) R ⟨h, g, d, t, os⟩ := by
  have f1 := tc_lookup
  have f2 := tc_bind (.ref C)
  have hTy : (⟨h, g, d, t, os⟩ : Shared).TypeIs (.ref C) "type" := ⟨_, hC, rfl⟩
  refine codeAny_of_tree ?_
  show wpAny _ _ (callAny (.ref C) _) _ _ _
  repeat (any_goals (first | assumption | with_reducible refine wpAny_loadPart_at hC ?_ | wp_step))
  refine ⟨rfl, ?_⟩
  refine codeAny_call_builtin_at (Code.quiet_builtin _ (by decide +kernel)) entry_typeCall (wpAny_check_type_call_sub hC (bk_type_call F hT hC hi hb ?_))
  refine codeAny_mono hq fun r s' z => ?_
  rcases r with e | (v | _ | _ | _) <;> exact z
end
end HandSPX
end PySem

namespace PySem.W
open PySem PySem.Spec PySem.Calls PyProof.Rows
section
variable {prog : Program} {w : World} {A : Around} {E : Value → Shared → Prop} {s : Shared} {K : Frag} {x D : Addr} {ox : Obj} {od : Option Obj}
theorem bk_kin_class {Q : Option Value → Shared → Prop} (hga : findIn K (.ref D) "__getattribute__" = some (some (.builtin "BaseException.__getattribute__"))) (hgt : findIn K (.ref D) "__getattr__" = some none) (hsub : subIn K (.ref D) (.type "BaseException") = some true)
    (hf : findObj K D od "__class__" = some (.bind (.builtin "getset_descriptor.__get__") (.builtin "object.__class__"))) (hm : mroIn K D (.type "object") = some true)
    (X : K.In s.heap) (I : InstAt s.heap x ox D od) (h : Q (some (.ref D)) { s with toks := s.toks + 1 }) : wpAny (model prog w) A (getAttr? (.ref x) "__class__") Q E s := by
  obtain ⟨hp, g, d, t, os⟩ := s
  have L0 := I.type (M := model prog w)
  have L1 := looks_findIn (M := model prog w) X hga
  have L2 := looks_findIn (M := model prog w) X hgt
  have L3 := looks_find (M := model prog w) X I hf
  have sub : Looks (model prog w) hp (isInstance (.ref x) (.type "BaseException")) true := L0.andThen (looks_subIn X hsub)
  have hx0 : (false && onTheHeap (Value.builtin "BaseException.__getattribute__")) = false := rfl
  have hx2 : (Value.builtin "BaseException.__getattribute__" == Value.builtin "object.__getattribute__") = false := by decide +kernel
  have hx1 : (onTheHeap (Value.ref D) && Value.builtin "BaseException.__getattribute__" == Value.builtin "object.__getattribute__") = false := by rw [hx2]; rfl
  unfold getAttr? getAttrBy? getAttrBy
  refine wpAny_bind (wpAny_mkText (wpAny_bind (wpAny_attempt (wpAny_holding (wpAny_bind (L0.at (wpAny_bind (L1.at ?_))))))))
  show wpAny _ _ (if (onTheHeap (Value.ref D) && Value.builtin "BaseException.__getattribute__" == Value.builtin "object.__getattribute__") = true then _ else _) _ _ _
  rw [hx1, if_neg Bool.false_ne_true]
  unfold getAttrByItsOwn hookBefore
  refine wpAny_bind ?_
  rw [if_pos (show onTheHeap (Value.ref D) = true from rfl)]
  refine L2.at ?_
  refine wpAny_bind (wpAny_attempt (wpAny_holding ?_))
  unfold callGetattribute
  rw [hx0, if_neg Bool.false_ne_true]
  unfold boundAndCalled
  rw [PySem.F.excAttr_ValueError.ga.bind (.ref x)]
  refine wpAny_bind (wpAny_pure ?_)
  show wpAny _ _ (call (.builtin "BaseException.__getattribute__") [.ref x, .str "__class__" t]) _ _ _
  refine wpAny_call (codeAny_call_builtin PySem.F.excAttr_ValueError.ga.plain PySem.F.entry_bexc_ga ?_)
  refine @check_slot (model prog w) _ _ ⟨hp, g, d, t + 1, os⟩ "BaseException.__getattribute__" "BaseException" "__getattribute__" (.ref x) [.str "__class__" t] [] _ (by decide +kernel) (by decide +kernel) sub (PySem.F.args_bexc_ga (.ref x) (.str "__class__" t)) ?_
  unfold Builtin.«object.__getattribute__»
  refine wpAny_bind (wpAny_of_eq (a := ((Value.ref x : Value), [Value.str "__class__" t])) (by first | rfl | (simp only [slotArgs]; rfl)) ?_)
  refine wpAny_bind (wpAny_pure (wpAny_bind (L0.at (wpAny_bind (L3.at ?_)))))
  show wpAny _ _ (holding [Value.builtin "object.__class__"] (call (.builtin "getset_descriptor.__get__") [.builtin "object.__class__", .ref x, .ref D]) >>= ret) _ _ _
  refine wpAny_bind (wpAny_holding (wpAny_call (class_get (s := ⟨hp, g, d, t + 1, os⟩) (ox := ox) (od := od) X I hm ?_)))
  refine wpAny_pure ?_
  show wpAny _ _ (handedOut (.ref D)) _ _ _
  rw [handedOut_of (v := .ref D) rfl]
  first
    | exact wpAny_pure (wpAny_pure h)
    | exact wpAny_pure h
    | exact wpAny_pure (wpAny_bind (wpAny_pure (wpAny_pure h)))
theorem bk_kitx_exc (hga : findIn K (.ref D) "__getattribute__" = some (some (.builtin "BaseException.__getattribute__"))) (hgt : findIn K (.ref D) "__getattr__" = some none) (hsub : subIn K (.ref D) (.type "BaseException") = some true) (hdct : hasDictIn K D = true)
    (hf : findObj K D od "__class__" = some (.bind (.builtin "getset_descriptor.__get__") (.builtin "object.__class__"))) (hm : mroIn K D (.type "object") = some true) :
    KitX K (.ref x) (.ref D) (fun h => InstAt h x ox D od) where
  ty := fun _ _ _ I => I.type
  it := fun _ _ X _ => by
    obtain ⟨cdD, hcD, _⟩ := any_some hdct
    unfold clsIn at hcD
    split at hcD
    · rename_i c' d' cd' sl' ho
      intro A' Q' E' s' k q
      unfold isType loadHead
      exact wpAny_bind (wpAny_loadPart (k _ _ (X _ _ ho)) (wpAny_pure q))
    · cases hcD
  ne := fun h tp dd its n sl X htp => by
    obtain ⟨cdD, hcD, _⟩ := any_some hdct
    refine Bool.eq_false_iff.mpr fun q => ?_
    have e : D = tp := Value.ref.inj (beq_iff_eq.mp q)
    subst e
    unfold clsIn at hcD
    split at hcD
    · rename_i c' d' cd' sl' ho
      have z := (X _ _ ho).symm.trans htp
      cases z
    · cases hcD
  ca := fun X I k => bk_kin_class hga hgt hsub hf hm X I k
end
end PySem.W
namespace Bk
open PySem PySem.Spec PyProof.Rows L2
/-! ### making: by place, by keyword, of nothing -/
/-- C(e, ..) as a value, C's own __init__ keeping sp -/
def tOexV (C : Addr) (sp : Sp) (ta : TA) : TE := fun σ H Q => ta σ H fun vs H1 => vs.length ≤ 1000 ∧ ∀ a, H1 a = none → sp (.ref a :: vs) (upd H1 a (exo a C none)) (fun v H2 => v = .non ∧ Q (.ref a) H2) (fun _ _ _ => False)
/-- C(k = e) as a value -/
def tOexK (C : Addr) (sp : Sp) (tk : TA) : TE := fun σ H Q => tk σ H fun zs H1 => zs.length = 1 ∧ ∀ a, H1 a = none → sp (.ref a :: zs) (upd H1 a (exo a C none)) (fun v H2 => v = .non ∧ Q (.ref a) H2) (fun _ _ _ => False)
section
variable {X : Cx} {CX : CXT} {x : Str} {C fI : Addr} {k : Nat} {fd : FuncData} {ps : List Str} {sp : Sp} {e : Expr} {es : List Expr} {ta tk : TA} {kws : List Keyword} {p pos : Pos} {kn : Str}
theorem pe_oexV (T : OexC X.K C) (iC : PySem.W.findIn X.K (.ref C) "__init__" = some (some (.ref fI))) (tI : PySem.W.typeIn X.K (.ref fI) = some (.type "function"))
    (F1 : FnOk X.prog X.w X.K X.mg X.base CX k fI fd ps sp) (hr : Room (k + 1) X.A) (hb : Binds X.K fd ps []) (hx : Passes CX X (fun _ _ _ => False)) (hg : Gl X x) (hm : X.mg x = some (.ref C)) (ha : PA X (e :: es) ta)
    (hdb : (x == ("__debug__" : Str)) = false := by decide) (he : starEach (e :: es) X.env = (false, eval e X.env) :: starEach es X.env := by rfl) (hpl : (backTo pos (starEach es X.env)).any (·.1) = false := by rfl) :
    PE X (.Call (.Name x p) (e :: es) [] pos) (tOexV C sp ta) := by
  refine ⟨fun pins s σ H Q I h => ?_⟩
  obtain ⟨nm, q, N, bs, bm, sn, sub, ab, col, dd, k0, k1, k2, k3, k5, hC, hbm⟩ := T.cls
  refine wpAny_Call_Name_kw (ld_glob I hg hm ?_ hdb)
  refine PySem.W.callWith_K (h₀ := X.base) I.ok.mod.kin T.kC (thn (ha.run pos pins s σ H _ I h) fun us s1 ⟨vs, H1, I1, r1, hz, q1⟩ => ⟨I1.kIn, ?_⟩) he hpl
  show wpAny _ _ (call (.ref C) us) _ _ _
  obtain ⟨hp, g, dr, tk, os⟩ := s1
  have hsz : hp.objs.size ≤ hp.objs.size + 1 := Nat.le_succ _
  have hn : H1 (hp.objs.size + 1) = none := I1.hok.fresh hsz
  have hq := q1 (hp.objs.size + 1) hn
  have kk : ∀ b o, hp.get? b = some o → ((hp.push (PySem.W.kdv_tup us)).push (PySem.HandSPX.excO C hp.objs.size)).get? b = some o := fun b o e => Heap.get?_push_of_some _ (Heap.get?_push_of_some _ e)
  have hget : ((hp.push (PySem.W.kdv_tup us)).push (PySem.HandSPX.excO C hp.objs.size)).get? (hp.objs.size + 1) = some (PySem.HandSPX.excO C hp.objs.size) := by heap_get
  have I2 : Inv X pins σ (upd H1 (hp.objs.size + 1) (exo (hp.objs.size + 1) C none)) ⟨(hp.push (PySem.W.kdv_tup us)).push (PySem.HandSPX.excO C hp.objs.size), g, dr, tk, os⟩ :=
    I1.laid (t' := tk) (a := hp.objs.size + 1) (o := exo (hp.objs.size + 1) C none) (h' := (hp.push (PySem.W.kdv_tup us)).push (PySem.HandSPX.excO C hp.objs.size)) kk hsz (exo_ok hget)
  have r2 : Vals (V.ref (hp.objs.size + 1) :: vs) (Value.ref (hp.objs.size + 1) :: us) := .cons rfl r1
  have hl : (Value.ref (hp.objs.size + 1) :: us ++ []).length = ps.length := by
    rw [List.append_nil]
    have e := r2.length
    rw [F1.len _ _ _ _ hq] at e
    exact e.symm
  have hus : us.length ≤ sizeLine := by
    rw [← Paired.length r1, sizeLine_eq]
    omega
  refine wpAny_call (PySem.HandSPX.call_own F.excBase_ValueError (fun Y => PySem.HandSPX.refsVE_contains Y bm hbm) (I1.kIn _ _ hC) (PySem.W.looks_findIn I1.kIn iC) (fun self => PySem.W.bind_fn I1.kIn self tI) hus
    (codeAny_mono (F1.run _ X.stack _ _ ⟨Value.ref (hp.objs.size + 1) :: us, []⟩ (Value.ref (hp.objs.size + 1) :: us) _ _ (fun _ _ _ => False) (hr.make C us []) (I2.env0.make C us []) (by have z := hb _ (Value.ref (hp.objs.size + 1) :: us) I2.kIn hl; rw [List.append_nil] at z; exact z) r2 hq) fun r s' hq' => ?_))
  cases r with
  | error er => exact hx pins σ _ _ er s' I2 hq'
  | ok fl =>
    cases fl with
    | ret u =>
      obtain ⟨v, H2, I3, rv, ev, q3⟩ := I2.after hq'
      subst ev
      exact ⟨rv, ⟨V.ref (hp.objs.size + 1), H2, I3, rfl, q3⟩⟩
    | next => exact False.elim hq'
    | brk => exact False.elim hq'
    | cont => exact False.elim hq'
theorem pe_oexK (T : OexC X.K C) (iC : PySem.W.findIn X.K (.ref C) "__init__" = some (some (.ref fI))) (tI : PySem.W.typeIn X.K (.ref fI) = some (.type "function"))
    (F1 : FnOk X.prog X.w X.K X.mg X.base CX k fI fd ps sp) (hr : Room (k + 1) X.A) (hb : ∀ (s : Shared) (a v : Value), X.K.In s.heap → BindsTo s fd ⟨[a], [(kn, v)]⟩ (ps.zip [a, v])) (hx : Passes CX X (fun _ _ _ => False)) (hg : Gl X x) (hm : X.mg x = some (.ref C)) (hkw : PK X kws tk)
    (hall : (backToKw pos (keywordEach kws X.env)).all (·.1.isSome) = true := by rfl) (hks : (backToKw pos (keywordEach kws X.env)).filterMap (·.1) = [kn] := by rfl) (hdb : (x == ("__debug__" : Str)) = false := by decide)
    (hpl : ((backTo pos (starEach [] X.env)).any (·.1) || (backToKw pos (keywordEach kws X.env)).any (·.1.isNone)) = false := by rfl) :
    PE X (.Call (.Name x p) [] kws pos) (tOexK C sp tk) := by
  refine ⟨fun pins s σ H Q I h => ?_⟩
  obtain ⟨nm, q, N, bs, bm, sn, sub, ab, col, dd, k0, k1, k2, k3, k5, hC, hbm⟩ := T.cls
  refine wpAny_Call_Name_kw (ld_glob I hg hm ?_ hdb)
  refine PySem.W.callWith_KW0 (h₀ := X.base) I.ok.mod.kin T.kC hall ?_ hpl
  refine thn (hkw.run pos pins s σ H _ I h) fun us s1 ⟨zs, H1, I1, r1, hz, q1⟩ => ⟨I1.kIn, ?_⟩
  rw [hks]
  cases r1 with
  | nil => cases hz
  | @cons z0 u0 zr ur rz rr =>
  cases rr with
  | cons _ _ => cases hz
  | nil =>
  show wpAny _ _ (call (.ref C) [] [(kn, u0)]) _ _ _
  obtain ⟨hp, g, dr, tk, os⟩ := s1
  have hsz : hp.objs.size ≤ hp.objs.size + 1 := Nat.le_succ _
  have hn : H1 (hp.objs.size + 1) = none := I1.hok.fresh hsz
  have hq := q1 (hp.objs.size + 1) hn
  have kk : ∀ b o, hp.get? b = some o → ((hp.push (PySem.W.kdv_tup [])).push (PySem.HandSPX.excO C hp.objs.size)).get? b = some o := fun b o e => Heap.get?_push_of_some _ (Heap.get?_push_of_some _ e)
  have hget : ((hp.push (PySem.W.kdv_tup [])).push (PySem.HandSPX.excO C hp.objs.size)).get? (hp.objs.size + 1) = some (PySem.HandSPX.excO C hp.objs.size) := by heap_get
  have I2 : Inv X pins σ (upd H1 (hp.objs.size + 1) (exo (hp.objs.size + 1) C none)) ⟨(hp.push (PySem.W.kdv_tup [])).push (PySem.HandSPX.excO C hp.objs.size), g, dr, tk, os⟩ :=
    I1.laid (t' := tk) (a := hp.objs.size + 1) (o := exo (hp.objs.size + 1) C none) (h' := (hp.push (PySem.W.kdv_tup [])).push (PySem.HandSPX.excO C hp.objs.size)) kk hsz (exo_ok hget)
  have r2 : Vals [V.ref (hp.objs.size + 1), z0] [Value.ref (hp.objs.size + 1), u0] := .cons rfl (.cons rz .nil)
  refine wpAny_call (PySem.HandSPX.bk_call_own F.excBase_ValueError (fun Y => PySem.HandSPX.refsVE_contains Y bm hbm) (I1.kIn _ _ hC) (PySem.W.looks_findIn I1.kIn iC) (fun self => PySem.W.bind_fn I1.kIn self tI)
    (codeAny_mono (F1.run _ X.stack _ _ ⟨[Value.ref (hp.objs.size + 1)], [(kn, u0)]⟩ [Value.ref (hp.objs.size + 1), u0] _ _ (fun _ _ _ => False) (hr.make C [] [(kn, u0)]) (I2.env0.make C [] [(kn, u0)]) (hb _ _ _ I2.kIn) r2 hq) fun r s' hq' => ?_))
  cases r with
  | error er => exact hx pins σ _ _ er s' I2 hq'
  | ok fl =>
    cases fl with
    | ret u =>
      obtain ⟨v, H2, I3, rv, ev, q3⟩ := I2.after hq'
      subst ev
      exact ⟨rv, ⟨V.ref (hp.objs.size + 1), H2, I3, rfl, q3⟩⟩
    | next => exact False.elim hq'
    | brk => exact False.elim hq'
    | cont => exact False.elim hq'
/-- C(), an own exception class without an own __init__ -/
theorem pe_exc0 {bmB : List Value} {B newId initId : String} (F : ExcBaseFacts B newId initId bmB) (q : PySem.W.excIn X.K C bmB newId = true) (gC : X.mg x = some (.ref C)) (kC : PySem.W.keepIn X.K (.ref C) = true) (hg : Gl X x)
    (hdb : (x == ("__debug__" : Str)) = false := by decide) :
    PE X (.Call (.Name x p) [] [] pos) (fun σ H Q => ∀ a, H a = none → Q (.ref a) (upd H a (ExO (.ref C) a))) := by
  refine ⟨fun pins s σ H Q I h => ?_⟩
  refine wpAny_Call_Name_kw (ld_glob I hg gC ?_ hdb)
  refine PySem.W.callWith_K0 I.kIn kC ?_
  show wpAny _ _ (call (.ref C) []) _ _ _
  obtain ⟨bm, N, nm, qn, bs, hdct, sn, sub, ab, col, dd, k0, k1, k2, k3, k5, mN, hC, hN, hni, T⟩ := exc_obj I.kIn q
  refine wpAny_call_exc_subT F T hC hN hni (fun h' a hm => ?_) (Nat.zero_le _)
  have hn : H a = none := I.hok.gone hm.new
  obtain ⟨t, ht, _, _⟩ := hm.there
  exact ⟨.ref a, upd H a (ExO (.ref C) a), I.laidN hm.keeps hm.new hn (exO_ok ht ⟨rfl, rfl⟩ rfl rfl rfl (show 4 < 6 by decide)), rfl, h a hn⟩
end
/-! ### an exception that stands -/
/-- at a stands an exception of the class at C -/
def ExV (H : Hp) (a C : Addr) : Prop := H a = some (exo a C none) ∨ (∃ d fs, H a = some (exo a C (some d)) ∧ H d = some (exd d fs)) ∨ H a = some (ExO (.ref C) a)
theorem ExV.same {H H' : Hp} {a C : Addr} (x : ExV H a C) (e : ∀ b o, H b = some o → H' b = some o) : ExV H' a C := by
  rcases x with x | ⟨d, fs, x, y⟩ | x
  · exact .inl (e _ _ x)
  · exact .inr (.inl ⟨d, fs, e _ _ x, e _ _ y⟩)
  · exact .inr (.inr (e _ _ x))
theorem ExV.inst {P : Program} {w : World} {H : Hp} {h : Heap} {a C : Addr} (x : ExV H a C) (ok : HOk P w H h) : ∃ ox od, PySem.W.InstAt h a ox C od := by
  rcases x with x | ⟨d, fs, x, y⟩ | x
  · obtain ⟨t1, ho⟩ := exo_at ok x
    exact ⟨_, none, ho, rfl, rfl, trivial⟩
  · obtain ⟨t1, ho⟩ := exo_at ok x
    obtain ⟨mA, hn, _⟩ := exd_at ok y
    obtain ⟨od, hd, _⟩ := lookIn_ns hn
    exact ⟨_, some od, ho, rfl, rfl, hd⟩
  · obtain ⟨⟨oe, vs, ho, hz, hv, _⟩, _, _⟩ := (show ObjOk P w H h a (.ext fun h => ∃ (oe : Obj) (vs : Array Value), h.get? a = some oe ∧ Zc (.ref C) none oe ∧ oe.data = .fields vs ∧ vs[1]? = some .none ∧ vs[2]? = some .none ∧ 4 < vs.size) from ok a _ x)
    obtain ⟨oc, o1, o2, osl⟩ := oe
    obtain ⟨h1, h2⟩ := hz
    dsimp only at h1 h2 hv
    subst h1 h2 hv
    exact ⟨_, none, ho, rfl, rfl, trivial⟩
/-- isinstance(e, c), e such an exception -/
def rIsX (K : PySem.W.Frag) : List V → Hp → VK → Prop := fun xs H Q => ∃ (a C : Addr) (c : V) (u : Value) (b : Bool), xs = [.ref a, c] ∧ ExV H a C ∧ ExcC K C ∧ ClsV c u ∧ PySem.W.kitOne K (.ref C) u = some b ∧ Q (.bl b) H
theorem call_isX {X : Cx} {K : PySem.W.Frag} (eK : X.K = K) : CallR X (.builtin "isinstance") (rIsX K) := by
  subst eK
  intro pins s σ H xs us Q I r h
  obtain ⟨a, C, c, u, b, rfl, at_, T, k, e, q⟩ := h
  obtain ⟨u1, u2, rfl, r1, r2⟩ := vals2 r
  have e2 := k.eq r2
  subst e2
  cases (show u1 = Value.ref a from r1)
  obtain ⟨ox, od, J⟩ := at_.inst I.hok
  have hcl : (PySem.W.clsIn X.K C).isSome = true := by obtain ⟨cd, hc, _⟩ := PySem.W.any_some T.hd; rw [hc]; rfl
  have hf : PySem.W.findObj X.K C od "__class__" = some (.bind (.builtin "getset_descriptor.__get__") (.builtin "object.__class__")) := by
    cases od with
    | none => exact PySem.W.findObj_dataN hcl T.ha T.hn T.ht
    | some od => exact PySem.W.findObj_data hcl T.ha T.hn T.ht
  exact PySem.W.kia_one (PySem.W.bk_kitx_exc T.hg T.hk T.hs T.hd hf T.hm) I.kIn J e (fun z => nomatch z) fun tk => ⟨.bl b, H, I.tok tk, rfl, q⟩
/-- e.f, e such an exception, f set by its own __init__ -/
def tXfV (K : PySem.W.Frag) (f : Str) (te : TE) : TE := fun σ H Q => te σ H fun x H1 => ∃ (a C d : Addr) (fs : List (Str × V)) (v : V), x = .ref a ∧ H1 a = some (exo a C (some d)) ∧ H1 d = some (exd d fs) ∧ XfC K C ∧ PySem.W.findIn K (.ref C) f = some none ∧ fs.lookup f = some v ∧ Q v H1
theorem pe_xfV {X : Cx} {K : PySem.W.Frag} {e : Expr} {te : TE} {pos : Pos} {n : Str} (eK : X.K = K) (he : PE X e te) (hb : attributeBase e n X.env (eval e X.env) = eval e X.env := by rfl) : PE X (.Attribute e n pos) (tXfV K n te) := by
  subst eK
  refine ⟨fun pins s σ H Q I h => ?_⟩
  refine attr_of hb (thn (he.run pins s σ H _ I h) fun u s1 hh => ?_)
  obtain ⟨x, H1, I1, rx, a, C, d, fs, v, ex, ea, ed, T, hno, l, q⟩ := hh
  subst ex
  obtain rfl : u = Value.ref a := rx
  obtain ⟨t1, ho⟩ := exo_at I1.hok ea
  obtain ⟨mA, hns, hr⟩ := exd_at I1.hok ed
  obtain ⟨od, hod, hl⟩ := lookIn_ns hns
  obtain ⟨u, hu, ru⟩ := RelO.some_of (v := v) (o := mA n) (by rw [← l]; exact hr n)
  have J : PySem.W.InstAt s1.heap a ({ cls := .ref C, dict := some d, data := .fields #[.ref t1, .none, .none, .none, .bool false, .none] } : Obj) C (some od) := ⟨ho, rfl, rfl, hod⟩
  exact HandSPX.exc_get I1.kIn J T.ga T.gg T.exC (PySem.W.findObj_own T.hdC hno rfl (by rw [hl, hu])) (handed_of ru) ⟨v, H1, I1.tok _, ru, q⟩
end Bk

/-! a lambda that captures nothing, kept as a value and called later -/
namespace Bk
open PySem PySem.Spec PyProof.Rows L2 LamX NdefX
/-- all but the tables stay, and nothing that was tracked is gone -/
structure ExtM (H H' : Hp) : Prop where
  ext : ExtN H H'
  non : ∀ b, H' b = none → H b = none
theorem ExtM.trans {H H1 H2 : Hp} (a : ExtM H H1) (b : ExtM H1 H2) : ExtM H H2 := ⟨a.ext.trans b.ext, fun c e => a.non c (b.non c e)⟩
theorem ExtM.of {H H' : Hp} (e : ∀ b o, H b = some o → H' b = some o) : ExtM H H' := ⟨ExtN.of e, fun b n => by
  cases q : H b with
  | none => rfl
  | some o => rw [e b o q] at n; cases n⟩
theorem ExtM.grow {H H' : Hp} {D : Addr} {o : HO} (a : ExtM H H') (n : H D = none) : ExtM H (upd H' D o) := ⟨fun b u hb k => by
  rw [upd_ne (ne_of_none hb n)]
  exact a.ext b u hb k, fun b e => a.non b (upd_none e)⟩
/-- its words, its code object -/
structure LF where
  qual : Str
  params : Arguments
  body : Expr
  scope : Scope
  cl : List (Str × Addr)
  c : Addr
/-- the object at f is this lambda -/
def LamO (f : Addr) (F : LF) : HO := .ext fun h => ∃ pm ctv : Value, h.get? f = some (PySem.W.kla_obj "<lambda>" F.qual F.params F.body F.scope F.cl pm F.c ctv)
/-- as a nested def without a body: for the context -/
def LF.nf (F : LF) : NF := ⟨"<lambda>", F.qual, F.params, [], F.scope, F.cl, F.c⟩
theorem lamO_ne {f : Addr} {F : LF} (ps : Array Value) : LamO f F ≠ .tbl ps := fun z => by
  unfold LamO at z
  cases z
theorem lamO_at {P : Program} {w : World} {H : Hp} {h : Heap} {f : Addr} {F : LF} (hok : HOk P w H h) (e : H f = some (LamO f F)) : ∃ pm ctv : Value, h.get? f = some (PySem.W.kla_obj "<lambda>" F.qual F.params F.body F.scope F.cl pm F.c ctv) := by
  obtain ⟨z, _, _⟩ := hok f _ e
  exact z
section
variable {X : Cx} {pins : List (Addr × Obj)} {σ : L2.St} {H : Hp} {s : Shared}
theorem inv_lam {F : LF} {o : Obj} {t' : Nat} {pm ctv : Value} (I : Inv X pins σ H s) (ho : o = PySem.W.kla_obj "<lambda>" F.qual F.params F.body F.scope F.cl pm F.c ctv) :
    Inv X pins σ (upd H s.heap.objs.size (LamO s.heap.objs.size F)) { s with heap := s.heap.push o, toks := t' } := by
  subst ho
  refine I.laid (a := s.heap.objs.size) (fun b u e => Heap.get?_push_of_some _ e) (Nat.le_refl _) ?_
  have e : (s.heap.push (PySem.W.kla_obj "<lambda>" F.qual F.params F.body F.scope F.cl pm F.c ctv)).get? s.heap.objs.size = some (PySem.W.kla_obj "<lambda>" F.qual F.params F.body F.scope F.cl pm F.c ctv) := Heap.get?_push_size _ rfl
  exact ⟨⟨pm, ctv, e⟩, ⟨_, e⟩, fun h1 h2 ⟨p, t, z⟩ st => ⟨p, t, st _ z⟩⟩
/-- the lambda is made: its code object is new, or found in the table -/
theorem lam_make3 {T : List (Addr × Str)} {c P : Addr} {params : Arguments} {body : Expr} {scope : Scope} {pos : Pos} {E : Value → Shared → Prop} {Q : Value → Shared → Prop} (I : Inv X pins σ H s) (TB : TabB X.base X.mg c P) (hcode : X.env.code = .ref c)
    (hm : (P, X.env.qual ++ "<lambda>") ∈ T) (hu : ∀ p ∈ T, p.1 = P → p.2 = X.env.qual ++ "<lambda>") (hT : Tabs T H) (hdef : defaultsOf params X.env = ([], [])) (hfree : ∀ y ∈ scope.names, y.2 = .free → ∃ c, X.env.cells.lookup y.1 = some c)
    (h : ∀ (f c' : Addr) (H1 : Hp) (s' : Shared), Inv X pins σ H1 s' → ExtM H H1 → Tabs T H1 → H f = none → H1 f = some (LamO f ⟨X.env.qual ++ "<lambda>", params, body, scope, cloFrom X.env.cells scope.names [], c'⟩) → H1 c' = some (CodeO c' (X.env.qual ++ "<lambda>")) → Q (.ref f) s') :
    wpAny (model X.prog X.w) X.A (eval (.Lambda params body scope pos) X.env) Q E s := by
  obtain ⟨ps, hP, ht, ha⟩ := hT _ hm
  refine PySem.W.kla_eval hdef ?_
  have bP : s.heap.BuiltinsAt X.mg P := TB.bm.keeps I.bk
  have hP' : s.heap.get? P = some { cls := .none, data := .fields ps } := I.hok P _ hP
  cases hc : codeAmong pos ps.toList with
  | none =>
    refine PySem.W.kla_makeFunction (mg := X.mg) (c := c) (P := P) (ps := ps) (closure_ok hfree) I.ok.glob (I.mod.glob.keeps I.bk) hcode (TB.code.keeps I.bk) hP' ht hc TB.gP bP fun c' ctv h' tk hx hge hlt hrec htb => ?_
    obtain ⟨c2, oc, vs, t, e2, hoc, hd, hv⟩ := hrec
    cases e2
    have nC : H c' = none := I.hok.fresh hge
    have I1 := inv_table (t' := tk) (more := #[rawInt pos.line, rawInt pos.col, .ref c']) (h' := h') I hP (fun b o hb e => hx b o hb e) htb hge ⟨oc, vs, t, hoc, hd, hv⟩
    have hE : ExtN H (upd (upd H P (.tbl (ps ++ #[rawInt pos.line, rawInt pos.col, .ref c']))) c' (CodeO c' (X.env.qual ++ "<lambda>"))) := fun b o e n => by
      rw [upd_ne (ne_of_none e nC), upd_ne (fun z => n ps (Option.some.inj (e.symm.trans (by rw [z]; exact hP))))]
      exact e
    have eL : (ps ++ #[rawInt pos.line, rawInt pos.col, .ref c']).toList = ps.toList ++ [rawInt pos.line, rawInt pos.col, .ref c'] := by simp
    have T1 : Tabs T (upd (upd H P (.tbl (ps ++ #[rawInt pos.line, rawInt pos.col, .ref c']))) c' (CodeO c' (X.env.qual ++ "<lambda>"))) := fun p hp => by
      by_cases hb : p.1 = P
      · rw [hu p hp hb, hb]
        refine ⟨_, by rw [upd_ne (ne_of_none hP nC), upd_same], by rw [eL]; exact PySem.TriplesOk_snoc _ _ _ _ ht, fun p' cv hcv => ?_⟩
        rw [eL] at hcv
        rcases among_app _ ht hcv with z | z
        · obtain ⟨c0, e1, e2⟩ := ha p' cv z
          exact ⟨c0, e1, hE _ _ e2 codeO_ne⟩
        · exact ⟨c', z, upd_same⟩
      · obtain ⟨ps', a1, a2, a3⟩ := hT p hp
        refine ⟨ps', by rw [upd_ne (ne_of_none a1 nC), upd_ne hb]; exact a1, a2, fun p' cv hcv => ?_⟩
        obtain ⟨c0, e1, e2⟩ := a3 p' cv hcv
        exact ⟨c0, e1, hE _ _ e2 codeO_ne⟩
    have nF := I1.hok.fresh (Nat.le_refl _)
    have I2 := inv_lam (F := ⟨X.env.qual ++ "<lambda>", params, body, scope, cloFrom X.env.cells scope.names [], c'⟩) (t' := tk) (pm := (X.mg "__name__").getD .none) (ctv := ctv) I1 rfl
    refine h h'.objs.size c' _ _ I2 ⟨fun b o e n => ?_, fun b e => upd_none (upd_none (upd_none e))⟩ (T1.ext fun b o e => ?_) (I.hok.fresh (Nat.le_trans hge (Nat.le_of_lt hlt))) upd_same ?_
    · have e1 := hE b o e n
      exact (upd_ne (ne_of_none e1 nF)).trans e1
    · exact (upd_ne (ne_of_none e nF)).trans e
    · exact (upd_ne (Nat.ne_of_lt hlt)).trans upd_same
  | some cv =>
    obtain ⟨c', e, hco⟩ := ha pos cv hc
    subst e
    refine PySem.W.kla_makeFunctionHit (mg := X.mg) (c := c) (P := P) (ps := ps) (closure_ok hfree) I.ok.glob (I.mod.glob.keeps I.bk) hcode (TB.code.keeps I.bk) hP' ht hc bP fun ctv h' tk hx hsz => ?_
    have I1 : Inv X pins σ H { s with heap := h', toks := tk } := I.kept hx
    have nF : H h'.objs.size = none := I1.hok.fresh (Nat.le_refl _)
    have I2 := inv_lam (F := ⟨X.env.qual ++ "<lambda>", params, body, scope, cloFrom X.env.cells scope.names [], c'⟩) (t' := tk) (pm := (X.mg "__name__").getD .none) (ctv := ctv) I1 rfl
    refine h h'.objs.size c' _ _ I2 ⟨fun b o e n => ?_, fun b e => upd_none e⟩ (hT.ext fun b o e => ?_) nF upd_same ?_
    · exact (upd_ne (ne_of_none e nF)).trans e
    · exact (upd_ne (ne_of_none e nF)).trans e
    · exact (upd_ne (ne_of_none hco nF)).trans hco
/-- a lambda as a value -/
def tLamV (T : List (Addr × Str)) (mk : Addr → LF) : TE := fun σ H Q => Tabs T H ∧ ∀ (f c' : Addr) (H1 : Hp), ExtM H H1 → Tabs T H1 → H f = none → H1 f = some (LamO f (mk c')) → H1 c' = some (CodeO c' (mk c').qual) → Q (.ref f) H1
/-- no parameter's default, no captured name -/
structure LamN (scope : Scope) : Prop where
  free : ∀ y ∈ scope.names, y.2 ≠ .free
def lamNB (scope : Scope) : Bool := scope.names.all fun y => !decide (y.2 = .free)
theorem lamN_by {scope : Scope} (h : lamNB scope = true) : ∀ y ∈ scope.names, y.2 ≠ .free := by
  unfold lamNB at h
  simp only [Bool.not_eq_true', decide_eq_false_iff_not, List.all_eq_true] at h
  exact h
theorem clo_nil {cells : List (Str × Addr)} {names : List (Str × NameKind)} (h : ∀ y ∈ names, y.2 ≠ .free) : cloFrom cells names [] = [] := by
  cases e : cloFrom cells names [] with
  | nil => rfl
  | cons a r =>
    have m : a ∈ cloFrom cells names [] := by rw [e]; exact List.mem_cons_self
    rcases cloFrom_mem (n := a.1) (c := a.2) m with z | ⟨z, _⟩
    · cases z
    · exact absurd rfl (h _ z)
theorem pe_lam {T : List (Addr × Str)} {c P : Addr} {q : Str} {params : Arguments} {body : Expr} {scope : Scope} {pos : Pos} (eq : X.env.qual ++ "<lambda>" = q) (TB : TabB X.base X.mg c P) (hcode : X.env.code = .ref c) (hm : (P, q) ∈ T) (hu : ∀ p ∈ T, p.1 = P → p.2 = q)
    (hdef : defaultsOf params X.env = ([], []) := by rfl) (hn : lamNB scope = true := by decide +kernel) : PE X (.Lambda params body scope pos) (tLamV T fun c' => ⟨q, params, body, scope, [], c'⟩) := by
  subst eq
  refine ⟨fun pins s σ H Q I h => ?_⟩
  have hf := lamN_by hn
  refine lam_make3 I TB hcode hm hu h.1 hdef (fun y hy e => absurd e (hf y hy)) fun f c' H1 s' I1 e1 t1 n1 l1 c1 => ?_
  rw [clo_nil hf] at l1
  exact ⟨.ref f, H1, I1, rfl, h.2 f c' H1 e1 t1 n1 l1 c1⟩
end
/-! ### the call -/
structure LOk (P : Program) (w : World) (K : PySem.W.Frag) (mg : Str → Option Value) (base : Heap) (CX : CXT) (k : Nat) (f : Addr) (F : LF) (sp : Sp) : Prop where
  run : ∀ (A : Around) (outer : List Env) (s : Shared) (H : Hp) (us : List Value) (vs : List V) (Q : VK) (E : XK), Room k A → Env0 P w K mg base A outer s H → H f = some (LamO f F) → H F.c = some (CodeO F.c F.qual) →
    Vals vs us → sp vs H Q E → codeAny (model P w) A (.call (.ref f) ⟨us, []⟩) (CR CX outer P w H s Q E) s
section
variable {CX : CXT} {P : Program} {w : World} {K : PySem.W.Frag} {mg : Str → Option Value} {base : Heap} {N ps : List Str} {F : LF} {f : Addr} {k : Nat} {sp : Sp}
theorem lok_of (S : NScope N ps [] F.scope) (hcl : F.cl = []) (hb : ∀ (pm ctv : Value) (us : List Value), us.length = ps.length → bindArgs (PySem.W.kla_fn "<lambda>" F.qual F.params F.body F.scope F.cl pm (.ref F.c) ctv) ⟨us, []⟩ = pure (ps.zip us)) (len : ∀ vs H Q E, sp vs H Q E → vs.length = ps.length)
    (hbody : ∀ (A : Around) (outer : List Env) (s : Shared) (H : Hp) (vs : List V) (Q : VK) (E : XK), Room k (A.deeper (envF F.nf f s.heap.objs.size)) → sp vs H Q E → ∃ t, PE (ncx CX P w K mg base N F.nf f A outer s H E) F.body t ∧ t (startF N vs []) H Q) :
    LOk P w K mg base CX (k + 1) f F sp := by
  refine ⟨fun A outer s H us vs Q E hr e0 hf hc r hsp => ?_⟩
  have hl := len _ _ _ _ hsp
  have lim : s.heap.NoLimit := e0.mod.nolimit.keeps fun b o e => (e0.bs b o e).1
  obtain ⟨pm, ctv, ho⟩ := lamO_at e0.hok hf
  refine PySem.W.kla_callFunE hr.depth ho rfl S.co S.gen rfl (codeO_at e0.hok hc) ?_
  rw [hb pm ctv us (by rw [← r.length]; exact hl)]
  refine wpAny_pure (wpAny_newFunctionEnv S.nocell (fun ⟨n, _⟩ hy => S.par n (List.of_mem_zip hy).1) (fun h₁ hns hsb => ⟨lim.fresh _ hsb, ?_⟩) S.kind)
  show codeAny _ _ (.expr F.body (envF F.nf f s.heap.objs.size)) _ _
  have kp : ∀ b o, s.heap.get? b = some o → h₁.get? b = some o := fun b o e => hsb.extBut b o (Nat.ne_of_lt (Heap.lt_size e)) (Heap.get?_push_of_some _ e)
  obtain ⟨t, ht, hq⟩ := hbody A outer s H vs Q E (hr.deeper _) hsp
  have C : CellsAt F.nf.cl [] [] s.heap H := by
    refine ⟨rfl, fun y c e => ?_, fun x y c e1 e2 => ?_, fun i y e => ?_⟩
    · have e : F.cl.lookup y = some c := e
      rw [hcl] at e
      cases e
    · have e1 : F.cl.lookup x = some c := e1
      rw [hcl] at e1
      cases e1
    · simp at e
  have I : Inv (ncx CX P w K mg base N F.nf f A outer s H E) [] (startF N vs []) H { s with heap := h₁, toks := s.toks + (ps.zip us).length } := inv_startN (F := F.nf) (ps := ps) (fr := []) S hr.hd e0 hl r C hns kp
  refine PySem.W.kla_codeExpr (wpAny_mono (ht.run [] _ (startF N vs []) H Q I hq) (fun v s' hq => ?_) fun e s' hq => hq)
  obtain ⟨w', H', J', rv, q⟩ := hq
  exact ⟨w', H', J'.os, J'.bare, J'.base, J'.hok, rv, q⟩
end
/-- x(e, ..), x a local name that holds such a lambda -/
def tCallL (P : Program) (w : World) (K : PySem.W.Frag) (mg : Str → Option Value) (base : Heap) (CX : CXT) (k i : Nat) (E : XK) (t : TA) : TE := fun σ H Q => ∃ (f : Addr) (F0 : LF), σ[i]? = some (some (.ref f)) ∧ H f = some (LamO f F0) ∧
  t σ H fun vs H1 => ∃ (F : LF) (sp : Sp), H1 f = some (LamO f F) ∧ H1 F.c = some (CodeO F.c F.qual) ∧ LOk P w K mg base CX k f F sp ∧ sp vs H1 Q E
section
variable {X : Cx} {CX : CXT} {i j k : Nat} {x : Str} {E : XK} {t : TA} {e : Expr} {es : List Expr} {p pos : Pos}
theorem lamAt_of {pins : List (Addr × Obj)} {σ : L2.St} {H : Hp} {s : Shared} {f : Addr} {F : LF} (I : Inv X pins σ H s) (e : H f = some (LamO f F)) : PySem.W.FnAt f s.heap := by
  obtain ⟨pm, ctv, ho⟩ := lamO_at I.hok e
  exact ⟨_, none, _, #[], ho⟩
theorem pe_callL (hr : Room j X.A) (hk : k ≤ j) (hx : Passes CX X E) (hN : X.N[i]? = some x) (hv : Vis X.env.scope x) (ha : PA X (e :: es) t)
    (hd : (x == ("__debug__" : Str)) = false := by decide) (hcd : (x == ("__classdict__" : Str)) = false := by decide)
    (he : starEach (e :: es) X.env = (false, eval e X.env) :: starEach es X.env := by rfl) (hpl : (backTo pos (starEach es X.env)).any (·.1) = false := by rfl) :
    PE X (.Call (.Name x p) (e :: es) [] pos) (tCallL X.prog X.w X.K X.mg X.base CX k i E t) := by
  refine ⟨fun pins s σ H Q I h => ?_⟩
  obtain ⟨f, F0, hs, hf, ht⟩ := h
  refine wpAny_Call_Name_kw (thn ((pe_var (pos := p) hN hv hd hcd).run pins s σ H (fun v H1 => v = .ref f ∧ H1 = H) I ⟨.ref f, hs, rfl, rfl⟩) fun u s1 ⟨v, H1, I1, r1, q1⟩ => ?_)
  obtain ⟨ev, eH⟩ := q1
  subst ev
  rw [eH] at I1
  obtain rfl : u = Value.ref f := r1
  refine PySem.W.callWith_F (first := []) (lamAt_of I1 hf) (thn (ha.run pos pins s1 σ H _ I1 ht) fun us s2 ⟨vs, H2, I2, r, F, sp, h1, h2, L, q⟩ => ⟨lamAt_of I2 h1, ?_⟩) he hpl
  show wpAny _ _ (call (.ref f) us) _ _ _
  refine wpAny_call (codeAny_mono (L.run X.A X.stack s2 H2 us vs Q E (hr.mono hk) I2.env0 h1 h2 r q) fun r s' hq => ?_)
  cases r with
  | error e => exact hx pins σ H2 s2 e s' I2 hq
  | ok fl =>
    cases fl with
    | ret u => exact I2.after hq
    | next => exact False.elim hq
    | brk => exact False.elim hq
    | cont => exact False.elim hq
end
end Bk

namespace Bk
open PySem PySem.Spec PyProof.Rows L2
/-- either of two readings of what is walked -/
theorem pi_or {X : Cx} {tg l : Expr} {w1 w2 : TI} (h1 : PI X tg l w1) (h2 : PI X tg l w2) : PI X tg l (fun σ H R => w1 σ H R ∨ w2 σ H R) := ⟨fun pins s σ H R I h => h.elim (h1.run pins s σ H R I) (h2.run pins s σ H R I)⟩
/-- dict(pairs), K told -/
def rDictP (K : PySem.W.Frag) : List V → Hp → VK → Prop := fun xs H Q => ∃ (a : Addr) (ps : List Addr) (kvs : List (Key × V)), xs = [.ref a] ∧ SqL K H a (ps.map V.ref) ∧ Paired (fun p kv => SqT K H p [kV kv.1, kv.2]) ps kvs ∧ ∀ p, H p = none → Q (.ref p) (upd H p (.dK (mergeK [] kvs)))
theorem kDictP {X : Cx} {K : PySem.W.Frag} (hc : X.calm = true) (e : X.K = K := by rfl) : CallR X (.type "dict") (rDictP K) := e ▸ call_dictP hc
end Bk

/-! the pairs of a dict whose keys are tuples, walked -/
namespace Bk
open PySem PySem.Spec PyProof.Rows L2
/-- each pair a new tuple of the key's own tuple and the value -/
def Itit (d : Addr) (o : Obj) (kvs : List (List Key × V)) : It :=
  ⟨fun i H => H d = some (.frz o (.dT kvs)) ∧ i < kvs.length, fun i H x H' => ∃ (T : Addr) (k : List Key) (v : V) (q : Addr), kvs[i]? = some (k, v) ∧ H q = some (.tup (k.map kV)) ∧ x = .ref T ∧ H T = none ∧ H' = upd H T (.tup [.ref q, v]), fun i H => H d = some (.frz o (.dT kvs)) ∧ kvs.length ≤ i⟩
section
variable {X : Cx} {pins : List (Addr × Obj)} {σ : L2.St} {H : Hp} {s : Shared} {d : Addr} {o : Obj}
theorem frzTV {kvs : List (List Key × V)} (I : Inv X pins σ H s) (h : H d = some (.frz o (.dT kvs))) :
    (d == sysModules) = false ∧ s.heap.get? d = some o ∧ o.ExactDict ∧ ∃ (es : Array DictEntry) (ep : Nat), o.data = .dict es ep ∧ es.size = kvs.length ∧
      ∀ (i : Nat) (k : List Key) (v : V), kvs[i]? = some (k, v) → ∃ (en : DictEntry) (q : Addr), es[i]? = some en ∧ en.key = .ref q ∧ H q = some (.tup (k.map kV)) ∧ RelV v en.val := by
  obtain ⟨hd, z, hs, xs, pr, o', es, ep, ho, hx, hdt, he, _⟩ := I.hok d _ h
  rw [hd] at ho
  cases ho
  refine ⟨hs, hd, hx, es, ep, hdt, ?_, fun i k v e => ?_⟩
  · have l1 : es.size = xs.length := size_of_entries he
    have l2 : kvs.length = xs.length := Paired.length pr
    omega
  · obtain ⟨b, hb, e1, e2, e3⟩ := paired_get pr e
    have q := entry_at he i
    rw [hb] at q
    exact ⟨_, b.2.1, q, rfl, e2, e3⟩
end
section
variable {P : Program} {w : World} {K : PySem.W.Frag} {d : Addr} {o : Obj} {es : Array DictEntry} {ep : Nat}
theorem turn_itemsT {kvs : List (List Key × V)} {elts : List Expr} {kk : Nat} {tpos : Pos} (it : Addr) (hod : o.data = .dict es ep) :
    Turn P w K (.Tuple elts kk tpos) (Itit d o kvs) [it] it (fun i h => ∃ ok ov, IsItemIter h it d i kvs.length ep ok ov) where
  mem := by simp
  obj := fun i h st b hb => by
    have e : b = it := by simpa using hb
    subst e
    obtain ⟨ok, ov, e⟩ := st
    exact ⟨_, e, fun v z => nomatch z⟩
  keep := fun i h h' st k => let ⟨ok, ov, e⟩ := st; ⟨ok, ov, k it (by simp) _ e⟩
  item := by
    intro X hP hw hK hc i pins s σ H E I hf st hg
    subst hP hw hK
    obtain ⟨hd, hi⟩ := hg
    obtain ⟨hs, hgd, hx, es', ep', hdt, hsz, ent⟩ := frzTV I hd
    obtain ⟨rfl, rfl⟩ := dict_ep hod hdt
    obtain ⟨⟨k, v⟩, hkv⟩ : ∃ p, kvs[i]? = some p := ⟨kvs[i], List.getElem?_eq_getElem hi⟩
    obtain ⟨en, q, hen, hkey, hq, hval⟩ := ent i k v hkv
    obtain ⟨ok, ov, he⟩ := st
    rw [← hsz] at he
    have hlt : it < s.heap.objs.size := Heap.lt_size he
    have hi' : i < es'.size := by omega
    have hen' : es'[i] = en := by
      have e2 := Array.getElem?_eq_getElem hi'
      rw [hen] at e2
      exact (Option.some.inj e2).symm
    refine DT.nextI he ⟨o, hgd, hx, hdt⟩ hi' fun h' ho hT hz hk => ?_
    rw [hen'] at ho hT
    refine ⟨_, rfl, wpAny_letOwnedTupleGo_items (s := { s with heap := h' }) ho fun h'' he' sb => ?_⟩
    have hT2 : h''.get? s.heap.objs.size = some { cls := .type "tuple", data := .seq #[en.key, en.val] } := (sb.2 _ (Nat.ne_of_gt hlt)).trans hT
    have new : ObjOk X.prog X.w (upd H s.heap.objs.size (.tup [V.ref q, v])) h'' s.heap.objs.size (.tup [V.ref q, v]) :=
      ⟨by show 2 ≤ sizeLine; decide, [en.key, en.val], .cons hkey (.cons hval .nil), ⟨_, hT2, rfl, _, rfl⟩⟩
    have I1 : Inv X pins σ (upd H s.heap.objs.size (.tup [V.ref q, v])) { s with heap := h'' } :=
      I.turnedNew (t' := s.toks) (ch := [it]) (fun b ob hb e => (sb.2 b (by simpa using hb)).trans (hk b ob (by simpa using hb) e)) hf (Nat.le_refl _) new
    refine ⟨.ref s.heap.objs.size, _, I1, rfl, ⟨_, k, v, q, hkv, hq, rfl, I.hok.fresh (Nat.le_refl _), rfl⟩, ⟨en.key, en.val, ?_⟩, fun b hb => ?_⟩
    · rw [← hsz]; exact he'
    · have e : b = it := by simpa using hb
      rw [e, upd_ne (Nat.ne_of_lt hlt)]
      exact (hf it (by simp)).1
  done := by
    intro X hP hw hK hc i pins s σ H E I hf st hg
    subst hP hw hK
    obtain ⟨hd, hi⟩ := hg
    obtain ⟨f0, f1, f2, f3, f4, f5⟩ := hf it (by simp)
    obtain ⟨hs, hgd, hx, es', ep', hdt, hsz, ent⟩ := frzTV I hd
    obtain ⟨rfl, rfl⟩ := dict_ep hod hdt
    obtain ⟨ok, ov, he⟩ := st
    rw [← hsz] at he
    exact DT.endI (I.ok.hd hc) he ⟨o, hgd, hx, hdt⟩ (by omega) fun h' eb => ⟨rfl, I.turned (t' := s.toks) (fun b ob hb e => eb b ob hb e) f0 f1 f3 f4 f5⟩
  self := fun A i s Q E st h => let ⟨_, _, e⟩ := st; PySem.W.kcp_self e h
end
/-- d.items(), d locked -/
def iItemsT (td : TE) : TI := fun σ H R => td σ H fun x H1 => ∃ d o kvs, x = .ref d ∧ H1 d = some (.frz o (.dT kvs)) ∧ R (Itit d o kvs) H1
section
variable {X : Cx} {tg e : Expr} {td : TE} {apos cpos : Pos}
theorem pi_itemsT {elts : List Expr} {kk : Nat} {tpos : Pos} (he : PE X e td) (hbase : attributeBase e "items" X.env (eval e X.env) = eval e X.env := by rfl) (hline : (apos.endLine == cpos.line) = true := by rfl) :
    PI X (.Tuple elts kk tpos) (.Call (.Attribute e "items" apos) [] [] cpos) (iItemsT td) := by
  refine ⟨fun pins s σ H R I h => ?_⟩
  refine wpAny_Call_method (T := "dict") (id := "dict.items") hbase rfl hline F.plainAttrs_dict F.slot_dict_items F.type_dict_items (thn (he.run pins s σ H _ I h) fun u s1 ⟨x, H1, I1, rx, d, o, kvs, ex, hd, q⟩ => ?_)
  subst ex
  obtain rfl : u = Value.ref d := rx
  obtain ⟨hs, hgd, hx, es, ep, hdt, hsz, ent⟩ := frzTV I1 hd
  have hm : DT.Raw s1.heap d es ep := ⟨o, hgd, hx, hdt⟩
  refine ⟨hm.typeIs, fun a e => by cases e; exact ⟨o, hgd, hx.2.1⟩, ?_⟩
  have I2 : Inv X pins σ H1 { s1 with heap := s1.heap.push { cls := .type "dict_items", data := .fields #[.ref d] } } := I1.kept (t' := s1.toks) fun b ob q => Heap.get?_push_of_some _ q
  have fin : wpAny (model X.prog X.w) X.A (pyIter (.ref s1.heap.objs.size)) (PIE X pins σ (.Tuple elts kk tpos) R) X.xe { s1 with heap := s1.heap.push { cls := .type "dict_items", data := .fields #[.ref d] } } := by
    refine DT.iterI (d := d) ⟨_, Heap.get?_push_size _ rfl, rfl, rfl⟩ (hm.push _) (pi_one (tk := s1.toks) I2 _ (turn_itemsT _ hdt) ⟨.none, .none, ?_⟩ q)
    rw [← hsz]
    exact Heap.get?_push_size _ rfl
  show wpAny _ _ (callWith cpos (.builtin "dict.items") [.ref d] [] []) _ X.xe s1
  exact method_meetsIn F.slot_dict_items F.entry_dict_items rfl (PySem.evalArgs_none ⟨rfl, hm.typeIs, F.args_dict_items_1 _, _, DT.meetsItems (es := es) (ep := ep) hs, ⟨hm, fin⟩⟩)
end
theorem walk_itemsT {d : Addr} {o : Obj} {kvs : List (List Key × V)} : Walk (Itit d o kvs) kvs.length (fun H => H d = some (.frz o (.dT kvs)))
    (fun i H x H' => ∃ (T : Addr) (k : List Key) (v : V) (q : Addr), kvs[i]? = some (k, v) ∧ H q = some (.tup (k.map kV)) ∧ x = .ref T ∧ H T = none ∧ H' = upd H T (.tup [.ref q, v])) :=
  ⟨fun _ _ hi q => ⟨q, hi⟩, fun _ q => ⟨q, Nat.le_refl _⟩, fun _ _ _ _ _ _ y => y⟩
end Bk

/-! lots as parts of the names; tables by lots; questions as objects -/
namespace Bk
open PySem PySem.Spec PyProof.Rows L2
theorem rows_inc : ∀ n, n < 6 → ∀ r ∈ lotRows n, r.Pairwise (· < ·) := by decide +kernel
theorem rows_below : ∀ n, n < 6 → ∀ r ∈ lotRows n, ∀ x ∈ r, x < n := by decide +kernel
theorem pick_sub {zs : List Str} : ∀ {r : List Nat}, r.Pairwise (· < ·) → (∀ x ∈ r, x < zs.length) → (r.map fun k => zs.getD k Str.empty).Sublist zs := by
  intro r hp hl
  have h := List.map_getElem_sublist (l := zs) (is := r.attach.map fun x => (⟨x.1, hl x.1 x.2⟩ : Fin zs.length)) (by
    rw [List.pairwise_map]
    have : r.attach.Pairwise fun a b => a.1 < b.1 := by
      have := List.pairwise_map (f := Subtype.val) (l := r.attach) (R := (· < ·))
      rw [List.attach_map_subtype_val] at this
      exact this.mp hp
    exact this)
  rw [List.map_map] at h
  have e : r.attach.map ((fun (i : Fin zs.length) => zs[i]) ∘ fun x => (⟨x.1, hl x.1 x.2⟩ : Fin zs.length)) = r.map fun k => zs.getD k Str.empty := by
    have : r.map (fun k => zs.getD k Str.empty) = r.attach.map fun x => zs.getD x.1 Str.empty := by
      conv => lhs; rw [← List.attach_map_subtype_val r, List.map_map]
      rfl
    rw [this]
    refine List.map_congr_left fun x _ => ?_
    show zs[x.1]'(hl x.1 x.2) = zs.getD x.1 Str.empty
    rw [List.getD_eq_getElem?_getD, List.getElem?_eq_getElem (hl x.1 x.2)]
    rfl
  rw [← e]
  exact h
theorem lots_sub {ch : Bool} {zs l : List Str} (hz : zs.length ≤ mostFor ch) (m : l ∈ lotsFor ch zs) : l.Sublist zs := by
  unfold lotsFor at m
  cases ch with
  | true =>
    unfold chainLots at m
    simp only [if_true] at m
    obtain ⟨k, _, m⟩ := List.mem_flatMap.mp m
    unfold longRows at m
    obtain ⟨i, _, rfl⟩ := List.mem_map.mp m
    exact (List.take_sublist _ _).trans (List.drop_sublist _ _)
  | false =>
    unfold lotsOf at m
    simp only [Bool.false_eq_true, if_false] at m
    obtain ⟨r, hr, rfl⟩ := List.mem_map.mp m
    have h6 : zs.length < 6 := Nat.lt_succ_of_le hz
    exact pick_sub (rows_inc _ h6 r hr) (rows_below _ h6 r hr)
/-- the names of zs that stand in k -/
def lotS (zs k : List Str) : List Str := zs.filter fun n => decide (n ∈ k)
theorem lotS_sub : ∀ {l zs : List Str}, l.Sublist zs → zs.Nodup → lotS zs l = l := by
  intro l zs h
  induction h with
  | slnil => intro _; rfl
  | @cons l zs a h ih =>
    intro nd
    obtain ⟨n1, n2⟩ := List.nodup_cons.mp nd
    unfold lotS
    rw [List.filter_cons_of_neg (by
      intro z
      exact n1 (h.subset (of_decide_eq_true z)))]
    exact ih n2
  | @cons_cons l zs a h ih =>
    intro nd
    obtain ⟨n1, n2⟩ := List.nodup_cons.mp nd
    unfold lotS
    rw [List.filter_cons_of_pos (p := fun n => decide (n ∈ a :: l)) (decide_eq_true List.mem_cons_self)]
    congr 1
    have : zs.filter (fun n => decide (n ∈ a :: l)) = zs.filter fun n => decide (n ∈ l) := by
      refine List.filter_congr fun x hx => ?_
      have : x ≠ a := fun e => n1 (e ▸ hx)
      simp [this]
    rw [this]
    exact ih n2
theorem lot_nodup {ch : Bool} {zs l : List Str} (hz : zs.length ≤ mostFor ch) (nd : zs.Nodup) (m : l ∈ lotsFor ch zs) : l.Nodup := (lots_sub hz m).nodup nd
/-- the lot that a list of things tells, or none -/
def toldBy (zs : List Str) (xs : List V) : List Str := zs.filter fun n => inV (.str n) xs
def lotOfV (ch : Bool) (zs : List Str) (xs : List V) : Option (List Str) := if (toldBy zs xs).length = xs.length ∧ toldBy zs xs ∈ lotsFor ch zs then some (toldBy zs xs) else none
theorem toldBy_strs (zs k : List Str) : toldBy zs (k.map V.str) = lotS zs k := by
  unfold toldBy lotS
  refine List.filter_congr fun x _ => ?_
  rw [inV_strs]
theorem lotOfV_lot {ch : Bool} {zs l : List Str} (hz : zs.length ≤ mostFor ch) (nd : zs.Nodup) (m : l ∈ lotsFor ch zs) : lotOfV ch zs (l.map V.str) = some l := by
  unfold lotOfV
  rw [toldBy_strs, lotS_sub (lots_sub hz m) nd, List.length_map, if_pos ⟨rfl, m⟩]
/-- the places tell which rows are lots -/
theorem places_has {ch : Bool} {zs : List Str} (nd : zs.Nodup) (l : List Str) : (valV (placesOf (lotsFor ch zs)) (l.map Sum.inr)).isSome = decide (l ∈ lotsFor ch zs) := by
  rw [← valV_any]
  have hk := places_keys (lots_nodup (ch := ch) nd) (lotsFor ch zs).length (Nat.le_refl _)
  rw [List.take_length] at hk
  have e : (placesOf (lotsFor ch zs)).any (fun kv => decide (kv.1 = l.map Sum.inr)) = ((placesOf (lotsFor ch zs)).map (·.1)).any fun k => decide (k = l.map Sum.inr) := by
    rw [List.any_map]
    rfl
  rw [e, hk]
  by_cases m : l ∈ lotsFor ch zs
  · rw [decide_eq_true m, List.any_eq_true]
    exact ⟨_, List.mem_map.mpr ⟨l, m, rfl⟩, decide_eq_true rfl⟩
  · rw [decide_eq_false m, List.any_eq_false]
    intro k hk z
    obtain ⟨l', m', rfl⟩ := List.mem_map.mp hk
    rw [inr_inj (of_decide_eq_true z)] at m'
    exact m m'
/-! ### tables by lots -/
def tabL (ls : List (List Str)) (f : List Str → Int) : List (List Key × Int) := ls.map fun l => (l.map Sum.inr, f l)
def tableOf (ch : Bool) (zs : List Str) (wt : List Str → Int) : List (List Key × Int) := tabL ((lotsFor ch zs).filter fun l => decide (wt l ≠ 0)) wt
theorem getT_tab (f : List Str → Int) (l : List Str) : ∀ ls : List (List Str), getT (tabL ls f) (l.map Sum.inr) = if l ∈ ls then some (f l) else none
  | [] => rfl
  | x :: r => by
    have ih := getT_tab f l r
    show getT ((x.map Sum.inr, f x) :: tabL r f) _ = _
    by_cases h : x = l
    · subst h
      rw [getT_pos rfl, if_pos List.mem_cons_self]
    · rw [getT_neg (fun z => h (inr_inj z)), ih]
      by_cases m : l ∈ r
      · rw [if_pos m, if_pos (List.mem_cons_of_mem _ m)]
      · rw [if_neg m, if_neg (fun z => (List.mem_cons.mp z).elim (fun e => h e.symm) m)]
theorem getT_table {ch : Bool} {zs : List Str} {wt : List Str → Int} {l : List Str} (m : l ∈ lotsFor ch zs) : (getT (tableOf ch zs wt) (l.map Sum.inr)).getD 0 = wt l := by
  unfold tableOf
  rw [getT_tab]
  by_cases h : wt l = 0
  · have hn : l ∉ (lotsFor ch zs).filter fun l => decide (wt l ≠ 0) := fun z => absurd h (of_decide_eq_true (List.mem_filter.mp z).2)
    rw [if_neg hn, h]
    rfl
  · rw [if_pos (List.mem_filter.mpr ⟨m, decide_eq_true h⟩)]
    rfl
theorem tab_put {ls : List (List Str)} {f : List Str → Int} {l : List Str} (h : l ∉ ls) : putK (tabV (tabL ls f)) (l.map Sum.inr) (V.int (f l)) = tabV (tabL (ls ++ [l]) f) := by
  rw [putK_fresh]
  · unfold tabV tabL
    rw [List.map_append, List.map_append]
    rfl
  · unfold tabV tabL
    rw [List.map_map, List.map_map]
    intro m
    obtain ⟨l', m', e⟩ := List.mem_map.mp m
    rw [inr_inj (show (l'.map Sum.inr : List Key) = l.map Sum.inr from e)] at m'
    exact h m'
theorem tabL_congr {ls : List (List Str)} {f g : List Str → Int} (h : ∀ l ∈ ls, f l = g l) : tabL ls f = tabL ls g := List.map_congr_left fun l m => by rw [h l m]
theorem tableOf_congr {ch : Bool} {zs : List Str} {f g : List Str → Int} (h : ∀ l ∈ lotsFor ch zs, f l = g l) : tableOf ch zs f = tableOf ch zs g := by
  unfold tableOf
  rw [show (lotsFor ch zs).filter (fun l => decide (f l ≠ 0)) = (lotsFor ch zs).filter fun l => decide (g l ≠ 0) from List.filter_congr fun l m => by rw [h l m]]
  exact tabL_congr fun l m => h l (List.mem_filter.mp m).1
theorem sameT_refl (ls : List (List Str)) (f : List Str → Int) : sameT (tabL ls f) (tabL ls f) = true := by
  unfold sameT
  simp only [beq_self_eq_true, Bool.true_and]
  rw [List.all_eq_true]
  intro p hp
  obtain ⟨l, m, rfl⟩ := List.mem_map.mp hp
  refine decide_eq_true ?_
  show getT (tabL ls f) (l.map Sum.inr) = some (f l)
  rw [getT_tab, if_pos m]
theorem sameT_eq {ch : Bool} {zs : List Str} {f g : List Str → Int} (h : ∀ l ∈ lotsFor ch zs, f l = g l) : sameT (tableOf ch zs f) (tableOf ch zs g) = true := by
  rw [tableOf_congr h]
  exact sameT_refl _ _
theorem sameT_ne {ch : Bool} {zs : List Str} (nd : zs.Nodup) {f g : List Str → Int} (h : sameT (tableOf ch zs f) (tableOf ch zs g) = true) : ∀ l ∈ lotsFor ch zs, f l = g l := by
  unfold sameT at h
  rw [Bool.and_eq_true, List.all_eq_true] at h
  obtain ⟨h1, h2⟩ := h
  have h1 : ((lotsFor ch zs).filter fun l => decide (f l ≠ 0)).length = ((lotsFor ch zs).filter fun l => decide (g l ≠ 0)).length := by
    have := eq_of_beq h1
    unfold tableOf tabL at this
    rw [List.length_map, List.length_map] at this
    exact this
  have h2 : ∀ l ∈ (lotsFor ch zs).filter (fun l => decide (f l ≠ 0)), l ∈ (lotsFor ch zs).filter (fun l => decide (g l ≠ 0)) ∧ f l = g l := fun l m => by
    have := of_decide_eq_true (h2 _ (List.mem_map.mpr ⟨l, m, rfl⟩))
    have this : getT (tableOf ch zs g) (l.map Sum.inr) = some (f l) := this
    unfold tableOf at this
    rw [getT_tab] at this
    by_cases z : l ∈ (lotsFor ch zs).filter fun l => decide (g l ≠ 0)
    · rw [if_pos z] at this
      exact ⟨z, (Option.some.inj this).symm⟩
    · rw [if_neg z] at this
      cases this
  intro l m
  by_cases z : f l = 0
  · by_cases z2 : g l = 0
    · rw [z, z2]
    · exfalso
      have hl : l ∈ (lotsFor ch zs).filter fun l => decide (g l ≠ 0) := List.mem_filter.mpr ⟨m, decide_eq_true z2⟩
      have hn : ((lotsFor ch zs).filter fun l => decide (f l ≠ 0)).Nodup := (lots_nodup nd).filter _
      have p := pigeon _ (((lotsFor ch zs).filter fun l => decide (g l ≠ 0)).erase l) hn fun x hx => by
        refine (List.mem_erase_of_ne fun e => ?_).mpr (h2 x hx).1
        subst e
        exact of_decide_eq_true (List.mem_filter.mp hx).2 z
      rw [List.length_erase_of_mem hl] at p
      have := List.length_pos_of_mem hl
      omega
  · exact (h2 l (List.mem_filter.mpr ⟨m, decide_eq_true z⟩)).2
/-! ### questions as objects -/
def questF (x td : Addr) : List (Str × V) := [("folders", .ref x), ("table", .ref td)]
def QuestAt (CF CQ : Addr) (H : Hp) (q x : Addr) (zs : List Str) (ch : Bool) (wt : List Str → Int) : Prop := ∃ dq td, H q = some (.ins CQ dq (questF x td)) ∧ FoldersAt CF H x zs ch ∧ H td = some (.dT (tabV (tableOf ch zs wt)))
theorem QuestAt.same {CF CQ q x : Addr} {H H' : Hp} {zs : List Str} {ch : Bool} {wt : List Str → Int} (h : QuestAt CF CQ H q x zs ch wt) (e : Same H H') : QuestAt CF CQ H' q x zs ch wt :=
  let ⟨dq, td, h1, h2, h3⟩ := h; ⟨dq, td, e _ _ h1, h2.same e, e _ _ h3⟩
theorem look_folders (x td : Addr) : (questF x td).lookup ("folders" : Str) = some (.ref x) := by
  show List.lookup ("folders" : Str) [(("folders" : Str), V.ref x), ("table", .ref td)] = _
  simp [List.lookup]
theorem look_table (x td : Addr) : (questF x td).lookup ("table" : Str) = some (.ref td) := by
  have h : (("table" : Str) == ("folders" : Str)) = false := by decide +kernel
  show List.lookup ("table" : Str) [(("folders" : Str), V.ref x), ("table", .ref td)] = _
  simp [List.lookup, h]
theorem putq1 (v : V) : putF "folders" v [] = ([("folders", v)] : List (Str × V)) := rfl
theorem putq2 (v t : V) : putF "table" t ([("folders", v)] : List (Str × V)) = ([("folders", v), ("table", t)] : List (Str × V)) := by
  have h : ¬ (("folders" : Str) = "table") := by decide +kernel
  simp [putF, h]
end Bk

namespace Bk
open PySem PySem.Spec PyProof.Rows L2
def spIsInt (K : PySem.W.Frag) : Sp := fun vs H Q _ => ∃ (x : V) (t : Value) (b1 b2 : Bool), vs = [x] ∧ TyX K H x t ∧ PySem.W.kitOne K t (.type "int") = some b1 ∧ PySem.W.kitOne K t (.type "bool") = some b2 ∧ Q (.bl (b1 && !b2)) H
def spLotOf (K : PySem.W.Frag) (C : Addr) : Sp := fun vs H Q _ => ∃ (x : Addr) (y : V) (zs : List Str) (ch : Bool), vs = [.ref x, y] ∧ FoldersAt C H x zs ch ∧ zs.Nodup ∧ zs.length ≤ 12 ∧
  ((Sqs K H y false ∧ ∀ H', Same H H' → Q .non H') ∨ ∃ (a : Addr) (xs : List V), y = .ref a ∧ (SqL K H a xs ∨ SqT K H a xs) ∧ Sqs K H y true ∧ xs.all flatV = true ∧ xs.length ≤ 100000 ∧
    (∀ H', Same H H' → lotOfV ch zs xs = none → Q .non H') ∧ ∀ (t : Addr) (l : List Str) (H' : Hp), H t = none → Same H H' → lotOfV ch zs xs = some l → H' t = some (.tup (l.map V.str)) → Q (.ref t) H')
section
variable {P : Program} {w : World} {K : PySem.W.Frag} {mg : Str → Option Value} {base : Heap}
theorem scIsInt : FnScope ["thing"] ["thing"] (defScope (topS 18)) := ⟨rfl, rfl, rfl, by decide +kernel, rfl, by decide +kernel, by decide +kernel⟩
theorem ok_is_int (B : Bi mg) {f : Addr} {fd : FuncData} (F : Fun K "is_integer" "is_integer" (topS 18) f fd) : FnOk P w K mg base CX0 1 f fd ["thing"] (spIsInt K) := by
  refine F.ok scIsInt (fun vs H Q E h => ?_) (fun cdv A outer s H vs Q E hr h => ?_)
  · obtain ⟨x, t, b1, b2, rfl, _⟩ := h
    rfl
  · obtain ⟨x, t, b1, b2, rfl, tx, k1, k2, q⟩ := h
    have nd := scIsInt.nd
    refine ⟨_, (pss_one (ps_ret (pe_and (pe_callB (kIsi K) (by rfl) B.isinstance (by decide +kernel) (pa_cons (pv 0) (pa_cons (pe_bltn (v := .ty "int") (by rfl) B.int (by decide +kernel) rfl) pa_nil))) (pe_one (pe_not (pe_callB (kIsi K) (by rfl) B.isinstance (by decide +kernel) (pa_cons (pv 0) (pa_cons (pe_bltn (v := .ty "bool") (by rfl) B.bool (by decide +kernel) rfl) pa_nil)))))))), ?_⟩
    refine isi1 rfl tx k1 ⟨_, rfl, ?_⟩
    cases b1 with
    | false =>
      refine iteF ?_
      exact q
    | true =>
      refine iteT ?_
      refine isi1 rfl tx k2 ?_
      cases b2 <;> exact ⟨_, rfl, q⟩
theorem scLotOf : FnScope ["folders", "thing", "lot", "name"] ["folders", "thing"] (defScope (topS 37)) := ⟨rfl, rfl, rfl, by decide +kernel, rfl, by decide +kernel, by decide +kernel⟩
theorem ok_lot_of (B : Bi mg) {C f0 f f1 : Addr} {fd fd1 : FuncData} (T : FolT K mg C f0) (c_is_list : Cal P w K mg base CX0 1 "is_list" f1 fd1 ["thing"] (spIsList K)) (F : Fun K "lot_of" "lot_of" (topS 37) f fd) : FnOk P w K mg base CX0 2 f fd ["folders", "thing"] (spLotOf K C) := by
  refine F.ok scLotOf (fun vs H Q E h => ?_) (fun cdv A outer s H vs Q E hr h => ?_)
  · obtain ⟨x, y, zs, ch, rfl, _⟩ := h
    rfl
  · obtain ⟨x, y, zs, ch, rfl, ⟨dx, t, pd, hx, ht, hp⟩, nz, lz, hc⟩ := h
    have nd := scLotOf.nd
    have hu := hu_of hr
    have hr_is_list := hr
    refine ⟨_, (pss_cons (ps_if (pt_not (pt_val (pe_call c_is_list.ok hr_is_list (by rfl) c_is_list.g c_is_list.kp c_is_list.b .nil pass0 (pa_cons (pv 1) pa_nil)))) (pss_one (ps_ret pe_non)) pss_nil)
      (pss_cons (ps_set (i := 2) nd rfl (Or.inl rfl) (kTupleOf K (by rfl) B.tuple (pe_lc (own := [("name", 3)]) rfl nd (kPiT K (pe_fld (pv 0) rfl)) (blkOk_by (N := ["folders", "thing", "lot", "name"]) (sc := defScope (topS 37)) (by decide +kernel)) (fun _ _ _ _ _ => (pg_name (i := 3) nd rfl (Or.inl rfl))) (fun _ _ _ _ _ => (pts_one (pt_cmpR (kIn K) (pv 3) (pv 1) rfl))) (fun _ _ _ _ _ => (pv 3)))))
      (pss_one (ps_ret (pe_ifExp (PW.pt (pw_and (pt_cmpR op_eq (pe_callB (kLen K) (by rfl) B.len PySem.boot_len (pa_cons (pv 2) pa_nil)) (pe_callB (kLen K) (by rfl) B.len PySem.boot_len (pa_cons (pv 1) pa_nil)) (nomark _)) (pw_and1 (pt_cmp (pc_din hu (pv 2) (pe_fld (pv 0) rfl)))))) (pv 2) pe_non))))), ?_⟩
    rcases hc with ⟨b, q⟩ | ⟨a, xs, rfl, hS, b, hf, hl, qn, qs⟩
    · refine ⟨_, rfl, _, false, rfl, b, fun H1 e1 => ⟨_, rfl, ?_⟩⟩
      refine iteT ?_
      exact q H1 e1
    · refine ⟨_, rfl, _, true, rfl, b, fun H1 e1 => ⟨_, rfl, ?_⟩⟩
      refine iteF ?_
      have hS1 : SqL K H1 a xs ∨ SqT K H1 a xs := hS.imp (fun z => e1.seq z) fun z => Same.sqt e1 z
      refine ⟨_, rfl, x, C, dx, _, _, rfl, e1 _ _ hx, T.cl, T.nN, look_names _ _ _, t, rfl, ⟨_, SqT.of (e1 _ _ ht)⟩, fun D nD => lc_it (walk_tup (xs := zs.map V.str)) (UptoF H1 D zs V.str fun n => inV (.str n) xs) (.zero nD) (fun j H' _ u => SqT.of (u.sm _ _ (e1 _ _ ht))) ?_ ?_⟩
      · rintro j v H2 H3 hj u ⟨rfl, hv⟩
        rw [List.getElem?_map] at hv
        obtain ⟨n, hn, rfl⟩ := Option.map_eq_some_iff.mp hv
        refine ⟨rfl, ?_⟩
        refine ⟨_, rfl, _, rfl, a, xs, rfl, hS1.imp (fun z => Same.seq u.sm z) (fun z => Same.sqt u.sm z), rfl, hf, _, rfl, ?_⟩
        cases hi : inV (.str n) xs with
        | false =>
          refine iteF ?_
          exact u.no hn hi (Same.refl _)
        | true =>
          refine iteT ?_
          exact ⟨_, rfl, u.yes nD hn hi (Same.refl _) (by omega)⟩
      · intro H2 u
        have eD := u.all (by rw [List.length_map])
        have e2 := Same.trans e1 u.sm
        have hS2 : SqL K H2 a xs ∨ SqT K H2 a xs := hS.imp (fun z => e2.seq z) fun z => Same.sqt e2 z
        refine .inl ⟨D, _, rfl, SqL.of eD, fun p np => ?_⟩
        have hnp : H p = none := Same.free e2 np
        have ep := same_upd (o := HO.tup ((zs.filter fun n => inV (.str n) xs).map V.str)) np
        have hp3 : upd H2 p (HO.tup ((zs.filter fun n => inV (.str n) xs).map V.str)) p = some (HO.tup ((zs.filter fun n => inV (.str n) xs).map V.str)) := upd_same
        generalize upd H2 p (HO.tup ((zs.filter fun n => inV (.str n) xs).map V.str)) = H3 at ep hp3 ⊢
        have e3 := Same.trans e2 ep
        have hS3 : SqL K H3 a xs ∨ SqT K H3 a xs := hS.imp (fun z => e3.seq z) fun z => Same.sqt e3 z
        have hin := places_has (ch := ch) nz (toldBy zs xs)
        refine ⟨_, rfl, .ref p, _, rfl, .inr ⟨_, SqT.of hp3, rfl⟩, _, rfl, .ref a, xs.length, rfl, hS3.imp (fun z => ⟨xs, z, rfl⟩) (fun z => ⟨xs, z, rfl⟩), rfl, ?_⟩
        refine ⟨_, rfl, ?_⟩
        have elen : ((((zs.filter fun n => inV (.str n) xs).map V.str).length : Nat) : Int) = ((toldBy zs xs).length : Int) := by
          rw [List.length_map]
          rfl
        rw [elen]
        by_cases hlen : (toldBy zs xs).length = xs.length
        · rw [decide_eq_true (by rw [hlen])]
          refine iteT ?_
          refine ⟨_, rfl, _, rfl, x, C, dx, _, _, rfl, e3 _ _ hx, T.cl, T.nP, look_places _ _ _, pd, _, rfl, DGet.t (k := (toldBy zs xs).map Sum.inr) (e3 _ _ hp) ?_, _, rfl, ?_⟩
          · rw [hp3, List.map_map]
            rfl
          · rw [hin]
            by_cases hm : toldBy zs xs ∈ lotsFor ch zs
            · rw [decide_eq_true hm]
              refine iteT ?_
              exact ⟨_, rfl, qs p (toldBy zs xs) H3 hnp e3 (by unfold lotOfV; rw [if_pos ⟨hlen, hm⟩]) hp3⟩
            · rw [decide_eq_false hm]
              refine iteF ?_
              exact qn H3 e3 (by unfold lotOfV; rw [if_neg (fun z => hm z.2)])
        · rw [decide_eq_false (fun z => hlen (by injection z with z; omega))]
          refine iteF ?_
          refine iteF ?_
          exact qn H3 e3 (by unfold lotOfV; rw [if_neg (fun z => hlen z.1)])
end
end Bk

namespace Bk
open PySem PySem.Spec PyProof.Rows L2
/-- a statement that is never reached -/
theorem ps_no {X : Cx} {st : Stmt} : PS X st (fun _ _ _ => False) := ⟨fun _ _ _ _ _ _ h => h.elim⟩
def entT (es : List (List Str × Int)) : List (List Key × Int) := es.map fun e => (e.1.map Sum.inr, e.2)
def foundT (zs : List Str) (es : List (List Str × Int)) : List (List Key × Int) := es.map fun e => ((lotS zs e.1).map Sum.inr, e.2)
/-- the dict of right entries -/
structure Ents (ch : Bool) (zs : List Str) (es : List (List Str × Int)) : Prop where
  few : es.length ≤ 3000
  lot : ∀ e ∈ es, lotOfV ch zs (e.1.map V.str) = some (lotS zs e.1)
  len : ∀ e ∈ es, e.1.length ≤ 1000
  nd : (es.map fun e => lotS zs e.1).Nodup
def spNums (K : PySem.W.Frag) (C : Addr) : Sp := fun vs H Q _ => ∃ (x d dx t pd : Addr) (zs : List Str) (ch : Bool) (es : List (List Str × Int)), vs = [.ref x, .ref d] ∧ H x = some (.ins C dx (foldersF t pd ch)) ∧ H t = some (.tup (zs.map V.str)) ∧ H pd = some (.dT (placesOf (lotsFor ch zs))) ∧ pd ≠ d ∧
  zs.Nodup ∧ zs.length ≤ 12 ∧ H d = some (.dT (tabV (entT es))) ∧ Ents ch zs es ∧ ∀ (D : Addr) (H' : Hp), H D = none → Same H H' → H' D = some (.dT (tabV (foundT zs es))) → Q (.ref D) H'
theorem found_get {zs : List Str} {es : List (List Str × Int)} {l : List Str} (h : ∀ e ∈ es, lotS zs e.1 ≠ l) : getT (foundT zs es) (l.map Sum.inr) = none := by
  induction es with
  | nil => rfl
  | cons e r ih =>
    show getT (((lotS zs e.1).map Sum.inr, e.2) :: foundT zs r) _ = none
    rw [getT_neg (fun z => h e List.mem_cons_self (inr_inj z))]
    exact ih fun e' m => h e' (List.mem_cons_of_mem _ m)
theorem found_put {zs : List Str} {es : List (List Str × Int)} {e : List Str × Int} (h : ∀ e' ∈ es, lotS zs e'.1 ≠ lotS zs e.1) : putK (tabV (foundT zs es)) ((lotS zs e.1).map Sum.inr) (V.int e.2) = tabV (foundT zs (es ++ [e])) := by
  rw [putK_fresh]
  · unfold tabV foundT
    rw [List.map_append, List.map_append]
    rfl
  · unfold tabV foundT
    rw [List.map_map, List.map_map]
    intro m
    obtain ⟨e', m', q⟩ := List.mem_map.mp m
    exact h e' m' (inr_inj q)
section
variable {P : Program} {w : World} {K : PySem.W.Frag} {mg : Str → Option Value} {base : Heap}
theorem scNums : FnScope ["folders", "weights", "found", "key", "number", "lot"] ["folders", "weights"] (defScope (topS 46)) := ⟨rfl, rfl, rfl, by decide +kernel, rfl, by decide +kernel, by decide +kernel⟩
theorem ok_nums (B : Bi mg) {C f0 f f1 f2 : Addr} {fd fd1 fd2 : FuncData} (T : FolT K mg C f0) (c_lot_of : Cal P w K mg base CX0 2 "lot_of" f1 fd1 ["folders", "thing"] (spLotOf K C)) (c_is_integer : Cal P w K mg base CX0 1 "is_integer" f2 fd2 ["thing"] (spIsInt K))
    (F : Fun K "numbers_by_lots" "numbers_by_lots" (topS 46) f fd) : FnOk P w K mg base CX0 3 f fd ["folders", "weights"] (spNums K C) := by
  refine F.ok scNums (fun vs H Q E h => ?_) (fun cdv A outer s H vs Q E hr h => ?_)
  · obtain ⟨x, d, dx, t, pd, zs, ch, es, rfl, _⟩ := h
    rfl
  · obtain ⟨x, d, dx, t, pd, zs, ch, es, rfl, hx, ht, hp, npd, nz, lz, hd, hE, q⟩ := h
    have nd := scNums.nd
    have hu := hu_of hr
    have hr_lot_of : Room 2 _ := hr.mono (by decide)
    have hr_is_integer : Room 1 _ := hr.mono (by decide)
    refine ⟨_, (pss_cons (ps_set (i := 2) nd rfl (Or.inl rfl) pe_dnewT)
      (pss_cons (ps_lock (ps_for PassesOwn.never rfl (pi_itemsT (pv 1)) (kTg K 2 rfl (pgs_cons (pg_name (i := 3) nd rfl (Or.inl rfl)) (pgs_cons (pg_name (i := 4) nd rfl (Or.inl rfl)) pgs_nil))) (pss_cons (ps_set (i := 5) nd rfl (Or.inl rfl) (pe_call c_lot_of.ok hr_lot_of (by rfl) c_lot_of.g c_lot_of.kp c_lot_of.b .nil pass0 (pa_cons (pv 0) (pa_cons (pv 3) pa_nil))))
      (pss_cons (ps_if (PW.pt (pw_or (pt_cmpR op_isN (pv 5) pe_non (nomark _)) (pw_or1 (pt_cmp (pc_din hu (pv 5) (pv 2)))))) (pss_one ps_no) pss_nil)
      (pss_cons (ps_if (pt_not (pt_val (pe_call c_is_integer.ok hr_is_integer (by rfl) c_is_integer.g c_is_integer.kp c_is_integer.b .nil pass0 (pa_cons (pv 4) pa_nil)))) (pss_one ps_no) pss_nil)
      (pss_one (ps_dput hu (pv 2) (pv 5) (pv 4) rfl)))))))
      (pss_one (ps_ret (pv 2))))), ?_⟩
    refine fun D nD => ?_
    have e0 := same_upd (o := HO.dT []) nD
    have hD0 : upd H D (.dT []) D = some (.dT []) := upd_same
    generalize upd H D (.dT []) = H0 at e0 hD0 ⊢
    have nDd : d ≠ D := ne_of_none hd nD
    refine ⟨d, _, e0 _ _ hd, trivial, fun od => ?_⟩
    have hxd : x ≠ d := ne_of hx hd (fun z => nomatch z)
    have htd : t ≠ d := ne_of ht hd (fun z => nomatch z)
    refine ⟨_, rfl, d, od, _, rfl, upd_same, ?_⟩
    refine for_it walk_itemsT (fun i σ' H' => ∃ v3 v4 v5, σ' = [some (.ref x), some (.ref d), some (.ref D), v3, v4, v5] ∧ H' d = some (.frz od (.dT (tabV (entT es)))) ∧ H' D = some (.dT (tabV (foundT zs (es.take i)))) ∧ ∀ b u, b ≠ d → H b = some u → H' b = some u) ?_ ?_ ?_ ?_
    · exact ⟨none, none, none, rfl, upd_same, by rw [upd_ne nDd.symm]; exact hD0, fun b u nb e => by rw [upd_ne nb]; exact e0 _ _ e⟩
    · rintro i σ' H' _ ⟨_, _, _, _, h, _⟩
      exact h
    · rintro i y σ' H1 H2 hi ⟨v3, v4, v5, rfl, hd1, hD1, kp1⟩ ⟨T2, k, v, qa, hk, hqa, rfl, nT, rfl⟩
      unfold tabV entT at hk
      rw [List.map_map, List.getElem?_map] at hk
      obtain ⟨e, he, hkv⟩ := Option.map_eq_some_iff.mp hk
      obtain ⟨rfl, rfl⟩ := Prod.mk.inj hkv
      have eT := same_upd (o := HO.tup [V.ref qa, .int e.2]) nT
      refine ⟨T2, _, rfl, SqT.of upd_same, rfl, _, _, rfl, _, _, rfl, rfl, ?_⟩
      generalize upd H1 T2 (.tup [V.ref qa, .int e.2]) = H2 at eT ⊢
      have kp2 : ∀ b u, b ≠ d → H b = some u → H2 b = some u := fun b u nb z => eT _ _ (kp1 b u nb z)
      have hem := List.mem_of_getElem? he
      have hq2 : H2 qa = some (.tup (e.1.map V.str)) := by
        have := eT _ _ hqa
        rw [List.map_map] at this
        exact this
      have hl := hE.lot e hem
      refine ⟨_, rfl, _, rfl, x, .ref qa, zs, ch, rfl, ⟨dx, t, pd, kp2 _ _ hxd hx, kp2 _ _ htd ht, kp2 _ _ npd hp⟩, nz, lz, .inr ⟨qa, e.1.map V.str, rfl, .inr (SqT.of hq2), sqs_kit (k := "tuple") (b1 := false) (b2 := true) (.base (.tup hq2)) (by decide +kernel) (by decide +kernel), flat_strs _, ?_, fun H' e' hn => ?_, fun p l H3 np e3 hl' hp3 => ?_⟩⟩
      · have := hE.len e hem
        rw [List.length_map]
        omega
      · rw [hl] at hn
        cases hn
      rw [hl] at hl'
      obtain rfl := Option.some.inj hl'
      have hD3 := e3 _ _ (eT _ _ hD1)
      have hd3 := e3 _ _ (eT _ _ hd1)
      have fresh : ∀ e' ∈ es.take i, lotS zs e'.1 ≠ lotS zs e.1 := by
        intro e' m' z
        obtain ⟨j, hj, rfl⟩ := List.mem_take_iff_getElem.mp m'
        have hil := (List.getElem?_eq_some_iff.mp he).1
        have := nodup_inj hE.nd (i := j) (j := i) (by rw [List.length_map]; omega) (by rw [List.length_map]; exact hil) (by
          rw [List.getElem_map, List.getElem_map, z]
          have := (List.getElem?_eq_some_iff.mp he).2
          rw [this])
        omega
      have hno : valV (tabV (foundT zs (es.take i))) ((lotS zs e.1).map Sum.inr) = none := by
        rw [valV_tab, found_get fresh]
        rfl
      have hp3' : H3 p = some (.tup (((lotS zs e.1).map Sum.inr : List Key).map kV)) := by
        rw [hp3, List.map_map]
        rfl
      refine ⟨_, rfl, rfl, _, rfl, ?_⟩
      refine iteF ?_
      refine ⟨_, rfl, _, rfl, D, _, rfl, DGet.t hD3 hp3', _, rfl, ?_⟩
      rw [hno]
      refine iteF ?_
      refine ⟨_, rfl, .int e.2, .type "int", true, false, rfl, .base (.int _), kit_ty (show kitB "int" "int" = some true by decide +kernel), kit_ty (show kitB "int" "bool" = some false by decide +kernel), ?_⟩
      refine ⟨_, rfl, ?_⟩
      refine iteF ?_
      refine ⟨_, rfl, _, rfl, _, rfl, D, _, rfl, DPut.t (k := (lotS zs e.1).map Sum.inr) hD3 hp3' ?_, ?_⟩
      · rw [tab_len]
        unfold foundT
        rw [List.length_map, List.length_take]
        have := hE.few
        exact Evl.sz_lt (by omega)
      · refine ⟨_, _, _, rfl, ?_, ?_, fun b u nb z => ?_⟩
        · rw [upd_ne nDd]
          exact hd3
        · rw [upd_same, found_put fresh, take_succ he]
        · rw [upd_ne (ne_of_none z nD)]
          exact e3 _ _ (kp2 b u nb z)
    · rintro σ' H1 ⟨v3, v4, v5, rfl, hd1, hD1, kp1⟩
      refine ⟨hd1, ?_⟩
      refine ⟨_, rfl, q D _ nD (fun b u e => ?_) ?_⟩
      · by_cases nb : b = d
        · subst nb
          rw [upd_same, ← e, hd]
        · rw [upd_ne nb]
          exact kp1 b u nb e
      · rw [upd_ne nDd.symm]
        have : (tabV (entT es)).length = es.length := by
          unfold tabV entT
          rw [List.length_map, List.length_map]
        rw [this, List.take_length] at hD1
        exact hD1
end
end Bk

namespace Bk
open PySem PySem.Spec PyProof.Rows L2
section
variable {J : It} {n : Nat} {G : Hp → Prop} {Y : Nat → Hp → V → Hp → Prop}
/-- a dict comprehension with tests over it, the keys tuples -/
theorem dcI_it (w : Walk J n G Y) {g : TG} {tt : TT} {tk tv : TE} {vs : List Nat} {σ : L2.St} {H1 : Hp} {D : Addr} {Qd : Hp → Prop} (Pv : Nat → Hp → Prop) (h0 : Pv 0 (upd H1 D (.dT []))) (hG : ∀ i H, i ≤ n → Pv i H → G H)
    (hs : ∀ i x H H', i < n → Pv i H → Y i H x H' → g x (wipe σ vs) H' fun σ2 H2 => wipe σ2 vs = wipe σ vs ∧ tt σ2 H2 fun bb H3 =>
      if bb = true then tk σ2 H3 fun y H4 => tv σ2 H4 fun z H5 => ∃ kvs k b, y = .ref b ∧ H5 b = some (.tup (k.map kV)) ∧ H5 D = some (.dT kvs) ∧ kvs.length < sizeLine ∧ Pv (i + 1) (upd H5 D (.dT (putK kvs k z))) else Pv (i + 1) H3) (hd : ∀ H, Pv n H → Qd H) :
    ∃ W : Nat → Nat → Hp → Prop, (∃ m, W 0 m (upd H1 D (.dT []))) ∧ ∀ i m H, W i m H →
      (J.stop i H ∧ Qd H) ∨ (J.go i H ∧ ∃ Nx : Hp → Prop, (∀ H', Nx H' → ∃ m', m' < m ∧ W (i + 1) m' H') ∧ ∀ x H', J.yld i H x H' → g x (wipe σ vs) H' fun σ2 H2 => wipe σ2 vs = wipe σ vs ∧ tt σ2 H2 fun bb H3 =>
        if bb = true then tk σ2 H3 fun y H4 => tv σ2 H4 fun z H5 => ∃ kvs k b, y = .ref b ∧ H5 b = some (.tup (k.map kV)) ∧ H5 D = some (.dT kvs) ∧ kvs.length < sizeLine ∧ Nx (upd H5 D (.dT (putK kvs k z))) else Nx H3) := by
  refine ⟨fun i m H => m = n - i ∧ i ≤ n ∧ Pv i H, ⟨n, by simp, Nat.zero_le _, h0⟩, ?_⟩
  rintro i m H ⟨rfl, hi, p⟩
  have q := hG i H hi p
  by_cases hlt : i < n
  · refine .inr ⟨w.goes i H hlt q, Pv (i + 1), fun H' p' => ⟨n - (i + 1), by omega, rfl, hlt, p'⟩, fun x H' y => hs i x H H' hlt p (w.yields i H x H' hlt q y)⟩
  · have e : i = n := by omega
    subst e
    exact .inl ⟨w.stops H q, hd H p⟩
/-- the same without tests -/
theorem dcT_itw (w : Walk J n G Y) {g : TG} {tk tv : TE} {vs : List Nat} {σ : L2.St} {H1 : Hp} {D : Addr} {Qd : Hp → Prop} (Pv : Nat → Hp → Prop) (h0 : Pv 0 (upd H1 D (.dT []))) (hG : ∀ i H, i ≤ n → Pv i H → G H)
    (hs : ∀ i x H H', i < n → Pv i H → Y i H x H' → g x (wipe σ vs) H' fun σ2 H2 => wipe σ2 vs = wipe σ vs ∧ tk σ2 H2 fun y H4 => tv σ2 H4 fun z H5 => ∃ kvs k b, y = .ref b ∧ H5 b = some (.tup (k.map kV)) ∧ H5 D = some (.dT kvs) ∧ kvs.length < sizeLine ∧ Pv (i + 1) (upd H5 D (.dT (putK kvs k z)))) (hd : ∀ H, Pv n H → Qd H) :
    ∃ W : Nat → Nat → Hp → Prop, (∃ m, W 0 m (upd H1 D (.dT []))) ∧ ∀ i m H, W i m H →
      (J.stop i H ∧ Qd H) ∨ (J.go i H ∧ ∃ Nx : Hp → Prop, (∀ H', Nx H' → ∃ m', m' < m ∧ W (i + 1) m' H') ∧ ∀ x H', J.yld i H x H' → g x (wipe σ vs) H' fun σ2 H2 => wipe σ2 vs = wipe σ vs ∧
        tk σ2 H2 fun y H4 => tv σ2 H4 fun z H5 => ∃ kvs k b, y = .ref b ∧ H5 b = some (.tup (k.map kV)) ∧ H5 D = some (.dT kvs) ∧ kvs.length < sizeLine ∧ Nx (upd H5 D (.dT (putK kvs k z)))) := by
  refine ⟨fun i m H => m = n - i ∧ i ≤ n ∧ Pv i H, ⟨n, by simp, Nat.zero_le _, h0⟩, ?_⟩
  rintro i m H ⟨rfl, hi, p⟩
  have q := hG i H hi p
  by_cases hlt : i < n
  · refine .inr ⟨w.goes i H hlt q, Pv (i + 1), fun H' p' => ⟨n - (i + 1), by omega, rfl, hlt, p'⟩, fun x H' y => hs i x H H' hlt p (w.yields i H x H' hlt q y)⟩
  · have e : i = n := by omega
    subst e
    exact .inl ⟨w.stops H q, hd H p⟩
end
/-- what the top has written of Question -/
structure QueT (K : PySem.W.Frag) (mg : Str → Option Value) (C fI : Addr) : Prop where
  g : mg "Question" = some (.ref C)
  cl : Cls K C
  nF : NoAttr K C "folders"
  nT : NoAttr K C "table"
  make : Mk K C fI
/-- the i-th key of the places -/
theorem places_key {ch : Bool} {zs : List Str} (nd : zs.Nodup) {i : Nat} {k : List Key} {v : V} (h : (placesOf (lotsFor ch zs))[i]? = some (k, v)) : ∃ l, (lotsFor ch zs)[i]? = some l ∧ k = l.map Sum.inr := by
  have hk := places_keys (lots_nodup (ch := ch) nd) (lotsFor ch zs).length (Nat.le_refl _)
  rw [List.take_length] at hk
  have e : ((placesOf (lotsFor ch zs)).map (·.1))[i]? = some k := by
    rw [List.getElem?_map, h]
    rfl
  rw [hk, List.getElem?_map] at e
  obtain ⟨l, h1, h2⟩ := Option.map_eq_some_iff.mp e
  exact ⟨l, h1, h2.symm⟩
theorem places_length {ch : Bool} {zs : List Str} (nd : zs.Nodup) : (placesOf (lotsFor ch zs)).length = (lotsFor ch zs).length := by
  have hk := places_keys (lots_nodup (ch := ch) nd) (lotsFor ch zs).length (Nat.le_refl _)
  rw [List.take_length] at hk
  have := congrArg List.length hk
  rw [List.length_map, List.length_map] at this
  exact this
theorem str_key (l : List Str) : (l.map Sum.inr : List Key).map kV = l.map V.str := by
  rw [List.map_map]
  rfl
end Bk

namespace Bk
open PySem PySem.Spec PyProof.Rows L2
/-- Question(folders, weights): the entries F that are told -/
def spQuest (K : PySem.W.Frag) (C CQ : Addr) : Sp := fun vs H Q _ => ∃ (q x dq dx t pd : Addr) (wv : V) (zs : List Str) (ch : Bool) (wt : List Str → Int), vs = [.ref q, .ref x, wv] ∧ H q = some (.ins CQ dq []) ∧ H x = some (.ins C dx (foldersF t pd ch)) ∧ H t = some (.tup (zs.map V.str)) ∧ H pd = some (.dT (placesOf (lotsFor ch zs))) ∧
  zs.Nodup ∧ zs.length ≤ mostFor ch ∧ ((wv = .non ∧ ∀ l ∈ lotsFor ch zs, wt l = 0) ∨ ∃ (d : Addr) (es : List (List Str × Int)), wv = .ref d ∧ pd ≠ d ∧ H d = some (.dT (tabV (entT es))) ∧ Ents ch zs es ∧ ∀ l ∈ lotsFor ch zs, wt l = (getT (foundT zs es) (l.map Sum.inr)).getD 0) ∧
  ∀ H', QuestAt C CQ H' q x zs ch wt → (∀ b u, b ≠ q → H b = some u → H' b = some u) → Q .non H'
section
variable {P : Program} {w : World} {K : PySem.W.Frag} {mg : Str → Option Value} {base : Heap}
theorem scQuest : FnScope ["self", "folders", "weights", "told", "lot"] ["self", "folders", "weights"] (defScope (inClass (topS 45) 0)) := ⟨rfl, rfl, rfl, by decide +kernel, rfl, by decide +kernel, by decide +kernel⟩
theorem ok_quest (B : Bi mg) {C CQ f0 fQ f f1 : Addr} {fd fd1 : FuncData} {dvs : List V} (T : FolT K mg C f0) (TQ : QueT K mg CQ fQ) (c_numbers_by_lots : Cal P w K mg base CX0 3 "numbers_by_lots" f1 fd1 ["folders", "weights"] (spNums K C))
    (F : FunD K "__init__" "Question.__init__" (defArgs (inClass (topS 45) 0)) (defBody (inClass (topS 45) 0)) (defScope (inClass (topS 45) 0)) dvs [] f fd) : FnOk P w K mg base CX0 4 f fd ["self", "folders", "weights"] (spQuest K C CQ) := by
  refine F.ok scQuest (fun vs H Q E h => ?_) (fun cdv A outer s H vs Q E hr h => ?_)
  · obtain ⟨q, x, dq, dx, t, pd, wv, zs, ch, wt, rfl, _⟩ := h
    rfl
  · obtain ⟨q, x, dq, dx, t, pd, wv, zs, ch, wt, rfl, hq, hx, ht, hp, nz, lz, hw, qq⟩ := h
    have nd := scQuest.nd
    have hu := hu_of hr
    have l12 : zs.length ≤ 12 := Nat.le_trans lz (by cases ch <;> decide)
    have hr_numbers_by_lots : Room 3 _ := hr.mono (by decide)
    refine ⟨_, (Evl.pss_cut (ps_set (i := 3) nd rfl (Or.inr rfl) (pe_ifExp (pt_cmpR op_isN (pv 2) pe_non (nomark _)) pe_dnewT (pe_call c_numbers_by_lots.ok hr_numbers_by_lots (by rfl) c_numbers_by_lots.g c_numbers_by_lots.kp c_numbers_by_lots.b .nil pass0 (pa_cons (pv 1) (pa_cons (pv 2) pa_nil)))))
      (pss_cons (ps_fld (pv 0) (pv 1) rfl)
      (pss_one (ps_fld (pv 0) (pe_lock (pe_dcTI (own := [("lot", 4)]) hr.units0 rfl nd (pi_keys (pe_fld (pv 1) rfl)) (blkOk_by (N := ["self", "folders", "weights", "told", "lot"]) (sc := defScope (inClass (topS 45) 0)) (by decide +kernel)) (fun _ _ _ _ _ => (pg_name (i := 4) nd rfl (Or.inl rfl))) (fun _ _ _ _ _ => (pts_one (pt_cmpR op_ne (pe_dget2 hu (pv 3) (pv 4) pe_int ⟨rfl, rfl, rfl, rfl⟩) pe_int (nomark _)))) (fun _ _ _ _ _ => (pv 4)) (fun _ _ _ _ _ => (pe_dget hu (pv 3) (pv 4) (fun _ _ => rfl))))) rfl)))), ?_⟩
    -- told
    refine ⟨fun σ1 H1 => ∃ (D : Addr) (F : List (List Key × Int)), σ1 = [some (.ref q), some (.ref x), some wv, some (.ref D), none] ∧ H D = none ∧ Same H H1 ∧ H1 D = some (.dT (tabV F)) ∧ ∀ l ∈ lotsFor ch zs, wt l = (getT F (l.map Sum.inr)).getD 0, ?_, ?_⟩
    · rcases hw with ⟨rfl, h0⟩ | ⟨d, es, rfl, npd, hd, hE, h0⟩
      · refine ⟨_, rfl, rfl, _, rfl, ?_⟩
        refine iteT ?_
        intro D nD
        exact ⟨D, [], rfl, nD, same_upd nD, upd_same, fun l m => by rw [h0 l m]; rfl⟩
      · refine ⟨_, rfl, rfl, _, rfl, ?_⟩
        refine iteF ?_
        exact ⟨_, rfl, _, rfl, x, d, dx, t, pd, zs, ch, es, rfl, hx, ht, hp, npd, nz, l12, hd, hE, fun D H' nD e1 hD => ⟨D, _, rfl, nD, e1, hD, h0⟩⟩
    rintro σ1 H1 ⟨D, F, rfl, nD, e1, hD1, hwt⟩
    -- self.folders
    have hxq : x ≠ q := fun z => by subst z; rw [hx] at hq; injection hq with hq; injection hq with _ _ h3; cases h3
    have htq : t ≠ q := ne_of ht hq (fun z => nomatch z)
    have hpq : pd ≠ q := ne_of hp hq (fun z => nomatch z)
    have hDq : D ≠ q := (ne_of_none hq nD).symm
    refine ⟨_, rfl, _, rfl, q, CQ, dq, [], rfl, e1 _ _ hq, TQ.cl, TQ.nF, by decide, ?_⟩
    rw [putq1]
    have hq2 : upd H1 q (.ins CQ dq [("folders", .ref x)]) q = some (.ins CQ dq [("folders", .ref x)]) := upd_same
    have k2 : ∀ b u, b ≠ q → H b = some u → upd H1 q (.ins CQ dq [("folders", .ref x)]) b = some u := fun b u nb z => by rw [upd_ne nb]; exact e1 _ _ z
    have hD2 : upd H1 q (.ins CQ dq [("folders", .ref x)]) D = some (.dT (tabV F)) := by rw [upd_ne hDq]; exact hD1
    generalize upd H1 q (.ins CQ dq [("folders", .ref x)]) = H2 at hq2 k2 hD2 ⊢
    -- self.table
    have hp2 := k2 _ _ hpq hp
    refine ⟨pd, _, hp2, trivial, fun od => ?_⟩
    have hxp : x ≠ pd := ne_of hx hp (fun z => nomatch z)
    have htp : t ≠ pd := ne_of ht hp (fun z => nomatch z)
    have hqp : q ≠ pd := hpq.symm
    have hDp : D ≠ pd := (ne_of_none hp nD).symm
    have hx3 : upd H2 pd (.frz od (.dT (placesOf (lotsFor ch zs)))) x = some (.ins C dx (foldersF t pd ch)) := by rw [upd_ne hxp]; exact k2 _ _ hxq hx
    have hp3 : upd H2 pd (.frz od (.dT (placesOf (lotsFor ch zs)))) pd = some (.frz od (.dT (placesOf (lotsFor ch zs)))) := upd_same
    have hD3 : upd H2 pd (.frz od (.dT (placesOf (lotsFor ch zs)))) D = some (.dT (tabV F)) := by rw [upd_ne hDp]; exact hD2
    refine ⟨_, rfl, x, C, dx, _, _, rfl, hx3, T.cl, T.nP, look_places _ _ _, pd, od, rfl, .inr ⟨_, hp3, fun D2 nD2 => ?_⟩⟩
    have lots3 : (lotsFor ch zs).length ≤ 2000 := lots_few lz
    refine dcI_it walk_keysT (fun i H' => Same (upd H2 pd (.frz od (.dT (placesOf (lotsFor ch zs))))) H' ∧ H' D2 = some (.dT (tabV (tabL (((lotsFor ch zs).take i).filter fun l => decide (wt l ≠ 0)) wt)))) ?_ (fun i H' _ ⟨e3, _⟩ => e3 _ _ hp3) ?_ ?_
    · exact ⟨same_upd nD2, upd_same⟩
    · rintro i y H3 H4 hi ⟨e3, hd3⟩ ⟨rfl, k, v, qa, hk, rfl, hqa⟩
      obtain ⟨l, hl, rfl⟩ := places_key nz hk
      refine ⟨rfl, ?_⟩
      have hqs : H4 qa = some (.tup ((l.map Sum.inr : List Key).map kV)) := hqa
      have hget : (valV (tabV F) (l.map Sum.inr)).getD (.int 0) = .int (wt l) := by
        rw [valV_tab, hwt l (List.mem_of_getElem? hl)]
        cases getT F (l.map Sum.inr) <;> rfl
      refine ⟨_, rfl, D, rfl, .inr ⟨_, .inl (e3 _ _ hD3)⟩, _, rfl, _, DGet.t (e3 _ _ hD3) hqs, ?_⟩
      rw [hget]
      refine ⟨rfl, _, rfl, ?_⟩
      have htake : (((lotsFor ch zs).take (i + 1)).filter fun l => decide (wt l ≠ 0)) = (((lotsFor ch zs).take i).filter fun l => decide (wt l ≠ 0)) ++ if wt l = 0 then [] else [l] := by
        rw [take_succ hl, List.filter_append]
        by_cases z : wt l = 0
        · simp [z]
        · simp [z]
      by_cases z : wt l = 0
      · rw [show (!decide (V.int (wt l) = V.int 0)) = false by rw [z]; rfl]
        rw [if_pos z, List.append_nil] at htake
        refine iteF ?_
        exact ⟨e3, by rw [htake]; exact hd3⟩
      · rw [show (!decide (V.int (wt l) = V.int 0)) = true by rw [decide_eq_false (fun h => z (by injection h))]; rfl]
        rw [if_neg z] at htake
        refine iteT ?_
        have hg : getT F (l.map Sum.inr) = some (wt l) := by
          have h := hwt l (List.mem_of_getElem? hl)
          cases e : getT F (l.map Sum.inr) with
          | none => rw [e] at h; exact absurd h z
          | some j => rw [e] at h; rw [h]; rfl
        refine ⟨_, rfl, _, rfl, _, rfl, D, .int (wt l), rfl, ?_, _, l.map Sum.inr, qa, rfl, hqs, hd3, ?_, Same.grow e3 nD2, ?_⟩
        · have := DGet.t (e3 _ _ hD3) hqs
          rw [valV_tab, hg] at this
          exact this
        · rw [tab_len]
          unfold tabL
          rw [List.length_map]
          have h1 := List.length_filter_le (fun l => decide (wt l ≠ 0)) ((lotsFor ch zs).take i)
          rw [List.length_take] at h1
          exact Evl.sz_lt (by omega)
        · have hnew : l ∉ ((lotsFor ch zs).take i).filter fun l => decide (wt l ≠ 0) := by
            intro m
            obtain ⟨j, hj, e⟩ := List.mem_take_iff_getElem.mp (List.mem_filter.mp m).1
            have hil := (List.getElem?_eq_some_iff.mp hl).1
            have := nodup_inj (lots_nodup (ch := ch) nz) (i := j) (j := i) (by omega) hil (by
              rw [e]
              exact (List.getElem?_eq_some_iff.mp hl).2.symm)
            omega
          rw [upd_same, tab_put hnew, htake]
    · rintro H3 ⟨e3, hd3⟩
      rw [places_length nz, List.take_length] at hd3
      refine ⟨e3 _ _ hp3, ?_⟩
      have hq3 : upd H2 pd (.frz od (.dT (placesOf (lotsFor ch zs)))) q = some (.ins CQ dq [("folders", .ref x)]) := by rw [upd_ne hqp]; exact hq2
      have ht3 : upd H2 pd (.frz od (.dT (placesOf (lotsFor ch zs)))) t = some (.tup (zs.map V.str)) := by rw [upd_ne htp]; exact k2 _ _ htq ht
      have n2p : D2 ≠ pd := (ne_of_none hp3 nD2).symm
      have n2q : D2 ≠ q := (ne_of_none hq3 nD2).symm
      refine ⟨_, rfl, q, CQ, dq, [("folders", .ref x)], rfl, by rw [upd_ne hqp]; exact e3 _ _ hq3, TQ.cl, TQ.nT, by show 1 < 1000; decide, ?_⟩
      rw [putq2]
      refine qq _ ⟨dq, D2, upd_same, ⟨dx, t, pd, ?_, ?_, ?_⟩, ?_⟩ fun b u nb z => ?_
      · rw [upd_ne hxq, upd_ne hxp]; exact e3 _ _ hx3
      · rw [upd_ne htq, upd_ne htp]; exact e3 _ _ ht3
      · rw [upd_ne hpq, upd_same]
      · rw [upd_ne n2q, upd_ne n2p]; exact hd3
      · rw [upd_ne nb]
        by_cases nb2 : b = pd
        · subst nb2
          rw [upd_same, ← z, hp]
        · rw [upd_ne nb2]
          refine e3 _ _ ?_
          rw [upd_ne nb2]
          exact k2 _ _ nb z
end
end Bk

/-! the same with K told, and xs[::-1] -/
namespace Bk
open PySem PySem.Spec PyProof.Rows L2
section
variable {X : Cx} {CX : CXT} {n : Nat} {C f : Addr} {fd : FuncData} {ps : List Str} {sp : Sp} {E : XK} (K : PySem.W.Frag)
theorem kEqOwn (F : FnOk X.prog X.w X.K X.mg X.base CX n f fd ps sp) (hb : Binds X.K fd ps []) (hx : Passes CX X E) (hr : Room n X.A) (m : Own X.K C "__eq__" f) (e : X.K = K := by rfl) : OpR X (compareOp .Eq) (rCmpOwn K C sp E) := e ▸ op_cmpOwn (op := .Eq) F hb hx hr m
theorem kEqRefl (F : FnOk X.prog X.w X.K X.mg X.base CX n f fd ps sp) (hb : Binds X.K fd ps []) (hx : Passes CX X E) (hr : Room n X.A) (m : Own X.K C "__eq__" f) (e : X.K = K := by rfl) : OpR X (compareOp .Eq) (rEqRefl K C sp E) := e ▸ op_eqRefl F hb hx hr m
theorem kRev {e : Expr} {te : TE} {k : Nat} {p1 p2 p3 pos : Pos} (he : PE X e te) (h : X.K = K := by rfl) : PE X (.Subscript e (.Slice none none (some (.UnaryOp .USub (.Constant (.int 1) k p1) p2)) p3) pos) (tRevL K te) := h ▸ pe_revL he
end
end Bk

namespace Bk
open PySem PySem.Spec PyProof.Rows L2
def spWeight (K : PySem.W.Frag) (C CQ : Addr) : Sp := fun vs H Q _ => ∃ (q x a : Addr) (zs l : List Str) (ch : Bool) (wt : List Str → Int), vs = [.ref q, .ref a] ∧ QuestAt C CQ H q x zs ch wt ∧ zs.Nodup ∧ zs.length ≤ 12 ∧ l ∈ lotsFor ch zs ∧ zs.length ≤ mostFor ch ∧
  H a = some (.tup (l.map V.str)) ∧ ∀ H', Same H H' → Q (.int (wt l)) H'
def spQEq (K : PySem.W.Frag) (C CQ : Addr) : Sp := fun vs H Q _ => ∃ (q x q' x' : Addr) (zs zs' : List Str) (ch ch' : Bool) (wt wt' : List Str → Int), vs = [.ref q, .ref q'] ∧ QuestAt C CQ H q x zs ch wt ∧ QuestAt C CQ H q' x' zs' ch' wt' ∧
  (∀ z ∈ zs, isNameS z = true) ∧ (∀ z ∈ zs', isNameS z = true) ∧ ∀ H', Same H H' → Q (.bl (decide (zs = zs') && decide (ch = ch') && sameT (tableOf ch zs wt) (tableOf ch' zs' wt'))) H'
section
variable {P : Program} {w : World} {K : PySem.W.Frag} {mg : Str → Option Value} {base : Heap}
theorem scWeight : FnScope ["self", "lot", "known"] ["self", "lot"] (defScope (inClass (topS 45) 8)) := ⟨rfl, rfl, rfl, by decide +kernel, rfl, by decide +kernel, by decide +kernel⟩
theorem ok_weight (B : Bi mg) {C CQ f0 fQ f f1 : Addr} {fd fd1 : FuncData} (T : FolT K mg C f0) (TQ : QueT K mg CQ fQ) (c_lot_of : Cal P w K mg base CX0 2 "lot_of" f1 fd1 ["folders", "thing"] (spLotOf K C))
    (F : Fun K "weight" "Question.weight" (inClass (topS 45) 8) f fd) : FnOk P w K mg base CX0 3 f fd ["self", "lot"] (spWeight K C CQ) := by
  refine F.ok scWeight (fun vs H Q E h => ?_) (fun cdv A outer s H vs Q E hr h => ?_)
  · obtain ⟨q, x, a, zs, l, ch, wt, rfl, _⟩ := h
    rfl
  · obtain ⟨q, x, a, zs, l, ch, wt, rfl, QA, nz, l12, m, lz, ha, qq⟩ := h
    obtain ⟨dq, td, hq, FA, htd⟩ := QA
    have nd := scWeight.nd
    have hu := hu_of hr
    have hr_lot_of : Room 2 _ := hr.mono (by decide)
    refine ⟨_, (pss_cons (ps_set (i := 2) nd rfl (Or.inl rfl) (pe_call c_lot_of.ok hr_lot_of (by rfl) c_lot_of.g c_lot_of.kp c_lot_of.b .nil pass0 (pa_cons (pe_fld (pv 0) rfl) (pa_cons (pv 1) pa_nil))))
      (pss_cons (ps_if (pt_cmpR op_isN (pv 2) pe_non (nomark _)) (pss_one ps_no) pss_nil)
      (pss_one (ps_ret (pe_dget2 hu (pe_fld (pv 0) rfl) (pv 2) pe_int ⟨rfl, rfl, rfl, rfl⟩))))), ?_⟩
    have hl := lotOfV_lot (ch := ch) lz nz m
    refine ⟨_, rfl, q, CQ, dq, _, _, rfl, hq, TQ.cl, TQ.nF, look_folders _ _, _, rfl, x, .ref a, zs, ch, rfl, FA, nz, l12, .inr ⟨a, l.map V.str, rfl, .inr (SqT.of ha), sqs_kit (k := "tuple") (b1 := false) (b2 := true) (.base (.tup ha)) (by decide +kernel) (by decide +kernel), flat_strs _, ?_, fun H' e' hn => ?_, fun p l' H1 np e1 hl' hp1 => ?_⟩⟩
    · have := lot_len m
      rw [List.length_map]
      omega
    · rw [hl] at hn
      cases hn
    rw [hl] at hl'
    obtain rfl := Option.some.inj hl'
    refine ⟨_, rfl, rfl, _, rfl, ?_⟩
    refine iteF ?_
    have hp1' : H1 p = some (.tup ((l.map Sum.inr : List Key).map kV)) := by rw [hp1, str_key]
    refine ⟨_, rfl, q, CQ, dq, _, _, rfl, e1 _ _ hq, TQ.cl, TQ.nT, look_table _ _, td, rfl, .inr ⟨_, .inl (e1 _ _ htd)⟩, _, rfl, _, DGet.t (e1 _ _ htd) hp1', ?_⟩
    have hg := getT_table (wt := wt) m
    rw [valV_tab]
    have : ((getT (tableOf ch zs wt) (l.map Sum.inr)).map V.int).getD (.int 0) = .int (wt l) := by
      rw [← hg]
      cases getT (tableOf ch zs wt) (l.map Sum.inr) <;> rfl
    rw [this]
    exact qq H1 e1
theorem scQEq : FnScope ["self", "other"] ["self", "other"] (defScope (inClass (topS 45) 1)) := ⟨rfl, rfl, rfl, by decide +kernel, rfl, by decide +kernel, by decide +kernel⟩
theorem ok_qeq (B : Bi mg) {C CQ f0 fQ fE f : Addr} {fdE fd : FuncData} (T : FolT K mg C f0) (TQ : QueT K mg CQ fQ) (kQ : PySem.W.kitOne K (.ref CQ) (.ref CQ) = some true) (tQ : ∀ (H : Hp) (x dx : Addr) (fs : List (Str × V)), H x = some (.ins CQ dx fs) → TyX K H (.ref x) (.ref CQ))
    (kF : PySem.W.kitOne K (.ref C) (.ref C) = some true) (nC : PySem.W.notFirst K C (.ref C) = true) (tF : ∀ (H : Hp) (x dx : Addr) (fs : List (Str × V)), H x = some (.ins C dx fs) → TyX K H (.ref x) (.ref C))
    (GE : FnOk P w K mg base CX0 1 fE fdE ["self", "other"] (spFEq K C)) (bE : Binds K fdE ["self", "other"] []) (mE : Own K C "__eq__" fE)
    (F : Fun K "__eq__" "Question.__eq__" (inClass (topS 45) 1) f fd) : FnOk P w K mg base CX0 2 f fd ["self", "other"] (spQEq K C CQ) := by
  refine F.ok scQEq (fun vs H Q E h => ?_) (fun cdv A outer s H vs Q E hr h => ?_)
  · obtain ⟨q, x, q', x', zs, zs', ch, ch', wt, wt', rfl, _⟩ := h
    rfl
  · obtain ⟨q, x, q', x', zs, zs', ch, ch', wt, wt', rfl, ⟨dq, td, hq, FA, htd⟩, ⟨dq', td', hq', FA', htd'⟩, hn, hn', qq⟩ := h
    have nd := scQEq.nd
    have hu := hu_of hr
    have g_Question := TQ.g
    have hrE : Room 1 _ := hr.mono (by decide)
    refine ⟨_, (pss_one (ps_ret (pe_and (pe_callB (kIsi K) (by rfl) B.isinstance (by decide +kernel) (pa_cons (pv 1) (pa_cons (pe_glob (v := .ref _) (by rfl) g_Question rfl) pa_nil))) (pe_and (pe_cmpR (kEqOwn K GE bE pass0 hrE mE) (pe_fld (pv 0) rfl) (pe_fld (pv 1) rfl) (nomark _)) (pe_one (pe_cmpR (op_eqT hu) (pe_fld (pv 0) rfl) (pe_fld (pv 1) rfl) (nomark _))))))), ?_⟩
    refine ⟨_, rfl, .ref q', .ref CQ, .ref CQ, .ref CQ, true, rfl, .own _, tQ _ _ _ _ hq', kQ, _, rfl, ?_⟩
    refine iteT ?_
    obtain ⟨dx, t, pd, hx, _, _⟩ := id FA
    obtain ⟨dx', t', pd', hx', _, _⟩ := id FA'
    refine ⟨_, rfl, q, CQ, dq, _, _, rfl, hq, TQ.cl, TQ.nF, look_folders _ _, _, rfl, q', CQ, dq', _, _, rfl, hq', TQ.cl, TQ.nF, look_folders _ _, ?_⟩
    refine ⟨x, dx, _, .ref C, rfl, hx, tF _ _ _ _ hx', nC, x, .ref x', .ref C, zs, ch, _, rfl, FA, hn, tF _ _ _ _ hx', .inr ⟨kF, x', zs', ch', rfl, FA', hn', rfl⟩, fun H1 e1 => ⟨_, rfl, _, rfl, ?_⟩⟩
    have qq := qq H1 e1
    cases hb : decide (zs = zs') && decide (ch = ch') with
    | false =>
      rw [hb] at qq
      refine iteF ?_
      exact qq
    | true =>
      rw [hb, Bool.true_and] at qq
      refine iteT ?_
      refine ⟨_, rfl, q, CQ, dq, _, _, rfl, e1 _ _ hq, TQ.cl, TQ.nT, look_table _ _, _, rfl, q', CQ, dq', _, _, rfl, e1 _ _ hq', TQ.cl, TQ.nT, look_table _ _, ?_⟩
      exact ⟨td, td', _, _, rfl, rfl, e1 _ _ htd, e1 _ _ htd', qq⟩
end
end Bk

/-! comprehensions that map or filter, over lists, tuples and the places -/
namespace Bk
open PySem PySem.Spec PyProof.Rows L2
section
variable {J : It} {G : Hp → Prop} {xs : List V}
/-- [F(x) for x in xs] -/
theorem map_it (w : Walk J xs.length G (YAt xs)) {g : TG} {te : TE} {vs : List Nat} {σ : L2.St} {H1 : Hp} {D : Addr} {Qd : Hp → Prop} (F : V → V) (nD : H1 D = none) (hG : ∀ H', Same H1 H' → G H') (hl : xs.length ≤ 100000)
    (hs : ∀ v H' (R : VK), v ∈ xs → Same H1 H' → (∀ H2, Same H' H2 → R (F v) H2) → g v (wipe σ vs) H' fun σ2 H2 => wipe σ2 vs = wipe σ vs ∧ te σ2 H2 R)
    (hd : ∀ H', Same H1 H' → H' D = some (.lst (xs.map F)) → Qd H') :
    ∃ W : Nat → Nat → Hp → Prop, (∃ m, W 0 m (upd H1 D (.lst []))) ∧ ∀ i m H, W i m H →
      (J.stop i H ∧ Qd H) ∨ (J.go i H ∧ ∃ Nx : Hp → Prop, (∀ H', Nx H' → ∃ m', m' < m ∧ W (i + 1) m' H') ∧ ∀ x H', J.yld i H x H' → g x (wipe σ vs) H' fun σ2 H2 => wipe σ2 vs = wipe σ vs ∧ tYes σ2 H2 fun b H3 =>
        if b = true then te σ2 H3 fun y H4 => ∃ acc, H4 D = some (.lst acc) ∧ acc.length < sizeLine ∧ Nx (upd H4 D (.lst (acc ++ [y]))) else Nx H3) := by
  refine lc_it w (Upto H1 D xs F) (.zero nD) (fun i H' _ u => hG H' u.sm) ?_ fun H' u => hd H' u.sm (u.all rfl)
  rintro i x H' H2 hi u ⟨rfl, hx⟩
  have h := hs x H2 (fun y H4 => ∃ acc, H4 D = some (.lst acc) ∧ acc.length < sizeLine ∧ Upto H1 D xs F (i + 1) (upd H4 D (.lst (acc ++ [y])))) (List.mem_of_getElem? hx) u.sm fun H3 e3 => u.next nD hx e3 hl
  exact h
/-- [x for x in xs if p(x)] -/
theorem filt_it (w : Walk J xs.length G (YAt xs)) {g : TG} {tt : TT} {vs : List Nat} {k : Nat} {σ : L2.St} {H1 : Hp} {D : Addr} {Qd : Hp → Prop} (p : V → Bool) (nD : H1 D = none) (hG : ∀ H', Same H1 H' → G H') (hl : xs.length ≤ 100000)
    (hs : ∀ v H' (R : L2.St → Bool → Hp → Prop), v ∈ xs → Same H1 H' → (∀ σ2 H2, σ2[k]? = some (some v) → Same H' H2 → R σ2 (p v) H2) → g v (wipe σ vs) H' fun σ2 H2 => wipe σ2 vs = wipe σ vs ∧ tt σ2 H2 (R σ2))
    (hd : ∀ H', Same H1 H' → H' D = some (.lst (xs.filter p)) → Qd H') :
    ∃ W : Nat → Nat → Hp → Prop, (∃ m, W 0 m (upd H1 D (.lst []))) ∧ ∀ i m H, W i m H →
      (J.stop i H ∧ Qd H) ∨ (J.go i H ∧ ∃ Nx : Hp → Prop, (∀ H', Nx H' → ∃ m', m' < m ∧ W (i + 1) m' H') ∧ ∀ x H', J.yld i H x H' → g x (wipe σ vs) H' fun σ2 H2 => wipe σ2 vs = wipe σ vs ∧ tt σ2 H2 fun b H3 =>
        if b = true then tVar k σ2 H3 fun y H4 => ∃ acc, H4 D = some (.lst acc) ∧ acc.length < sizeLine ∧ Nx (upd H4 D (.lst (acc ++ [y]))) else Nx H3) := by
  refine lc_it w (UptoF H1 D xs id p) (.zero nD) (fun i H' _ u => hG H' u.sm) ?_ fun H' u => hd H' u.sm (by have := u.all rfl; rwa [List.map_id] at this)
  rintro i x H' H2 hi u ⟨rfl, hx⟩
  have h := hs x H2 (fun σ2 b H3 => if b = true then tVar k σ2 H3 fun y H4 => ∃ acc, H4 D = some (.lst acc) ∧ acc.length < sizeLine ∧ UptoF H1 D xs id p (i + 1) (upd H4 D (.lst (acc ++ [y]))) else UptoF H1 D xs id p (i + 1) H3) (List.mem_of_getElem? hx) u.sm fun σ2 H3 e2 e3 => by
    cases hp : p x with
    | true =>
      rw [if_pos rfl]
      exact ⟨_, e2, u.yes nD hx hp e3 hl⟩
    | false =>
      rw [if_neg Bool.false_ne_true]
      exact u.no hx hp e3
  exact h
end
/-- what a list or a tuple in a slot is gone through -/
def iLT (K : PySem.W.Frag) (tl : TE) : TI := fun σ H R => iList K tl σ H R ∨ iTup K tl σ H R
section
variable {K : PySem.W.Frag} {a : Addr} {xs : List V} {i : Nat} {σ : L2.St} {H : Hp}
theorem walk_S {R : It → Hp → Prop} (hv : σ[i]? = some (some (.ref a))) (hS : SqL K H a xs ∨ SqT K H a xs) (h : ∀ (J : It) (G : Hp → Prop), Walk J xs.length G (YAt xs) → (∀ H', Same H H' → G H') → R J H) : iLT K (tVar i) σ H R := by
  rcases hS with hS | hS
  · exact .inl ⟨_, hv, a, rfl, ⟨xs, hS⟩, h _ _ walk_list fun H' e => e.seq hS⟩
  · exact .inr ⟨_, hv, a, rfl, ⟨xs, hS⟩, h _ _ walk_tup fun H' e => Same.sqt e hS⟩
theorem for_S {g : TG} {tb : TS} {D : Ends} (hv : σ[i]? = some (some (.ref a))) (hS : SqL K H a xs ∨ SqT K H a xs) (Pv : Nat → L2.St → Hp → Prop) (h0 : Pv 0 σ H) (hG : ∀ k σ' H', Pv k σ' H' → Same H H')
    (hs : ∀ k x σ' H', k < xs.length → xs[k]? = some x → Pv k σ' H' → g x σ' H' fun σ2 H3 => tb { D with nx := Pv (k + 1), ct := Pv (k + 1), bk := D.nx } σ2 H3) (hd : ∀ σ' H', Pv xs.length σ' H' → D.nx σ' H') :
    tFor (iLT K (tVar i)) g tb D σ H :=
  walk_S hv hS fun J G wk kG => for_it wk Pv h0 (fun k σ' H' _ p => kG H' (hG k σ' H' p)) (fun k x σ' H' H2 hk p y => by
    obtain ⟨rfl, hx⟩ := y
    exact hs k x σ' H2 hk hx p) hd
theorem map_S {g : TG} {te : TE} {vs : List Nat} {Q : VK} (F : V → V) (hv : σ[i]? = some (some (.ref a))) (hS : SqL K H a xs ∨ SqT K H a xs) (hl : xs.length ≤ 100000)
    (hs : ∀ v H' (R : VK), v ∈ xs → Same H H' → (∀ H2, Same H' H2 → R (F v) H2) → g v (wipe σ vs) H' fun σ2 H2 => wipe σ2 vs = wipe σ vs ∧ te σ2 H2 R)
    (hd : ∀ D H', H D = none → Same H H' → H' D = some (.lst (xs.map F)) → Q (.ref D) H') : tLc (iLT K (tVar i)) g tYes te vs σ H Q :=
  walk_S hv hS fun J G wk kG D nD => map_it wk F nD kG hl hs fun H' e h => hd D H' nD e h
theorem map_L {g : TG} {te : TE} {vs : List Nat} {Q : VK} (F : V → V) (hv : σ[i]? = some (some (.ref a))) (hS : SqL K H a xs) (hl : xs.length ≤ 100000)
    (hs : ∀ v H' (R : VK), v ∈ xs → Same H H' → (∀ H2, Same H' H2 → R (F v) H2) → g v (wipe σ vs) H' fun σ2 H2 => wipe σ2 vs = wipe σ vs ∧ te σ2 H2 R)
    (hd : ∀ D H', H D = none → Same H H' → H' D = some (.lst (xs.map F)) → Q (.ref D) H') : tLc (iList K (tVar i)) g tYes te vs σ H Q :=
  ⟨_, hv, a, rfl, ⟨xs, hS⟩, fun D nD => map_it walk_list F nD (fun H' e => e.seq hS) hl hs fun H' e h => hd D H' nD e h⟩
theorem map_T {g : TG} {te : TE} {vs : List Nat} {Q : VK} (F : V → V) (hv : σ[i]? = some (some (.ref a))) (hS : SqT K H a xs) (hl : xs.length ≤ 100000)
    (hs : ∀ v H' (R : VK), v ∈ xs → Same H H' → (∀ H2, Same H' H2 → R (F v) H2) → g v (wipe σ vs) H' fun σ2 H2 => wipe σ2 vs = wipe σ vs ∧ te σ2 H2 R)
    (hd : ∀ D H', H D = none → Same H H' → H' D = some (.lst (xs.map F)) → Q (.ref D) H') : tLc (iTup K (tVar i)) g tYes te vs σ H Q :=
  ⟨_, hv, a, rfl, ⟨xs, hS⟩, fun D nD => map_it walk_tup F nD (fun H' e => Same.sqt e hS) hl hs fun H' e h => hd D H' nD e h⟩
end
/-- [lot for lot in folders.places if p(lot)] -/
theorem places_it {od : Obj} {pd D : Addr} {ch : Bool} {zs : List Str} {g : TG} {tt : TT} {vs : List Nat} {k : Nat} {σ : L2.St} {H1 : Hp} {Qd : Hp → Prop} (nz : zs.Nodup) (lz : zs.length ≤ mostFor ch) (p : List Str → Bool) (hp : H1 pd = some (.frz od (.dT (placesOf (lotsFor ch zs))))) (nD : H1 D = none)
    (hs : ∀ l q H' (R : L2.St → Bool → Hp → Prop), l ∈ lotsFor ch zs → Same H1 H' → H' q = some (.tup (l.map V.str)) → (∀ σ2 H2, σ2[k]? = some (some (.ref q)) → Same H' H2 → R σ2 (p l) H2) → g (.ref q) (wipe σ vs) H' fun σ2 H2 => wipe σ2 vs = wipe σ vs ∧ tt σ2 H2 (R σ2))
    (hd : ∀ ws H', Same H1 H' → H' D = some (.lst ws) → Ats H' (fun l : List Str => l.map V.str) ws ((lotsFor ch zs).filter p) → Qd H') :
    ∃ W : Nat → Nat → Hp → Prop, (∃ m, W 0 m (upd H1 D (.lst []))) ∧ ∀ i m H, W i m H →
      ((Itkt pd od (placesOf (lotsFor ch zs))).stop i H ∧ Qd H) ∨ ((Itkt pd od (placesOf (lotsFor ch zs))).go i H ∧ ∃ Nx : Hp → Prop, (∀ H', Nx H' → ∃ m', m' < m ∧ W (i + 1) m' H') ∧ ∀ x H', (Itkt pd od (placesOf (lotsFor ch zs))).yld i H x H' → g x (wipe σ vs) H' fun σ2 H2 => wipe σ2 vs = wipe σ vs ∧ tt σ2 H2 fun b H3 =>
        if b = true then tVar k σ2 H3 fun y H4 => ∃ acc, H4 D = some (.lst acc) ∧ acc.length < sizeLine ∧ Nx (upd H4 D (.lst (acc ++ [y]))) else Nx H3) := by
  have lots3 : (lotsFor ch zs).length ≤ 2000 := lots_few lz
  refine lc_it walk_keysT (fun i H' => ∃ ws, Same H1 H' ∧ H' D = some (.lst ws) ∧ Ats H' (fun l : List Str => l.map V.str) ws (((lotsFor ch zs).take i).filter p)) ⟨[], same_upd nD, upd_same, .nil⟩ (fun i H' _ ⟨_, e, _⟩ => e _ _ hp) ?_ ?_
  · rintro i x H' H2 hi ⟨ws, e, hD, at1⟩ ⟨rfl, kk, v, q, hk, rfl, hq⟩
    obtain ⟨l, hl, rfl⟩ := places_key nz hk
    rw [str_key] at hq
    have lenw : ws.length ≤ 2000 := by
      rw [at1.1]
      have h1 := List.length_filter_le p ((lotsFor ch zs).take i)
      rw [List.length_take] at h1
      omega
    have htake : ((lotsFor ch zs).take (i + 1)).filter p = ((lotsFor ch zs).take i).filter p ++ if p l = true then [l] else [] := by
      rw [take_succ hl, List.filter_append]
      cases h : p l <;> simp [h]
    exact hs l q H2 (fun σ2 b H3 => if b = true then tVar k σ2 H3 fun y H4 => ∃ acc, H4 D = some (.lst acc) ∧ acc.length < sizeLine ∧ (∃ ws, Same H1 (upd H4 D (.lst (acc ++ [y]))) ∧ (upd H4 D (.lst (acc ++ [y]))) D = some (.lst ws) ∧ Ats (upd H4 D (.lst (acc ++ [y]))) (fun l : List Str => l.map V.str) ws (((lotsFor ch zs).take (i + 1)).filter p)) else ∃ ws, Same H1 H3 ∧ H3 D = some (.lst ws) ∧ Ats H3 (fun l : List Str => l.map V.str) ws (((lotsFor ch zs).take (i + 1)).filter p))
      (List.mem_of_getElem? hl) e hq fun σ2 H3 e2 e3 => by
      cases h : p l with
      | true =>
        rw [if_pos rfl]
        have hD3 := e3 _ _ hD
        refine ⟨_, e2, ws, hD3, Evl.sz_lt (by omega), ws ++ [.ref q], Same.grow (Same.trans e e3) nD, upd_same, ?_⟩
        rw [htake, if_pos h]
        exact ((at1.same e3).append (Ats.one (e3 _ _ hq))).updL hD3
      | false =>
        rw [if_neg Bool.false_ne_true]
        refine ⟨ws, Same.trans e e3, e3 _ _ hD, ?_⟩
        rw [htake, if_neg (by rw [h]; exact Bool.false_ne_true), List.append_nil]
        exact at1.same e3
  · rintro H' ⟨ws, e, hD, at1⟩
    rw [places_length nz, List.take_length] at at1
    exact hd ws H' e hD at1
end Bk
namespace Bk
open PySem PySem.Spec PyProof.Rows L2
theorem tb1 {r : List V → Hp → VK → Prop} {te : TE} {σ : L2.St} {H : Hp} {R : Bool → Hp → Prop} (h : te σ H fun x H1 => r [x] H1 fun y H2 => ∃ c, y = .bl c ∧ R c H2) : tB (tCB r (tCons te tNil)) σ H R := h
end Bk

/-! iterators that come to their end while an exception is handled -/
namespace Bk
open PySem PySem.Spec PyProof.Rows L2 HotX
section
variable {prog : Program} {w : World} {A : Around} {E : Value → Shared → Prop} {s : Shared}
theorem hot_ne {x1 it : Addr} {o : Obj} {vs : Array Value} (hot : HotAt A x1 s.heap) (ho : s.heap.get? it = some o) (hd : o.data = .fields vs) (h2 : vs[2]? ≠ some .none) : x1 ≠ it := by
  obtain ⟨_, o1, v1, e1, d1, c1⟩ := hot
  intro e
  subst e
  rw [ho] at e1
  cases e1
  rw [hd] at d1
  cases d1
  exact h2 c1
/-- what is left of the end of an iterator once its field is cleared -/
theorem stop_hot {α : Type} {it x1 : Addr} {h1 : Heap} {Q : Option Value → Shared → Prop} (hot : HotAt A x1 h1) (eb : Heap.ExtBut it s.heap h1) (hit : ∃ o, s.heap.get? it = some o) (hQ : ∀ h', Heap.ExtBut it s.heap h' → Q none { s with heap := h' }) :
    wpAny (model prog w) A.in1 (Builtin.SmallTypes.stopIteration (α := α)) (fun _ _ => False) (fun e s1 => wpAny (model prog w) A (isInstance e (.type "StopIteration")) (fun b s2 => b = true ∧ Q none s2) E s1) { s with heap := h1 } := by
  show wpAny _ _ (newExc (.type "StopIteration") [] >>= _) _ _ _
  refine wpAny_bind ?_
  simp only [newExc, newTuple]
  refine wpAny_bind (wpAny_newObj_type ?_ (by size_fits))
  refine wpAny_bind (m := firstArgMember _ _) (wpAny_of_eq (a := Value.none) (by first | rfl | (simp only [firstArgMember]; rfl)) ?_)
  refine wpAny_newObj_type ?_ (by size_fits)
  obtain ⟨hh, o1, v1, e1, d1, c1⟩ := hot
  refine raiseNew_hot (x1 := x1) ⟨hh, o1, v1, Heap.get?_push_of_some _ (Heap.get?_push_of_some _ e1), d1, c1⟩ (Nat.ne_of_lt (Heap.lt_size (Heap.get?_push_of_some _ e1))) (Heap.get?_push_size _ rfl) rfl (by first | (simp; done) | (simp; omega) | (simp only [Array.size_append]; simp; omega)) ?_
  refine wpAny_isInstance (T := "StopIteration") (b := true) ⟨_, Heap.get?_update_self _ (Heap.get?_push_size _ rfl) rfl, rfl⟩ isSubtype_stop ⟨rfl, hQ _ fun b u hb e => ?_⟩
  have e2 := eb b u hb e
  rw [Heap.get?_update_other _ _ (Nat.ne_of_gt (Heap.lt_size (Heap.get?_push_of_some _ e2)))]
  exact Heap.get?_push_of_some _ (Heap.get?_push_of_some _ e2)
theorem hot_keep {x1 it : Addr} {f : Obj → Obj} {h : Heap} (hot : HotAt A x1 h) (nx : x1 ≠ it) : HotAt A x1 (h.update it f) := by
  obtain ⟨hh, o1, v1, e1, d1, c1⟩ := hot
  exact ⟨hh, o1, v1, by rw [Heap.get?_update_other _ _ nx.symm]; exact e1, d1, c1⟩
theorem hot_in {x1 : Addr} {h : Heap} (hot : HotAt A x1 h) : HotAt A.in1 x1 h := hot
/-- a list is at its end -/
theorem list_stop_hot {it l x1 : Addr} {i : Nat} {items : Array Value} {Q : Option Value → Shared → Prop} (hot : HotAt A x1 s.heap) (hit : s.heap.IsListIter it l i) (hl : s.heap.IsList l items) (hx : items[i]? = none)
    (hQ : ∀ h', Heap.ExtBut it s.heap h' → Q none { s with heap := h' }) : wpAny (model prog w) A (pyNext (.ref it)) Q E s := by
  obtain ⟨oi, hoi, hci, hdi⟩ := id hit
  obtain ⟨ol, hol, _, nl, hdl⟩ := hl
  have nx : x1 ≠ it := hot_ne hot hoi hdi (by simp)
  unfold pyNext
  refine wpAny_bind (wpAny_attempt (wpAny_callSpecial?_slot (name := Str.ofString "__next__") hit.typeIs slot_listiter_next (wpAny_call_entry slot_listiter_next hit.typeIs entry_listiter_next ?_ (args_listiter_next _))))
  show wpAny _ _ (field (.ref it) 0 >>= _) _ _ s
  refine wpAny_bind (wpAny_field hoi hdi (x := .ref l) rfl ?_)
  show wpAny _ _ (if (Value.ref l == Value.none) = true then _ else _) _ _ s
  rw [if_neg (by intro z; exact Bool.false_ne_true z : ¬ ((Value.ref l == Value.none) = true))]
  show wpAny _ _ (field (.ref it) 1 >>= _) _ _ s
  refine wpAny_bind (wpAny_field hoi hdi (x := .int i 0) rfl ?_)
  show wpAny _ _ (seqItems? (.ref l) >>= _) _ _ s
  refine wpAny_bind (wpAny_seqItems hol hdl ?_)
  simp only [Int.toNat_natCast, hx]
  refine wpAny_bind (wpAny_rule (wpAny_bind (wpAny_setField hoi hdi (by simp) ?_)))
  refine wpAny_mono (stop_hot (s := s) (E := E) (hot_keep hot nx) (Heap.SameBut.update ..).extBut ⟨_, hoi⟩ hQ) (fun _ _ z => False.elim z) fun e s1 h => ?_
  exact wpAny_bind (wpAny_mono h (fun b s2 ⟨hb, q⟩ => by subst hb; exact wpAny_pure q) fun _ _ z => z)
/-- a tuple is at its end -/
theorem tuple_stop_hot {it t x1 : Addr} {i : Nat} {items : Array Value} {Q : Option Value → Shared → Prop} (hot : HotAt A x1 s.heap) (hit : s.heap.IsTupleIter it t i) (ht : s.heap.IsTuple t items) (hx : items[i]? = none)
    (hQ : ∀ h', Heap.ExtBut it s.heap h' → Q none { s with heap := h' }) : wpAny (model prog w) A (pyNext (.ref it)) Q E s := by
  obtain ⟨oi, hoi, hci, hdi⟩ := id hit
  obtain ⟨ot, hot', _, nt, hdt⟩ := ht
  have nx : x1 ≠ it := hot_ne hot hoi hdi (by simp)
  unfold pyNext
  refine wpAny_bind (wpAny_attempt (wpAny_callSpecial?_slot (name := Str.ofString "__next__") hit.typeIs F.slot_tuple_iterator_next (wpAny_call_entry F.slot_tuple_iterator_next hit.typeIs F.entry_tuple_iterator_next ?_ (F.args_tuple_iterator_next_1 _))))
  show wpAny _ _ (field (.ref it) 0 >>= _) _ _ s
  refine wpAny_bind (wpAny_field hoi hdi (x := .ref t) rfl ?_)
  show wpAny _ _ (if (Value.ref t == Value.none) = true then _ else _) _ _ s
  rw [if_neg (by intro z; exact Bool.false_ne_true z : ¬ ((Value.ref t == Value.none) = true))]
  show wpAny _ _ (field (.ref it) 1 >>= _) _ _ s
  refine wpAny_bind (wpAny_field hoi hdi (x := .int i 0) rfl ?_)
  show wpAny _ _ (seqItems? (.ref t) >>= _) _ _ s
  refine wpAny_bind (wpAny_seqItems hot' hdt ?_)
  simp only [Int.toNat_natCast, hx]
  refine wpAny_bind (wpAny_rule (wpAny_bind (wpAny_setField hoi hdi (by simp) ?_)))
  refine wpAny_mono (stop_hot (s := s) (E := E) (hot_keep hot nx) (Heap.SameBut.update ..).extBut ⟨_, hoi⟩ hQ) (fun _ _ z => False.elim z) fun e s1 h => ?_
  exact wpAny_bind (wpAny_mono h (fun b s2 ⟨hb, q⟩ => by subst hb; exact wpAny_pure q) fun _ _ z => z)
/-- the keys of a dict are at their end -/
theorem key_stop_hot {it d x1 : Addr} {i n ep : Nat} {od : Obj} {es : Array DictEntry} {Q : Option Value → Shared → Prop} (hot : HotAt A x1 s.heap) (hit : s.heap.IsKeyIter it d i n ep) (hod : s.heap.get? d = some od) (hdd : od.data = .dict es ep) (hsz : es.size = n) (hge : n ≤ i)
    (hQ : ∀ h', Heap.ExtBut it s.heap h' → Q none { s with heap := h' }) : wpAny (model prog w) A (pyNext (.ref it)) Q E s := by
  obtain ⟨oi, hoi, hci, hdi⟩ := id hit
  have nx : x1 ≠ it := hot_ne hot hoi hdi (by simp [rawInt])
  unfold pyNext
  refine wpAny_bind (wpAny_attempt (wpAny_callSpecial?_slot (name := Str.ofString "__next__") hit.typeIs F.slot_dict_keyiterator_next (wpAny_call_entry F.slot_dict_keyiterator_next hit.typeIs F.entry_dict_keyiterator_next ?_ (F.args_dict_keyiterator_next_1 _))))
  refine wpAny_bind (wpAny_pure (wpAny_bind (wpAny_bind ?_)))
  first | refine wpAny_bind (wpAny_typeNameOfWhole_keyiter hit.typeIs (wpAny_pure (wpAny_bind (wpAny_fieldsOf hoi hdi ?_)))) | refine wpAny_bind (wpAny_typeNameOf_keyiter hit.typeIs (wpAny_pure (wpAny_bind (wpAny_fieldsOf hoi hdi ?_))))
  have own0 : Builtin.Dict_items.ownsTuple "dict_keyiterator" = false := by decide +kernel
  simp only [own0, Bool.false_eq_true, if_false]
  show wpAny _ _ (if (Value.ref d == Value.none) = true then _ else _) _ _ s
  rw [if_neg (by intro z; exact Bool.false_ne_true z : ¬ ((Value.ref d == Value.none) = true))]
  refine wpAny_bind (wpAny_pure (wpAny_bind (wpAny_dictEntries hod hdd ?_)))
  rw [if_neg (by rw [hsz]; simp)]
  refine wpAny_bind (wpAny_pure (wpAny_bind (wpAny_dictEpoch hod hdd ?_)))
  rw [if_neg (by simp)]
  refine wpAny_pure ?_
  have past : es.size ≤ i := by rw [hsz]; exact hge
  simp only [show ¬ ((i : Int) < 0) from by omega, if_false, Int.toNat_natCast, Array.getElem?_eq_none past]
  first | refine wpAny_bind (wpAny_bind (wpAny_typeNameOfWhole_keyiter hit.typeIs (wpAny_pure ?_))) | refine wpAny_bind (wpAny_bind (wpAny_typeNameOf_keyiter hit.typeIs (wpAny_pure ?_)))
  show wpAny _ _ (setField (.ref it) 0 .none >>= _) _ _ s
  refine wpAny_bind (wpAny_setField hoi hdi (by simp) ?_)
  refine wpAny_mono (stop_hot (s := s) (E := E) (hot_keep hot nx) (Heap.SameBut.update ..).extBut ⟨_, hoi⟩ hQ) (fun _ _ z => False.elim z) fun e s1 h => ?_
  exact wpAny_bind (wpAny_mono h (fun b s2 ⟨hb, q⟩ => by subst hb; exact wpAny_pure q) fun _ _ z => z)
end
end Bk

/-! lists, tuples and the keys of dicts gone through while an exception is handled -/
namespace Bk
open PySem PySem.Spec PyProof.Rows L2 HotX L2H
section
variable {P : Program} {w : World} {K : PySem.W.Frag} {tg : Expr}
theorem turnH_list (a it : Addr) : TurnH P w K tg (Itl K a) [it] it (fun i h => h.IsListIter it a i) where
  mem := List.mem_singleton.mpr rfl
  obj := fun i h st b hb => by
    obtain rfl := List.mem_singleton.mp hb
    obtain ⟨o, e, _, d⟩ := st
    exact ⟨o, e, fun v z => by rw [d] at z; exact nomatch z⟩
  keep := fun i h h' st k => st.at fun o e => k it (List.mem_singleton.mpr rfl) o e
  item := by
    intro X hP hw hK hc i pins s σ H E I hf st ⟨xs, x, hq, hx⟩
    subst hP hw hK
    obtain ⟨its, rv, pl, _⟩ := I.list hq
    obtain ⟨u, hu, ru⟩ := rv.get hx
    obtain ⟨g0, g1, g2, g3, g4, g5⟩ := hf it (List.mem_singleton.mpr rfl)
    refine wpAny_pyNext_list_item st pl.isList (x := u) (by simpa using hu) fun h2 st2 sb => ?_
    have I2 : Inv X pins σ H { s with heap := h2 } := I.turned (t' := s.toks) (fun b o hb e => (sb.2 b hb).trans e) g0 g1 g3 g4 g5
    obtain ⟨o, e, c, d⟩ := id st2
    exact ⟨u, rfl, go_of (s := { s with heap := h2 }) e c d (by decide) ⟨x, H, I2, ru, ⟨rfl, fun ys hy => by rw [I.list_inj hy hq]; exact hx⟩, st2, fun b hb => (hf b hb).1⟩⟩
  done := by
    intro X hP hw hK hc i pins s σ H E I hf st ⟨xs, hq, hx⟩
    subst hP hw hK
    obtain ⟨its, rv, pl, _⟩ := I.list hq
    obtain ⟨g0, g1, g2, g3, g4, g5⟩ := hf it (List.mem_singleton.mpr rfl)
    obtain ⟨x1, hot⟩ := hc.at I
    have hl := rv.length
    exact list_stop_hot hot st pl.isList (by simp; omega) fun h2 eb => ⟨rfl, I.turned (t' := s.toks) (fun b o hb e => eb b o hb e) g0 g1 g3 g4 g5⟩
  self := fun _ _ _ _ _ st q => wpAny_pyIter_listiter st q
theorem turnH_tuple (a it : Addr) : TurnH P w K tg (Itt K a) [it] it (fun i h => h.IsTupleIter it a i) where
  mem := List.mem_singleton.mpr rfl
  obj := fun i h st b hb => by
    obtain rfl := List.mem_singleton.mp hb
    obtain ⟨o, e, _, d⟩ := st
    exact ⟨o, e, fun v z => by rw [d] at z; exact nomatch z⟩
  keep := fun i h h' st k => st.at fun o e => k it (List.mem_singleton.mpr rfl) o e
  item := by
    intro X hP hw hK hc i pins s σ H E I hf st ⟨xs, x, hq, hx⟩
    subst hP hw hK
    obtain ⟨its, rv, pt, _⟩ := I.tuple hq
    obtain ⟨u, hu, ru⟩ := rv.get hx
    obtain ⟨g0, g1, g2, g3, g4, g5⟩ := hf it (List.mem_singleton.mpr rfl)
    refine wpAny_pyNext_tuple_item st (show s.heap.IsTuple a its.toArray from pt) (x := u) (by simpa using hu) fun h2 st2 sb => ?_
    have I2 : Inv X pins σ H { s with heap := h2 } := I.turned (t' := s.toks) (fun b o hb e => (sb.2 b hb).trans e) g0 g1 g3 g4 g5
    obtain ⟨o, e, c, d⟩ := id st2
    exact ⟨u, rfl, go_of (s := { s with heap := h2 }) e c d (by decide) ⟨x, H, I2, ru, ⟨rfl, fun ys hy => by rw [I.tuple_inj hy hq]; exact hx⟩, st2, fun b hb => (hf b hb).1⟩⟩
  done := by
    intro X hP hw hK hc i pins s σ H E I hf st ⟨xs, hq, hx⟩
    subst hP hw hK
    obtain ⟨its, rv, pt, _⟩ := I.tuple hq
    obtain ⟨g0, g1, g2, g3, g4, g5⟩ := hf it (List.mem_singleton.mpr rfl)
    obtain ⟨x1, hot⟩ := hc.at I
    have hl := rv.length
    exact tuple_stop_hot hot st (show s.heap.IsTuple a its.toArray from pt) (by simp; omega) fun h2 eb => ⟨rfl, I.turned (t' := s.toks) (fun b o hb e => eb b o hb e) g0 g1 g3 g4 g5⟩
  self := fun _ _ _ _ _ st q => wpAny_pyIter_tupleiter st q
theorem turnH_keys {d : Addr} {o : Obj} {es : Array DictEntry} {ep : Nat} {kvs : List (Key × V)} (it : Addr) (hod : o.data = .dict es ep) : TurnH P w K tg (Itk d o kvs) [it] it (fun i h => h.IsKeyIter it d i kvs.length ep) where
  mem := List.mem_singleton.mpr rfl
  obj := fun i h st b hb => by
    obtain rfl := List.mem_singleton.mp hb
    obtain ⟨oi, e, _, dd⟩ := st
    exact ⟨oi, e, fun v z => by rw [dd] at z; exact nomatch z⟩
  keep := fun i h h' st k => st.at fun o e => k it (List.mem_singleton.mpr rfl) o e
  item := by
    intro X hP hw hK hc i pins s σ H E I hf st ⟨hd, hi⟩
    subst hP hw hK
    obtain ⟨g0, g1, g2, g3, g4, g5⟩ := hf it (List.mem_singleton.mpr rfl)
    obtain ⟨hs, hgd, hx, es', ep', vs, hdt, hsz, kv, hm⟩ := I.frzK hd
    obtain ⟨rfl, rfl⟩ := dict_ep hod hdt
    obtain ⟨⟨k, v⟩, hkv⟩ : ∃ p, kvs[i]? = some p := ⟨_, List.getElem?_eq_getElem hi⟩
    obtain ⟨u, hu, ru⟩ := kv_get kv hkv
    have len : kvs.length = vs.length := Paired.length kv
    rw [len] at st
    refine wpAny_pyNext_dict_item st hm hu fun key h2 hkey st2 sb => ?_
    have I2 : Inv X pins σ H { s with heap := h2 } := I.turned (t' := s.toks) (fun b ob hb e => (sb.2 b hb).trans e) g0 g1 g3 g4 g5
    obtain ⟨oi, e, c, dd⟩ := id st2
    refine ⟨key, rfl, go_of (s := { s with heap := h2 }) e c dd (by decide) ⟨kV k, H, I2, relV_key (show keyIs k key = true from hkey), ⟨rfl, k, v, hkv, rfl⟩, ?_, fun b hb => (hf b hb).1⟩⟩
    show h2.IsKeyIter it d (i + 1) kvs.length _
    rw [len]
    exact st2
  done := by
    intro X hP hw hK hc i pins s σ H E I hf st ⟨hd, hi⟩
    subst hP hw hK
    obtain ⟨g0, g1, g2, g3, g4, g5⟩ := hf it (List.mem_singleton.mpr rfl)
    obtain ⟨hs, hgd, hx, es', ep', vs, hdt, hsz, kv, hm⟩ := I.frzK hd
    obtain ⟨rfl, rfl⟩ := dict_ep hod hdt
    obtain ⟨x1, hot⟩ := hc.at I
    exact key_stop_hot hot st hgd hdt hsz hi fun h2 eb => ⟨rfl, I.turned (t' := s.toks) (fun b ob hb e => eb b ob hb e) g0 g1 g3 g4 g5⟩
  self := fun _ _ _ _ _ st q => wpAny_pyIter_keyiter st q
end
end Bk

/-! list comprehensions while an exception is handled -/
namespace Bk
open PySem PySem.Spec PyProof.Rows L2 HotX L2H
/-- a comprehension's block there: the handled exception is still known to stand -/
abbrev Cx.bh (X : Cx) (p : Addr × Obj) (s : Shared) (H : Hp) (scope : Scope) (env : Env) (fp : List Addr) : Cx := { X.blk s H scope env fp with pn := [p], calm := false }
theorem bh_hot {X : Cx} {p : Addr × Obj} (hot : Hot1 X.A p) {s : Shared} {H : Hp} {scope : Scope} {env : Env} {fp : List Addr} : HotC (Cx.bh X p s H scope env fp) := ⟨p, hot, List.mem_singleton.mpr rfl⟩
section
variable {X : Cx} {pins : List (Addr × Obj)} {σ : L2.St} {H : Hp} {s : Shared} {p : Addr × Obj}
theorem bh_ok {scope : Scope} {env : Env} {fp : List Addr} (ok : (X.blk s H scope env fp).Ok) : (Cx.bh X p s H scope env fp).Ok :=
  ⟨ok.mod, ok.kind, ok.glob, ok.blt, ok.above, ok.inj, ok.has, ok.cab, (fun z => nomatch z), ok.frames, ok.stk, ok.exf, ok.bs, ok.bsz, ok.noex, ok.exfs, ok.funs, ok.frf⟩
/-- the block's start, with the pin -/
theorem bh_start {scope : Scope} {own : List (Str × Nat)} {fp : List Addr} (I : Inv X pins σ H s) (hp : p ∈ X.pn) (ok : BlkOk X.N X.env.scope scope own) (hN : X.N.Nodup) (hfp : ∀ b ∈ fp, FpOk X pins H b ∧ b < s.heap.objs.size) :
    Inv (Cx.bh X p s H scope (compEnvC scope (cellsFrom (s.heap.objs.size + 1) scope.names (cloFrom X.env.cells scope.names [])) s.heap.objs.size X.env) fp) [] (wipe σ (own.map (·.2))) H { s with heap := pushCells (s.heap.push { cls := .type "dict", data := .dict #[] }) scope.names } := by
  have B := block_start I ok hN hfp
  obtain ⟨g1, g2, g3, g4, g5⟩ := I.pin p (List.mem_append_left _ hp)
  refine ⟨bh_ok B.ok, B.os, B.bare, B.base, B.loc, B.cell, B.free, B.freeC, fun z hz => ?_, B.hok, B.len⟩
  obtain rfl : z = p := by simpa using hz
  refine ⟨pushCells_keeps _ _ _ _ (Heap.get?_push_of_some _ g1), g2, Nat.ne_of_lt (Heap.lt_size g1), fun m => ?_, g5⟩
  exact (List.mem_cons.mp (I.stkSub z.1 m)).elim g3 g4
end
section
variable {X : Cx}
theorem lc_hot {pins : List (Addr × Obj)} {s : Shared} {σ : L2.St} {H : Hp} {Q : VK} {elt tg iter : Expr} {ifs : List Expr} {scope : Scope} {own : List (Str × Nat)} {pos pos' : Pos} {wi : TI} {g : TG} {tt : TT} {te : TE} {use : Option (Value → Sem Unit)} {Qf : Value → Shared → Prop} {p : Addr × Obj}
    (hot : Hot1 X.A p) (hp : p ∈ X.pn) (hN : X.N.Nodup) (I : Inv X pins σ H s) (hi : PIH X tg iter wi) (ok : BlkOk X.N X.env.scope scope own)
    (hg : ∀ (s : Shared) (H : Hp) (C : Addr) (cl : List (Str × Addr)) (fp : List Addr), PG (Cx.bh X p s H scope (compEnvC scope cl C X.env) fp) tg g) (ht : ∀ (s : Shared) (H : Hp) (C : Addr) (cl : List (Str × Addr)) (fp : List Addr), PTs (Cx.bh X p s H scope (compEnvC scope cl C X.env) fp) ifs tt)
    (he : ∀ (s : Shared) (H : Hp) (C : Addr) (cl : List (Str × Addr)) (fp : List Addr), PE (Cx.bh X p s H scope (compEnvC scope cl C X.env) fp) elt te) (hs : ∀ x, foldedSetIterable iter X.env x = pure x)
    (h : tLc wi g tt te (own.map (·.2)) σ H Q)
    (done : ∀ D C s' m H', Inv X pins σ H' s' → Q (.ref D) H' → s'.heap.Ns C m → FpOk X pins H' C → compPost (model X.prog X.w) X.A X.xe use Qf (.ref D) C (.ok .next) s') :
    wpAny (model X.prog X.w) X.A (comprehension (.ListComp elt [⟨tg, iter, ifs, 0⟩] scope pos) scope X.env pos' (newList []) false (eval iter X.env) use) Qf X.xe s := by
  have clo : ∀ y ∈ scope.names, y.2 = .free → ∃ c, X.env.cells.lookup y.1 = some c := fun y hy e => (ok.free y hy e).elim (fun k => I.ok.has _ (.inl k)) fun k => I.ok.has _ (.inr k)
  refine wpAny_comprehension_free (use := use) rfl hs (closure_ok clo) ok.kind (fun y hy e => by rw [ok.uniq y hy, e]) (thn (hi.run pins s σ H _ I h) fun xv t1 hx => thn hx fun itv t2 h2 => ?_)
  obtain ⟨it, fp, tn, J, G2, rfl, J2, T, at2, f2, q⟩ := h2
  refine wpAny_newObj_type (newEnv_comp ?_) (by show 0 ≤ sizeLine; exact Nat.zero_le _)
  have nD : G2 t2.heap.objs.size = none := J2.hok.fresh (Nat.le_refl _)
  obtain ⟨W, ⟨m0, w0⟩, turn⟩ := q t2.heap.objs.size nD
  have fpLt : ∀ b ∈ fp, b < t2.heap.objs.size := fun b hb => let ⟨_, e, _⟩ := T.obj _ _ at2 b hb; Heap.lt_size e
  generalize hD : t2.heap.objs.size = D at nD w0 turn fpLt ⊢
  -- the state with the new list, and the heap with it
  generalize et3 : ({ t2 with heap := t2.heap.push { cls := .type "list", data := .seq ([] : List Value).toArray } } : Shared) = t3
  have ht3 : t3.heap = t2.heap.push { cls := .type "list", data := .seq ([] : List Value).toArray } := by rw [← et3]
  obtain ⟨G3, hG3⟩ : ∃ G3, G3 = upd G2 D (.lst []) := ⟨_, rfl⟩
  rw [← hG3] at w0
  have J3 : Inv X pins σ G3 t3 := by
    rw [hG3, ← et3]
    refine J2.laid (t' := t2.toks) (fun b o e => Heap.get?_push_of_some _ e) (Nat.le_of_eq hD) ⟨Nat.zero_le _, [], 0, .nil, ?_⟩
    rw [← hD]
    exact Heap.get?_push_size _ rfl
  have size3 : t3.heap.objs.size = D + 1 := by rw [ht3, ← hD]; exact Heap.size_push ..
  have f3 : ∀ b ∈ fp, FpOk X pins G3 b ∧ b < t3.heap.objs.size := fun b hb => by
    have lt := fpLt b hb
    refine ⟨⟨?_, (f2 b hb).2⟩, by rw [size3]; exact Nat.lt_succ_of_lt lt⟩
    rw [hG3, upd_ne (Nat.ne_of_lt lt)]
    exact (f2 b hb).1
  have at3 : tn 0 t3.heap := T.keep _ _ _ at2 fun b _ o e => by rw [ht3]; exact Heap.get?_push_of_some _ e
  have J4 := bh_start J3 hp ok hN f3
  have pg := hg t3 G3 t3.heap.objs.size (cellsFrom (t3.heap.objs.size + 1) scope.names (cloFrom X.env.cells scope.names [])) fp
  have pt := ht t3 G3 t3.heap.objs.size (cellsFrom (t3.heap.objs.size + 1) scope.names (cloFrom X.env.cells scope.names [])) fp
  have pe := he t3 G3 t3.heap.objs.size (cellsFrom (t3.heap.objs.size + 1) scope.names (cloFrom X.env.cells scope.names [])) fp
  show codeAny _ _ (.compStart (.ListComp elt [⟨tg, iter, ifs, 0⟩] scope pos) 0 (.ref it) (.ref D) (compEnvC scope (cellsFrom (t3.heap.objs.size + 1) scope.names (cloFrom X.env.cells scope.names [])) t3.heap.objs.size X.env)) (compPost (model X.prog X.w) X.A X.xe use Qf (.ref D) t3.heap.objs.size) { t3 with heap := pushCells (t3.heap.push { cls := .type "dict", data := .dict #[] }) scope.names }
  generalize hc4 : compEnvC scope (cellsFrom (t3.heap.objs.size + 1) scope.names (cloFrom X.env.cells scope.names [])) t3.heap.objs.size X.env = ce at J4 pg pt pe ⊢
  have locals : ce.locals = t3.heap.objs.size := by rw [← hc4]; rfl
  have at4 : tn 0 ({ t3 with heap := pushCells (t3.heap.push { cls := .type "dict", data := .dict #[] }) scope.names } : Shared).heap := T.keep _ _ _ at3 fun b _ o e => pushCells_keeps _ _ _ _ (Heap.get?_push_of_some _ e)
  generalize ({ t3 with heap := pushCells (t3.heap.push { cls := .type "dict", data := .dict #[] }) scope.names } : Shared) = t4 at J4 at4 ⊢
  have hx := bh_hot (X := X) (p := p) hot (s := t3) (H := G3) (scope := scope) (env := ce) (fp := fp)
  -- the iterator's own objects stay apart
  have apart : ∀ {σ' : L2.St} {G' : Hp} {t' : Shared}, Inv (Cx.bh X p t3 G3 scope ce fp) [] σ' G' t' → (∀ b ∈ fp, G' b = none) → ∀ b ∈ fp, FpOk (Cx.bh X p t3 G3 scope ce fp) [] G' b := fun {σ' G' t'} I' hn b hb =>
    ⟨hn b hb, (I'.ok.exf b hb).1, I'.ok.exfs b hb, .inl hb, fun x c e => (I'.ok.exf b hb).2 x c e, fun z hz => by
      obtain rfl : z = p := by simpa using hz
      exact (f3 b hb).1.2.2.2.2.2 z (List.mem_append_left _ hp)⟩
  have loop : codeAny (model X.prog X.w) X.A (.compLoop (.ListComp elt [⟨tg, iter, ifs, 0⟩] scope pos) 0 (.ref it) (.ref D) ce) (compPost (model X.prog X.w) X.A X.xe use Qf (.ref D) t3.heap.objs.size) t4 := by
    refine compLoop_any (fun n t' => ∃ i G', Inv (Cx.bh X p t3 G3 scope ce fp) [] (wipe σ (own.map (·.2))) G' t' ∧ tn i t'.heap ∧ (∀ b ∈ fp, G' b = none) ∧ W i n G') ?_ m0 ⟨0, G3, J4, at4, fun b hb => (f3 b hb).1.1, w0⟩
    rintro n t5 ⟨i, G5, J5, at5, n5, w5⟩
    rcases turn i n G5 w5 with ⟨stop, qq⟩ | ⟨go, Nx, hNx, step⟩
    · refine thnF (T.done (Cx.bh X p t3 G3 scope ce fp) rfl rfl rfl hx i [] t5 _ G5 (fun _ _ => False) J5 (apart J5 n5) at5 stop) fun r t6 ⟨hr, J6⟩ => ?_
      subst hr
      have J7 : Inv X pins σ G5 t6 := J3.call' (ch := fp) J6.os J6.base J6.hok J6.bare fun b hb => let z := (f3 b hb).1; ⟨z.2.2.2.1, z.2.1, z.2.2.2.2.1, z.2.2.2.2.2⟩
      have free : G5 t3.heap.objs.size = none := by
        have z : G5 ce.locals = none := J6.free
        rwa [locals] at z
      obtain ⟨m, hn, _⟩ := J6.loc
      have hn : t6.heap.Ns ce.locals m := hn
      rw [locals] at hn
      exact done D t3.heap.objs.size t6 m G5 J7 qq hn (J3.fpOk (Nat.le_refl _) free)
    · refine thnF (T.item (Cx.bh X p t3 G3 scope ce fp) rfl rfl rfl hx i [] t5 _ G5 (fun _ _ => False) J5 (apart J5 n5) at5 go) fun r t6 ⟨u, hr, h6⟩ => ?_
      subst hr
      refine thnF h6 fun _ t7 ⟨x, G7, J7, r7, y7, at7, n7⟩ => ?_
      have J7' := J7.pinned (apart J7 n7) (T.obj _ _ at7)
      refine thnF (pg.run _ t7 _ G7 x u _ J7' r7 (step x G7 y7)) fun _ t8 ⟨σ8, G8, J8, hw8, q8⟩ => ?_
      refine thnF (pt.run _ t8 σ8 G8 _ J8 q8) fun b t9 ⟨G9, J9, q9⟩ => ?_
      have next : ∀ {t' : Shared} {G' : Hp}, Inv (Cx.bh X p t3 G3 scope ce fp) ([] ++ pinsAt fp t7.heap) σ8 G' t' → Nx G' → ∃ m, m < n ∧ ∃ i G', Inv (Cx.bh X p t3 G3 scope ce fp) [] (wipe σ (own.map (·.2))) G' t' ∧ tn i t'.heap ∧ (∀ b ∈ fp, G' b = none) ∧ W i m G' := fun {t' G'} I' nx => by
        obtain ⟨m', hm, w'⟩ := hNx G' nx
        have stays : ∀ b ∈ fp, ∀ o, t7.heap.get? b = some o → t'.heap.get? b = some o ∧ G' b = none := fun b hb o e =>
          let z := I'.pin (b, o) (List.mem_append_right _ (List.mem_append_right _ (mem_pinsAt hb e)))
          ⟨z.1, z.2.1⟩
        have len8 : (wipe σ (own.map (·.2))).length = σ8.length := by rw [← hw8, wipe_length]
        refine ⟨m', hm, i + 1, G', (I'.unpinned (pins := [])).weak len8 (fun j v e => ?_), T.keep _ _ _ at7 fun b hb o e => (stays b hb o e).1, fun b hb => ?_, w'⟩
        · rw [← hw8] at e
          exact (wipe_some e).1
        · obtain ⟨o, e, _⟩ := T.obj _ _ at7 b hb
          exact (stays b hb o e).2
      cases b with
      | false =>
        simp only [Bool.false_eq_true, if_false] at q9 ⊢
        exact next J9 q9
      | true =>
        simp only [if_true] at q9 ⊢
        refine thnF (pe.run _ t9 σ8 G9 _ J9 q9) fun z t10 ⟨yv, G10, J10, r10, acc, hD10, hz10, nx⟩ => ?_
        exact app_ok (X := Cx.bh X p t3 G3 scope ce fp) J10 hD10 hz10 r10 fun t11 J11 => next J11 nx
  exact codeAny_compStart_list loop (T.self X.A 0 _ _ _ at4 loop)
end
end Bk

/-! the rules for it: lists, tuples, the keys of a dict; list comprehensions; the context of an except suite -/
namespace Bk
open PySem PySem.Spec PyProof.Rows L2 HotX L2H
section
variable {X : Cx} {tg : Expr}
theorem pih_list (K : PySem.W.Frag) {l : Expr} {tl : TE} (hl : PE X l tl) (eK : X.K = K := by rfl) : PIH X tg l (iList K tl) := by
  subst eK
  refine ⟨fun pins s σ H R I h => thn (hl.run pins s σ H _ I h) fun v s1 hv => ?_⟩
  obtain ⟨x, H1, I1, r1, a, rfl, ⟨xs, hq⟩, q⟩ := hv
  cases r1
  obtain ⟨its, rv, pl, hz⟩ := I1.list hq
  refine wpAny_pyIter_list pl.isList ⟨s1.heap.objs.size, [s1.heap.objs.size], _, _, H1, rfl, I1.kept (t' := s1.toks) fun b o e => Heap.get?_push_of_some _ e, turnH_list a _, ⟨_, Heap.get?_push_size _ rfl, rfl, rfl⟩, fun b hb => ?_, q⟩
  obtain rfl := List.mem_singleton.mp hb
  exact I1.fpOk (Nat.le_refl _) (I1.hok.fresh (Nat.le_refl _))
theorem pih_tup (K : PySem.W.Frag) {l : Expr} {tl : TE} (hl : PE X l tl) (eK : X.K = K := by rfl) : PIH X tg l (iTup K tl) := by
  subst eK
  refine ⟨fun pins s σ H R I h => thn (hl.run pins s σ H _ I h) fun v s1 hv => ?_⟩
  obtain ⟨x, H1, I1, r1, a, rfl, ⟨xs, hq⟩, q⟩ := hv
  cases r1
  obtain ⟨its, rv, pt, hz⟩ := I1.tuple hq
  refine wpAny_pyIter_tuple (show s1.heap.IsTuple a its.toArray from pt) ⟨s1.heap.objs.size, [s1.heap.objs.size], _, _, H1, rfl, I1.kept (t' := s1.toks) fun b o e => Heap.get?_push_of_some _ e, turnH_tuple a _, ⟨_, Heap.get?_push_size _ rfl, rfl, rfl⟩, fun b hb => ?_, q⟩
  obtain rfl := List.mem_singleton.mp hb
  exact I1.fpOk (Nat.le_refl _) (I1.hok.fresh (Nat.le_refl _))
theorem pih_or {l : Expr} {w1 w2 : TI} (h1 : PIH X tg l w1) (h2 : PIH X tg l w2) : PIH X tg l (fun σ H R => w1 σ H R ∨ w2 σ H R) := ⟨fun pins s σ H R I h => h.elim (h1.run pins s σ H R I) (h2.run pins s σ H R I)⟩
/-- the keys of a dict, these texts or numbers -/
theorem pih_keys {e : Expr} {td : TE} (he : PE X e td) : PIH X tg e (iKeysM td) := by
  refine ⟨fun pins s σ H R I h => thn (he.run pins s σ H _ I h) fun u s1 hu => ?_⟩
  obtain ⟨x, H1, I1, rx, d, o, kvs, rfl, hd, q⟩ := hu
  obtain rfl : u = Value.ref d := rx
  obtain ⟨hs, hgd, hx, es, ep, vs, hdt, hsz, kv, hm⟩ := I1.frzK hd
  refine iter_keys hs hgd hx hdt ⟨s1.heap.objs.size, [s1.heap.objs.size], _, _, H1, rfl, I1.kept (t' := s1.toks) fun b o e => Heap.get?_push_of_some _ e, turnH_keys _ hdt, ⟨_, Heap.get?_push_size _ rfl, rfl, ?_⟩, fun b hb => ?_, q⟩
  · rw [hsz] <;> rfl
  · obtain rfl := List.mem_singleton.mp hb
    exact I1.fpOk (Nat.le_refl _) (I1.hok.fresh (Nat.le_refl _))
/-- [elt for tg in iter if ..] as a value -/
theorem pe_lcH {elt iter : Expr} {ifs : List Expr} {scope : Scope} {own : List (Str × Nat)} {pos : Pos} {wi : TI} {g : TG} {tt : TT} {te : TE} {p : Addr × Obj} (hot : Hot1 X.A p) (hp : p ∈ X.pn) (hN : X.N.Nodup) (hi : PIH X tg iter wi) (ok : BlkOk X.N X.env.scope scope own)
    (hg : ∀ (s : Shared) (H : Hp) (C : Addr) (cl : List (Str × Addr)) (fp : List Addr), PG (Cx.bh X p s H scope (compEnvC scope cl C X.env) fp) tg g) (ht : ∀ (s : Shared) (H : Hp) (C : Addr) (cl : List (Str × Addr)) (fp : List Addr), PTs (Cx.bh X p s H scope (compEnvC scope cl C X.env) fp) ifs tt)
    (he : ∀ (s : Shared) (H : Hp) (C : Addr) (cl : List (Str × Addr)) (fp : List Addr), PE (Cx.bh X p s H scope (compEnvC scope cl C X.env) fp) elt te) (hs : ∀ x, foldedSetIterable iter X.env x = pure x := by intro _; rfl) :
    PE X (.ListComp elt [⟨tg, iter, ifs, 0⟩] scope pos) (tLc wi g tt te (own.map (·.2))) := by
  refine ⟨fun pins s σ H Q I h => ?_⟩
  rw [eval_ListComp]
  refine lc_hot hot hp hN I hi ok hg ht he hs h fun D C s' m H' I' q hn f => ⟨m, hn, fun h2 sb => ?_⟩
  obtain ⟨g0, g1, g2, g3, g4, g5⟩ := f
  exact ⟨.ref D, H', I'.turned (t' := s'.toks) (fun b o hb e => (sb.2 b hb).trans e) g0 g1 g3 g4 g5, rfl, q⟩
end
end Bk

/-! dict([]) while an exception is handled -/
namespace Bk
open PySem PySem.Spec PyProof.Rows L2 HotX L2H
section
variable {α : Type} {prog : Program} {w : World} {A : Around} {E : Value → Shared → Prop} {s : Shared}
theorem attrErr_hot {x1 : Addr} {o : Value} {name msg : Str} {Q : α → Shared → Prop} (hot : HotAt A x1 s.heap)
    (q : ∀ h' tk e oe, (∀ b ob, s.heap.get? b = some ob → h'.get? b = some ob) → h'.get? e = some oe → oe.cls = .type "AttributeError" → E (.ref e) { s with heap := h', toks := tk }) (hm : msg.length ≤ sizeLine) :
    wpAny (model prog w) A (raiseAttrError o name msg : Sem α) Q E s := by
  unfold raiseAttrError
  refine wpAny_bind (wpAny_mkStr (wpAny_bind ?_) hm)
  simp only [newExc, newTuple]
  refine wpAny_bind (wpAny_newObj_type ?_ (by size_fits))
  refine wpAny_bind (m := firstArgMember _ _) (wpAny_of_eq (a := Value.none) (by simp only [firstArgMember, attrError_no_first]; rfl) ?_)
  rw [ownMembersOf_AttributeError]
  refine wpAny_newObj_type ?_ (by size_fits)
  obtain ⟨hp, g, d, tk, os⟩ := s
  have f1 := sub_AttributeError
  repeat (any_goals (first | assumption | wp_step))
  dsimp only
  obtain ⟨hh, o1, v1, e1, d1, c1⟩ := hot
  have lt1 := Heap.lt_size e1
  refine raiseNew_hot (x1 := x1) ⟨hh, o1, v1, ?_, d1, c1⟩ ?_ (Heap.get?_update_self _ (Heap.get?_push_size _ rfl) rfl) rfl (by first | decide | (simp; done) | (simp; omega)) ?_
  · refine (Heap.get?_update_other _ _ ?_).trans (Heap.get?_push_of_some _ (Heap.get?_push_of_some _ e1))
    simp only [Heap.size_push]
    exact Nat.ne_of_gt (Nat.lt_succ_of_lt lt1)
  · simp only [Heap.size_push]
    exact Nat.ne_of_lt (Nat.lt_succ_of_lt lt1)
  · refine q _ _ _ _ (fun b ob hb => ?_) (Heap.get?_update_self _ (Heap.get?_update_self _ (Heap.get?_push_size _ rfl) rfl) rfl) rfl
    have hlt : b < hp.objs.size := Heap.lt_size hb
    have ne : (hp.push { cls := .type "tuple", data := .seq #[] }).objs.size ≠ b := by
      simp only [Heap.size_push]
      exact Nat.ne_of_gt (Nat.lt_succ_of_lt hlt)
    first
      | exact (Heap.get?_update_other _ _ (by simp only [Heap.size_push]; exact Nat.ne_of_gt (Nat.lt_succ_of_lt hlt))).trans ((Heap.get?_update_other _ _ (by simp only [Heap.size_push]; exact Nat.ne_of_gt (Nat.lt_succ_of_lt hlt))).trans (Heap.get?_push_of_some _ (Heap.get?_push_of_some _ hb)))
end
def specHot (x1 : Addr) : PySem.Spec := fun A R s => HotAt A x1 s.heap ∧ ∀ h' tk e oe, (∀ b ob, s.heap.get? b = some ob → h'.get? b = some ob) → h'.get? e = some oe → oe.cls = .type "AttributeError" → R (.error (.ref e)) { s with heap := h', toks := tk }
theorem meets_keys_hot (x1 a : Addr) (xs : Array Value) (n : Nat) (sl : Array (Option Value)) (nm : Str) (u : Tok) (hmiss : typeLookup (.type "list") nm = pure none) (hname : (["__module__", "__name__", "__qualname__", "__doc__", "__annotations__"] : List Str).contains nm = false) (hsz : nm.length + 100 ≤ sizeLine) :
    Meets (Builtin.«object.__getattribute__» ⟨[.ref a, .str nm u], []⟩) (fun A R s => s.heap.get? a = some { cls := .type "list", dict := none, data := .seq xs n, slots := sl } ∧ specHot x1 A R s) :=
  Meets.of_wp fun prog w A R s hs => by
    obtain ⟨hp, g, d, tk, os⟩ := s
    obtain ⟨hx, hot, q⟩ := hs
    have tl : (⟨hp, g, d, tk, os⟩ : Shared).TypeIs (.ref a) "list" := ⟨_, hx, rfl⟩
    unfold Builtin.«object.__getattribute__»
    repeat (any_goals (first | assumption | wp_step))
    simp only [hname, Bool.false_eq_true, if_false]
    repeat (any_goals (first | assumption | wp_step))
    exact attrErr_hot hot q (attrMsg_fits (by decide +kernel) hsz)
section
variable {prog : Program} {w : World} {A : Around} {E : Value → Shared → Prop} {s : Shared}
theorem list_keys_hot {x1 a : Addr} {o : Obj} {xs : Array Value} {n : Nat} {Q : Option Value → Shared → Prop} (hot : HotAt A x1 s.heap) (hx : s.heap.get? a = some o) (hc : o.cls = .type "list") (hdat : o.data = .seq xs n) (hd : o.dict = none)
    (q : ∀ h' tk, (∀ b ob, s.heap.get? b = some ob → h'.get? b = some ob) → Q none { s with heap := h', toks := tk }) : wpAny (model prog w) A (getAttr? (.ref a) "keys") Q E s := by
  obtain ⟨c, dct, dat, sl⟩ := o
  simp only at hc hdat hd
  subst hc hdat hd
  obtain ⟨hp, g, d, tk, os⟩ := s
  have tl : ∀ tk', (⟨hp, g, d, tk', os⟩ : Shared).TypeIs (.ref a) "list" := fun _ => ⟨_, hx, rfl⟩
  have hmiss := list_no_keys
  have hname : (["__module__", "__name__", "__qualname__", "__doc__", "__annotations__"] : List Str).contains "keys" = false := by decide +kernel
  have hsz : ("keys" : Str).length + 100 ≤ sizeLine := by first | size_fits | decide +kernel
  have f1 := sub_AttributeError
  have f3 := F.slot_list_getattribute.lookup
  have f4 := F.slot_list_getattribute.bind (.ref a)
  have f5 := am_list_getattr_none
  unfold getAttr? getAttrBy?
  repeat (any_goals (first | assumption | exact tl _ | ((with_reducible show wpAny _ _ (call (Value.builtin "list.__getattribute__") _ _) _ _ _); refine call_meets F.slot_list_getattribute (tl _) am_entry_list_getattribute (F.args_list_getattribute_2 _ _) (meets_keys_hot x1 a xs n sl "keys" _ hmiss hname hsz) ⟨hx, hot, fun h' tk' e oe hk he hcl => ?_⟩) | wp_step))
  obtain ⟨ec, ed, eda, es⟩ := oe
  simp only at hcl
  subst hcl
  have hE : ∀ tk2, (⟨h', g, d, tk2, os⟩ : Shared).TypeIs (.ref e) "AttributeError" := fun _ => ⟨_, he, rfl⟩
  show wpAny _ _ (getattributeRaised _ _ _ _ _ _ _) _ _ _
  unfold getattributeRaised
  repeat (any_goals (first | assumption | exact hE _ | wp_step))
  all_goals exact q _ _ hk
end
end Bk

/-! defs that raise (the exception's context told to be None); defs called while an exception is handled -/
namespace Bk
open PySem PySem.Spec PyProof.Rows L2 HotX L2H
/-- dict([]) -/
def rDict0 : List V → Hp → VK → Prop := fun xs H Q => ∃ a : Addr, xs = [.ref a] ∧ H a = some (.lst []) ∧ ∀ p, H p = none → Q (.ref p) (upd H p (.dT []))
theorem call_dict0H {X : Cx} (hc : HotC X) : CallR X (.type "dict") rDict0 := by
  intro pins s σ H xs us Q I r q
  obtain ⟨a, ex, ha, q⟩ := q
  subst ex
  obtain ⟨u, eu, rx⟩ := vals1 r
  subst eu
  cases rx
  obtain ⟨its, rv, pl, hz⟩ := I.list (SqL.of (K := X.K) ha)
  have e0 : its = [] := List.eq_nil_of_length_eq_zero (by rw [← rv.length]; rfl)
  subst e0
  obtain ⟨x1, hot⟩ := hc.at I
  have items : PairItems s.heap (#[] : Array Value) (fun _ => (0 : Nat)) [] := ⟨rfl, fun j k v e => by simp at e⟩
  have plain : PlainSeq "list" s.heap a #[] := by
    obtain ⟨o, n, ho, hcl, hd, hdat⟩ := pl
    exact ⟨o, n, ho, hcl, hd, hdat⟩
  have lt : a < s.heap.objs.size := by
    obtain ⟨o, n, ho, _⟩ := plain
    exact Heap.lt_size ho
  obtain ⟨hp, gn, dr, tk, os⟩ := s
  refine call_dict_arg (PairArg.list (prog := X.prog) (w := X.w) a #[] (fun _ => (0 : Nat)) []) ⟨plain, items⟩ fun s₁ es hdf ok₁ => ?_
  subst es
  obtain ⟨⟨o, n, ho, hcl, hd, hdat⟩, _⟩ := ok₁
  have hot1 : ∀ (h' : Heap), (∀ b ob, hp.get? b = some ob → h'.get? b = some ob) → HotAt X.A x1 h' := fun h' k => by
    obtain ⟨hh, o1, v1, e1, d1, c1⟩ := hot
    exact ⟨hh, o1, v1, k _ _ e1, d1, c1⟩
  have kp : ∀ b ob, hp.get? b = some ob → (hp.push { cls := .type "dict", data := .dict #[] }).get? b = some ob := fun b ob e => Heap.get?_push_of_some _ e
  unfold Builtin.Dict.updateFrom
  refine wpAny_bind (wpAny_typeOf (T := "list") ⟨o, ho, hcl⟩ ?_)
  rw [if_pos (by decide)]
  refine wpAny_bind (list_keys_hot (x1 := x1) (hot1 _ kp) ho hcl hdat hd fun h1 tk1 k1 => ?_)
  simp only [Option.isNone_none, if_true]
  refine wpAny_bind (wpAny_rule ?_)
  have kh : ∀ b ob, hp.get? b = some ob → h1.get? b = some ob := fun b ob e => k1 b ob (kp b ob e)
  have hl1 : h1.IsList a #[] := ⟨o, k1 _ _ ho, hcl, n, hdat⟩
  refine wpAny_bind (wpAny_pyIter_list hl1 ?_)
  refine wpAny_pure ⟨plainId_quiet plain_update_loop _, codeAny_builtin entry_update_loop ?_⟩
  rw [Around.under_plainId plain_update_loop _]
  have it0 : (h1.push { cls := .type "list_iterator", data := .fields #[.ref a, rawInt 0] }).IsListIter h1.objs.size a 0 := ⟨_, Heap.get?_push_size _ rfl, rfl, rfl⟩
  have kk : ∀ b ob, h1.get? b = some ob → (h1.push { cls := .type "list_iterator", data := .fields #[.ref a, rawInt 0] }).get? b = some ob := fun b ob e => Heap.get?_push_of_some _ e
  show wpAny _ _ (pyNext (.ref h1.objs.size) >>= _) _ _ _
  refine wpAny_bind (list_stop_hot (x1 := x1) (i := 0) (items := #[]) (hot1 _ fun b ob e => kk b ob (kh b ob e)) it0 (hl1.at fun ob e => kk _ ob e) rfl fun h2 eb => ?_)
  show wpAny _ _ (Builtin.Dict.addKeywords hp.objs.size [] >>= _) _ _ _
  refine wpAny_bind (wpAny_pure (wpAny_pure ?_))
  have k2 : ∀ b ob, (hp.push { cls := .type "dict", data := .dict #[] }).get? b = some ob → h2.get? b = some ob := fun b ob e => eb b ob (Nat.ne_of_lt (Heap.lt_size (k1 b ob e))) (kk b ob (k1 b ob e))
  refine ⟨rfl, ?_⟩
  have hd0 : h2.DictOfH (tupleKind (mixKind X.prog X.w)) hp.objs.size [] := (Heap.DictOfH.new (knd := tupleKind (mixKind X.prog X.w)) hp).at' (fun ob e => k2 _ ob e) fun y hy => nomatch hy
  exact dt_made (s := ⟨hp, gn, dr, tk, os⟩) (kvs := []) (prs := []) I .nil (Nat.zero_le _) (Nat.le_refl _) hd0 (fun b ob e => k2 b ob (kp b ob e)) fun p hp' => q p hp'
end Bk

/-! defs that raise, told with the exception's context; defs run while an exception is handled; own exceptions made there -/
namespace Bk
open PySem PySem.Spec PyProof.Rows L2 HotX L2H
section
variable {P : Program} {w : World} {K : PySem.W.Frag} {mg : Str → Option Value} {base : Heap} {x qual : Str} {st : Stmt} {f : Addr} {fd : FuncData} {N ps : List Str} {k : Nat} {sp : Sp}
theorem Fun.okN (F : Fun K x qual st f fd) (S : FnScope N ps (defScope st)) (len : ∀ vs H Q E, sp vs H Q E → vs.length = ps.length)
    (hbody : ∀ (cdv : Value) (A : Around) (outer : List Env) (s : Shared) (H : Hp) (vs : List V) (Q : VK) (E : XK), Room k (A.deeper (envOfC qual (defScope st) s.heap.objs.size f cdv)) → sp vs H Q E →
      ∃ t, PSs (cxOf (L2N.CX P w) P w K mg base N qual (defScope st) f cdv A outer s H E) (defBody st) t ∧ t { nx := fun _ H' => Q .non H', rt := Q } (L2.start N vs) H) :
    FnOk P w K mg base (L2N.CX P w) (k + 1) f fd ps sp := by
  obtain ⟨_, _, _, _, _, _, cdv, _, _, rfl, lk, hcd⟩ := F.ex
  exact fn_of lk hcd S len (fun A outer s H vs Q E hr => hbody cdv A outer s H vs Q E hr)
theorem Fun.okH (F : Fun K x qual st f fd) (S : FnScope N ps (defScope st)) (len : ∀ vs H Q E, sp vs H Q E → vs.length = ps.length)
    (hbody : ∀ (cdv : Value) (A : Around) (outer : List Env) (s : Shared) (H : Hp) (vs : List V) (Q : VK) (E : XK) (p : Addr × Obj), Hot1 A p → RoomH k (A.deeper (envOfC qual (defScope st) s.heap.objs.size f cdv)) → sp vs H Q E →
      ∃ t, PSs (cxH CX0 P w K mg base N qual (defScope st) f cdv A outer s H E p) (defBody st) t ∧ t { nx := fun _ H' => Q .non H', rt := Q } (L2.start N vs) H) :
    FnH P w K mg base CX0 (k + 1) f fd ps sp := by
  obtain ⟨_, _, _, _, _, _, cdv, _, _, rfl, lk, hcd⟩ := F.ex
  exact fn_ofH lk hcd S len (fun A outer s H vs Q E p hot hr => hbody cdv A outer s H vs Q E p hot hr)
theorem never_H : FnH P w K mg base CX0 k f fd ps (fun _ _ _ _ => False) := ⟨fun _ _ _ _ h => h.elim, fun _ _ _ _ _ _ _ _ _ _ _ _ _ _ _ _ h => h.elim⟩
end
/-- a def that can be called by its name while an exception is handled -/
structure CalH (P : Program) (w : World) (K : PySem.W.Frag) (mg : Str → Option Value) (base : Heap) (k : Nat) (x : Str) (f : Addr) (fd : FuncData) (ps : List Str) (sp : Sp) : Prop where
  ok : FnH P w K mg base CX0 k f fd ps sp
  g : mg x = some (.ref f)
  kp : PySem.W.keepIn K (.ref f) = true
  b : Binds K fd ps []
theorem passAt0 {X : Cx} (σ : L2.St) : PassesAt CX0 X σ E0 := fun _ _ _ _ _ _ h => h.elim
theorem huH_of {A : Around} {k : Nat} (hr : RoomH k A) : A.units + 1 < cLine := by
  have := hr.un
  omega
section
variable {X : Cx} {CX : CXT} {x : Str} {e : Expr} {es : List Expr} {ta : TA} {p pos : Pos} {C fI : Addr} {k : Nat} {fd : FuncData} {ps : List Str} {sp : Sp}
/-- C(e, ..), its context told -/
theorem pmk_oexN (T : OexC X.K C) (iC : PySem.W.findIn X.K (.ref C) "__init__" = some (some (.ref fI))) (tI : PySem.W.typeIn X.K (.ref fI) = some (.type "function"))
    (F1 : FnOk X.prog X.w X.K X.mg X.base CX k fI fd ps sp) (hr : Room (k + 1) X.A) (hb : Binds X.K fd ps []) (hx : Passes CX X (fun _ _ _ => False)) (hg : Gl X x) (hm : X.mg x = some (.ref C)) (ha : PA X (e :: es) ta)
    (hdb : (x == ("__debug__" : Str)) = false := by decide) (he : starEach (e :: es) X.env = (false, eval e X.env) :: starEach es X.env := by rfl) (hpl : (backTo pos (starEach es X.env)).any (·.1) = false := by rfl) :
    L2N.PMk X (.Call (.Name x p) (e :: es) [] pos) (tMkO C sp [] ta) := by
  intro pins s σ H Q I h
  obtain ⟨_, _, _, _, bm, _, _, _, _, _, _, _, _, _, _, hC, hbm⟩ := T.cls
  refine wpAny_Call_Name_kw (ld_glob I hg hm ?_ hdb)
  refine PySem.W.callWith_K (h₀ := X.base) I.ok.mod.kin T.kC (thn (ha.run pos pins s σ H _ I h) fun us s1 q0 => ?_) he hpl
  obtain ⟨vs, H1, I1, r1, hz, q1⟩ := q0
  refine ⟨I1.kIn, ?_⟩
  obtain ⟨hp, g, dr, tk, os⟩ := s1
  obtain ⟨a, ea⟩ : ∃ a, a = hp.objs.size + 1 := ⟨_, rfl⟩
  have hsz : hp.objs.size ≤ a := by rw [ea]; exact Nat.le_succ _
  obtain ⟨hp2, e2⟩ : ∃ hp2, hp2 = (hp.push (PySem.W.kdv_tup us)).push (PySem.HandSPX.excO C hp.objs.size) := ⟨_, rfl⟩
  have hq := q1 a (I1.hok.fresh hsz)
  rw [List.append_nil] at hq
  have kk : ∀ b o, hp.get? b = some o → hp2.get? b = some o := fun b o z => by
    rw [e2]
    exact Heap.get?_push_of_some _ (Heap.get?_push_of_some _ z)
  have I2 : Inv X pins σ (upd H1 a (exo a C none)) ⟨hp2, g, dr, tk, os⟩ := by
    refine I1.laid (t' := tk) kk hsz (exo_ok (t1 := hp.objs.size) ?_)
    rw [e2, ea]
    heap_get
  have r2 : Vals (V.ref a :: vs) (Value.ref a :: us) := .cons rfl r1
  have hl : (Value.ref a :: us ++ []).length = ps.length := by
    rw [List.append_nil, ← r2.length, F1.len _ _ _ _ hq]
  have hus : us.length ≤ sizeLine := by
    rw [← Paired.length r1, sizeLine_eq]
    omega
  have b2 := hb ⟨hp2, g, dr, tk, os⟩ (Value.ref a :: us) I2.kIn hl
  rw [List.append_nil] at b2
  have code := F1.run _ X.stack _ _ ⟨Value.ref a :: us, []⟩ _ _ _ (fun _ _ _ => False) (hr.make C us []) (I2.env0.make C us []) b2 r2 hq
  show wpAny _ _ (call (.ref C) us) _ _ _
  rw [e2, ea] at code
  refine wpAny_call (PySem.HandSPX.call_own F.excBase_ValueError (fun Y => PySem.HandSPX.refsVE_contains Y bm hbm) (I1.kIn _ _ hC) (PySem.W.looks_findIn I1.kIn iC) (fun self => PySem.W.bind_fn I1.kIn self tI) hus
    (codeAny_mono code fun r s' hq' => ?_))
  match r, hq' with
  | .error er, hq' =>
    rw [e2, ea] at I2
    exact hx pins σ _ _ er s' I2 hq'
  | .ok .next, hq' => exact hq'.elim
  | .ok .brk, hq' => exact hq'.elim
  | .ok .cont, hq' => exact hq'.elim
  | .ok (.ret u), hq' =>
    obtain ⟨v, H2, os2, bare2, un2, hok2, rv, ev, d, fs, ea2, ed, hd1, q2⟩ := hq'
    subst ev
    rw [← ea] at ea2 q2 un2
    rw [← e2] at un2
    obtain ⟨h2, g2, d2, t2, os'⟩ := s'
    obtain ⟨t0, G, J, kG, ge, hoe, na⟩ := mk_end0 (d2 := d2) (t2 := t2) I1 hsz kk un2 hok2 os2 bare2 ea2 ed hd1
    rw [← ea]
    refine ⟨rv, a, _, _, ⟨G, g2, d2, t2, os'⟩, _, .ref C, some d, rfl, J, kG, ge, hoe, ⟨rfl, rfl, fun ws hw => ?_⟩, rfl, rfl, na, rfl, bare2, raises_own T.exC T.tyC, q2⟩
    cases hw
    rfl
end
end Bk

namespace Bk
open PySem PySem.Spec PyProof.Rows L2
/-- an object that can be asked of a tuple of names -/
def Ask (H : Hp) (v : V) : Prop := flatV v = true ∨ Box H v
theorem Ask.same {H H' : Hp} {v : V} (h : Ask H v) (e : Same H H') : Ask H' v := by
  rcases h with h | h
  · exact .inl h
  · refine .inr ?_
    cases h with
    | lst h => exact .lst (e _ _ h)
    | tup h => exact .tup (e _ _ h)
    | dK h => exact .dK (e _ _ h)
/-- the first of some objects that is none of the names -/
def firstNot (zs : List Str) (xs : List V) : Option V := xs.find? fun v => !inV v (zs.map V.str)
theorem firstNot_some {zs : List Str} {xs : List V} {i : Nat} {v : V} (hb : ∀ u ∈ xs.take i, inV u (zs.map V.str) = true) (hv : xs[i]? = some v) (hn : inV v (zs.map V.str) = false) : firstNot zs xs = some v := by
  unfold firstNot
  rw [List.find?_eq_some_iff_append]
  refine ⟨by rw [hn]; rfl, xs.take i, xs.drop (i + 1), ?_, fun u m => by rw [hb u m]; rfl⟩
  obtain ⟨h1, rfl⟩ := List.getElem?_eq_some_iff.mp hv
  rw [← List.drop_eq_getElem_cons h1, List.take_append_drop]
theorem firstNot_none {zs : List Str} {xs : List V} (h : ∀ u ∈ xs, inV u (zs.map V.str) = true) : firstNot zs xs = none := by
  unfold firstNot
  rw [List.find?_eq_none]
  intro u m
  rw [h u m]
  exact Bool.false_ne_true
theorem box_odd {H : Hp} {v : V} (h : Box H v) : ∀ s, v ≠ .str s := fun s e => by
  cases h <;> cases e
theorem none_names {zs : List Str} {xs : List V} (h : firstNot zs xs = none) : ∃ ks : List Str, xs = ks.map V.str ∧ ∀ k ∈ ks, k ∈ zs := by
  induction xs with
  | nil => exact ⟨[], rfl, fun k m => nomatch m⟩
  | cons x r ih =>
    unfold firstNot at h
    rw [List.find?_eq_none] at h
    have h0 := h x List.mem_cons_self
    obtain ⟨ks, rfl, hk⟩ := ih (by
      unfold firstNot
      rw [List.find?_eq_none]
      exact fun u m => h u (List.mem_cons_of_mem _ m))
    have hx : inV x (zs.map V.str) = true := by
      cases e : inV x (zs.map V.str)
      · rw [e] at h0; exact absurd rfl h0
      · rfl
    by_cases hs : ∃ s, x = .str s
    · obtain ⟨s, rfl⟩ := hs
      rw [inV_strs] at hx
      refine ⟨s :: ks, rfl, fun k m => ?_⟩
      rcases List.mem_cons.mp m with rfl | m
      · exact of_decide_eq_true hx
      · exact hk k m
    · rw [inV_odd (fun s e => hs ⟨s, e⟩)] at hx
      cases hx
def spCheck (K : PySem.W.Frag) (C CN : Addr) : Sp := fun vs H Q E => ∃ (x a : Addr) (xs : List V) (zs : List Str) (ch : Bool), vs = [.ref x, .ref a] ∧ FoldersAt C H x zs ch ∧ Sqs K H (.ref a) true ∧ (SqL K H a xs ∨ SqT K H a xs) ∧ (∀ v ∈ xs, Ask H v) ∧
  (∀ v d H', firstNot zs xs = some v → ExcAt H d "name" v H' → E (.ref CN) (some d) H') ∧ ∀ H', firstNot zs xs = none → Same H H' → Q .non H'
section
variable {P : Program} {w : World} {K : PySem.W.Frag} {mg : Str → Option Value} {base : Heap}
theorem scNF : FnScope ["self", "name"] ["self", "name"] (defScope (inClass (topS 7) 0)) := ⟨rfl, rfl, rfl, by decide +kernel, rfl, by decide +kernel, by decide +kernel⟩
theorem ok_NF {C f : Addr} {fd : FuncData} (T : ExT K mg "NoFolder" C f "name") (F : Fun K "__init__" "NoFolder.__init__" (inClass (topS 7) 0) f fd) : FnOk P w K mg base CX0 1 f fd ["self", "name"] (spExcInit C "name") := by
  refine F.ok scNF (fun vs H Q E h => ?_) (fun cdv A outer s H vs Q E hr h => ?_)
  · obtain ⟨a, v, rfl, _⟩ := h
    rfl
  · obtain ⟨a, v, rfl, ha, q⟩ := h
    refine ⟨_, pss_one (ps_ost (pv 0) (pv 1)), ?_⟩
    exact ⟨_, rfl, _, rfl, a, C, rfl, T.o, T.noF, .inl ⟨ha, fun dx ndx hne => q dx ndx hne⟩⟩
theorem scCheck : FnScope ["folders", "names", "name"] ["folders", "names"] (defScope (topS 38)) := ⟨rfl, rfl, rfl, by decide +kernel, rfl, by decide +kernel, by decide +kernel⟩
theorem ok_check (B : Bi mg) {C CN f0 fN fI f f1 : Addr} {fdN fdI fd fd1 : FuncData} (T : FolT K mg C f0) (T_NoFolder : ExT K mg "NoFolder" CN fN "name")
    (G_NoFolder : FnOk P w K mg base CX0 1 fN fdN ["self", "name"] (spExcInit CN "name")) (b_NoFolder : Binds K fdN ["self", "name"] [])
    (GIn : FnOk P w K mg base CX0 3 fI fdI ["self", "x"] (spFInA C)) (bIn : Binds K fdI ["self", "x"] []) (mIn : Own K C "__contains__" fI)
    (c_is_list : Cal P w K mg base CX0 1 "is_list" f1 fd1 ["thing"] (spIsList K)) (F : Fun K "check_named" "check_named" (topS 38) f fd) : FnOk P w K mg base (L2N.CX P w) 4 f fd ["folders", "names"] (spCheck K C CN) := by
  refine Fun.okN F scCheck (fun vs H Q E h => ?_) (fun cdv A outer s H vs Q E hr h => ?_)
  · obtain ⟨x, a, xs, zs, ch, rfl, _⟩ := h
    rfl
  · obtain ⟨x, a, xs, zs, ch, rfl, FA, b, hS, hA, kE, kQ⟩ := h
    have nd := scCheck.nd
    have hu := hu_of hr
    have hrI : Room 3 _ := hr.mono (by decide)
    have hr_is_list : Room 1 _ := hr.mono (by decide)
    have hrE : Room 2 _ := hr.mono (by decide)
    refine ⟨_, (pss_cons (ps_if (pt_not (pt_val (pe_call c_is_list.ok hr_is_list (by rfl) c_is_list.g c_is_list.kp c_is_list.b .nil pass0 (pa_cons (pv 1) pa_nil)))) (pss_one ps_no) pss_nil)
      (pss_one (ps_for (passes_of rfl) rfl (pi_or (kPiL K (pv 1)) (kPiT K (pv 1))) (pg_name (i := 2) nd rfl (Or.inl rfl)) (pss_one (ps_if (pt_cmpR (op_notInOwn GIn bIn pass0 hrI mIn) (pv 2) (pv 0) rfl) (pss_one (L2N.ps_raise rfl (L2N.takes_of rfl rfl rfl rfl) (pmk_oexN T_NoFolder.o T_NoFolder.iC T_NoFolder.tI G_NoFolder hrE b_NoFolder pass0 (by rfl) T_NoFolder.g (pa_cons (pv 2) pa_nil)))) pss_nil))))), ?_⟩
    refine ⟨_, rfl, _, true, rfl, b, fun H1 e1 => ⟨_, rfl, ?_⟩⟩
    refine iteF ?_
    refine for_S rfl (hS.imp (fun z => e1.seq z) fun z => Same.sqt e1 z) (fun i σ' H' => ∃ v2, σ' = [some (.ref x), some (.ref a), v2] ∧ Same H1 H' ∧ ∀ u ∈ xs.take i, inV u (zs.map V.str) = true) ⟨none, rfl, Same.refl _, fun u m => nomatch m⟩ (fun i σ' H' ⟨_, _, e, _⟩ => e) ?_ ?_
    · rintro i v σ' H2 hi hv ⟨v2, rfl, e2, hb⟩
      have e02 := Same.trans e1 e2
      have hA2 := (hA v (List.mem_of_getElem? hv)).same e02
      have FA2 := FA.same e02
      obtain ⟨dx, t, pd, hx, _, _⟩ := id FA2
      refine ⟨_, rfl, _, rfl, x, dx, _, rfl, hx, x, v, zs, ch, inV v (zs.map V.str), rfl, FA2, ?_, fun H3 e3 => ⟨_, rfl, _, rfl, ?_⟩⟩
      · rcases hA2 with h | h
        · exact .inl ⟨h, rfl⟩
        · exact .inr (.inl ⟨h, inV_odd (box_odd h) zs⟩)
      · cases hin : inV v (zs.map V.str) with
        | true =>
          refine iteF ?_
          refine ⟨_, rfl, Same.trans e2 e3, fun u m => ?_⟩
          rw [take_succ hv] at m
          rcases List.mem_append.mp m with m | m
          · exact hb u m
          · rw [List.mem_singleton.mp m]
            exact hin
        | false =>
          refine iteT ?_
          refine mkO_of (v := v) (H1 := H3) (fun R r => ⟨_, rfl, r⟩) fun d H' h => kE v d H' (firstNot_some hb hv hin) ⟨(Same.trans e02 e3).free h.1, Same.trans (Same.trans e02 e3) h.2.1, h.2.2⟩
    · rintro σ' H2 ⟨v2, rfl, e2, hb⟩
      rw [List.take_length] at hb
      exact kQ H2 (firstNot_none hb) (Same.trans e1 e2)
end
end Bk

namespace Bk
open PySem PySem.Spec PyProof.Rows L2
/-- how often the question of some lots counts a lot -/
def cnt (ls : List (List Str)) (l : List Str) : Int := if l ∈ ls then 1 else 0
theorem ones_ent (ls : List (List Str)) : entT (ls.map fun l => (l, (1 : Int))) = tabL ls fun _ => 1 := by
  unfold entT tabL
  rw [List.map_map]
  rfl
theorem ones_found {ch : Bool} {zs : List Str} {ls : List (List Str)} (nz : zs.Nodup) (lz : zs.length ≤ mostFor ch) (h : ∀ l ∈ ls, l ∈ lotsFor ch zs) : foundT zs (ls.map fun l => (l, (1 : Int))) = tabL ls fun _ => 1 := by
  unfold foundT tabL
  rw [List.map_map]
  refine List.map_congr_left fun l m => ?_
  show ((lotS zs l).map Sum.inr, (1 : Int)) = _
  rw [lotS_sub (lots_sub lz (h l m)) nz]
theorem ones_ents {ch : Bool} {zs : List Str} {ls : List (List Str)} (nz : zs.Nodup) (lz : zs.length ≤ mostFor ch) (h : ∀ l ∈ ls, l ∈ lotsFor ch zs) (nl : ls.Nodup) : Ents ch zs (ls.map fun l => (l, (1 : Int))) := by
  have e : ∀ l ∈ ls, lotS zs l = l := fun l m => lotS_sub (lots_sub lz (h l m)) nz
  refine ⟨?_, fun x m => ?_, fun x m => ?_, ?_⟩
  · have h1 := pigeon ls (lotsFor ch zs) nl h
    have h2 := lots_few (ch := ch) lz
    rw [List.length_map]
    omega
  · obtain ⟨l, ml, rfl⟩ := List.mem_map.mp m
    show lotOfV ch zs (l.map V.str) = some (lotS zs l)
    rw [e l ml]
    exact lotOfV_lot lz nz (h l ml)
  · obtain ⟨l, ml, rfl⟩ := List.mem_map.mp m
    have h1 := lot_len (h l ml)
    have h2 : mostFor ch ≤ 12 := by cases ch <;> decide
    show l.length ≤ 1000
    omega
  · rw [List.map_map]
    rw [show ls.map ((fun e : List Str × Int => lotS zs e.1) ∘ fun l => (l, (1 : Int))) = ls from by
      conv => rhs; rw [← List.map_id ls]
      exact List.map_congr_left fun l m => e l m]
    exact nl
def spCounting (C CQ : Addr) : Sp := fun vs H Q _ => ∃ (x D : Addr) (ws : List V) (zs : List Str) (ch : Bool) (ls : List (List Str)), vs = [.ref x, .ref D] ∧ FoldersAt C H x zs ch ∧ zs.Nodup ∧ zs.length ≤ mostFor ch ∧ H D = some (.lst ws) ∧ Ats H (fun l : List Str => l.map V.str) ws ls ∧ (∀ l ∈ ls, l ∈ lotsFor ch zs) ∧ ls.Nodup ∧
  ∀ q H', H q = none → Same H H' → QuestAt C CQ H' q x zs ch (cnt ls) → Q (.ref q) H'
section
variable {P : Program} {w : World} {K : PySem.W.Frag} {mg : Str → Option Value} {base : Heap}
end
end Bk

namespace Bk
open PySem PySem.Spec PyProof.Rows L2
/-- which lots a function counts, of the names that are handed over -/
abbrev Cnt := List Str → List Str → List Str → Bool
def cRefers : Cnt := fun _ ks l => ks.any fun k => decide (k ∈ l)
def cFreed : Cnt := fun _ ks l => l.all fun k => decide (k ∈ ks)
def cShared : Cnt := fun _ ks l => ks.all fun k => decide (k ∈ l)
def cJust : Cnt := fun zs ks l => decide (l = zs.filter fun n => decide (n ∈ ks))
def cSent : Cnt := fun _ ks l => decide (ks.getD 1 Str.empty ∈ l) && !decide (ks.getD 0 Str.empty ∈ l)
def cntF (p : Cnt) (ch : Bool) (zs ks : List Str) : List Str → Int := cnt ((lotsFor ch zs).filter (p zs ks))
/-- what all five functions promise -/
def spFn (K : PySem.W.Frag) (C CQ CN : Addr) (p : Cnt) : Sp := fun vs H Q E => ∃ (x a : Addr) (xs : List V) (zs : List Str) (ch : Bool), vs = [.ref x, .ref a] ∧ FoldersAt C H x zs ch ∧ zs.Nodup ∧ zs.length ≤ mostFor ch ∧ (∀ z ∈ zs, isNameS z = true) ∧ Sqs K H (.ref a) true ∧ (SqL K H a xs ∨ SqT K H a xs) ∧ (∀ v ∈ xs, Ask H v) ∧ xs.length ≤ 1000 ∧
  (∀ v d H', firstNot zs xs = some v → ExcAt H d "name" v H' → E (.ref CN) (some d) H') ∧ ∀ ks q H', xs = ks.map V.str → (∀ k ∈ ks, k ∈ zs) → H q = none → Same H H' → QuestAt C CQ H' q x zs ch (cntF p ch zs ks) → Q (.ref q) H'
theorem inV_str (z : Str) (zs : List Str) : inV (.str z) (zs.map V.str) = decide (z ∈ zs) := inV_strs z zs
theorem lot_small {ch : Bool} {zs l : List Str} (lz : zs.length ≤ mostFor ch) (m : l ∈ lotsFor ch zs) : (l.map V.str).length ≤ 100000 := by
  have h1 := lot_len m
  have h2 : mostFor ch ≤ 12 := by cases ch <;> decide
  rw [List.length_map]
  omega
theorem names_small {ch : Bool} {zs : List Str} (lz : zs.length ≤ mostFor ch) : (zs.map V.str).length ≤ 100000 := by
  have h2 : mostFor ch ≤ 12 := by cases ch <;> decide
  rw [List.length_map]
  omega
theorem any_map {α : Type} (f : α → Bool) (l : List α) : (l.map f).any id = l.any f := by
  rw [List.any_map]
  rfl
theorem all_map {α : Type} (f : α → Bool) (l : List α) : (l.map f).all id = l.all f := by
  rw [List.all_map]
  rfl
section
variable {P : Program} {w : World} {K : PySem.W.Frag} {mg : Str → Option Value} {base : Heap}
theorem unlock {H H2 : Hp} {d : Addr} {u v : HO} (hd : H d = some u) (e : Same (upd H d v) H2) : Same H (upd H2 d u) := fun b x h => by
  by_cases z : b = d
  · subst z
    rw [upd_same, ← h, hd]
  · rw [upd_ne z]
    refine e _ _ ?_
    rw [upd_ne z]
    exact h
theorem Ats.unlock {α : Type} {H : Hp} {g : α → List V} {ws : List V} {xs : List α} {d : Addr} {od : Obj} {u v : HO} (a : Ats H g ws xs) (h : H d = some (.frz od v)) : Ats (upd H d u) g ws xs := ⟨a.1, fun i w x h1 h2 => by
  obtain ⟨b, e1, e2⟩ := a.2 i w x h1 h2
  refine ⟨b, e1, ?_⟩
  rw [upd_ne (ne_of e2 h (fun z => nomatch z))]
  exact e2⟩
theorem sq_lock {H : Hp} {a d : Addr} {xs : List V} {ws : List (List Key × V)} {v : HO} (h : SqL K H a xs ∨ SqT K H a xs) (hd : H d = some (.dT ws)) : SqL K (upd H d v) a xs ∨ SqT K (upd H d v) a xs := by
  rcases h with ((h | ⟨o, h⟩) | h) | ((h | ⟨o, h⟩) | h)
  · exact .inl (.inl (.inl (by rw [upd_ne (ne_of h hd (fun z => nomatch z))]; exact h)))
  · exact .inl (.inl (.inr ⟨o, by rw [upd_ne (ne_of h hd (fun z => nomatch z))]; exact h⟩))
  · exact .inl (.inr h)
  · exact .inr (.inl (.inl (by rw [upd_ne (ne_of h hd (fun z => nomatch z))]; exact h)))
  · exact .inr (.inl (.inr ⟨o, by rw [upd_ne (ne_of h hd (fun z => nomatch z))]; exact h⟩))
  · exact .inr (.inr h)
/-- [lot for lot in folders.places if p(lot)], the places locked the while -/
theorem lots_lock {C f0 x dx t pd : Addr} {σ : L2.St} {i k : Nat} {vs : List Nat} {g : TG} {tt : TT} {H : Hp} {Q : VK} {zs : List Str} {ch : Bool} (T : FolT K mg C f0) (hv : σ[i]? = some (some (.ref x))) (hx : H x = some (.ins C dx (foldersF t pd ch))) (hp : H pd = some (.dT (placesOf (lotsFor ch zs))))
    (nz : zs.Nodup) (lz : zs.length ≤ mostFor ch) (p : List Str → Bool)
    (hs : ∀ od l q H' (R : L2.St → Bool → Hp → Prop), l ∈ lotsFor ch zs → Same (upd H pd (.frz od (.dT (placesOf (lotsFor ch zs))))) H' → H' q = some (.tup (l.map V.str)) → (∀ σ2 H2, σ2[k]? = some (some (.ref q)) → Same H' H2 → R σ2 (p l) H2) → g (.ref q) (wipe σ vs) H' fun σ2 H2 => wipe σ2 vs = wipe σ vs ∧ tt σ2 H2 (R σ2))
    (hd : ∀ D ws H', H D = none → Same H H' → H' D = some (.lst ws) → Ats H' (fun l : List Str => l.map V.str) ws ((lotsFor ch zs).filter p) → Q (.ref D) H') :
    tLockE (tLc (iKeys (tFld K (tVar i) "places")) g tt (tVar k) vs) σ H Q := by
  refine ⟨pd, _, hp, trivial, fun od => ?_⟩
  have hxp : x ≠ pd := ne_of hx hp (fun z => nomatch z)
  have hp3 : upd H pd (.frz od (.dT (placesOf (lotsFor ch zs)))) pd = some (.frz od (.dT (placesOf (lotsFor ch zs)))) := upd_same
  refine ⟨_, hv, x, C, dx, _, _, rfl, by rw [upd_ne hxp]; exact hx, T.cl, T.nP, look_places _ _ _, pd, od, rfl, .inr ⟨_, hp3, fun D nD => ?_⟩⟩
  have hDp : D ≠ pd := (ne_of_none hp3 nD).symm
  have nD0 : H D = none := by rw [upd_ne hDp] at nD; exact nD
  refine places_it nz lz p hp3 nD (hs od) fun ws H' e hD at1 => ⟨e _ _ hp3, hd D ws _ nD0 (unlock hp e) ?_ (at1.unlock (e _ _ hp3))⟩
  rw [upd_ne hDp]
  exact hD
end
end Bk

namespace Bk
open PySem PySem.Spec PyProof.Rows L2
section
variable {P : Program} {w : World} {K : PySem.W.Frag} {mg : Str → Option Value} {base : Heap}
end
end Bk

namespace Bk
open PySem PySem.Spec PyProof.Rows L2
section
variable {P : Program} {w : World} {K : PySem.W.Frag} {mg : Str → Option Value} {base : Heap}
theorem named_map (ks zs : List Str) : (zs.map V.str).filter (fun v => inV v (ks.map V.str)) = (zs.filter fun n => decide (n ∈ ks)).map V.str := by
  rw [List.filter_map]
  congr 1
  refine List.filter_congr fun n _ => ?_
  exact inV_str n ks
end
end Bk

/-! + - * of instances whose class says them itself; a whole number times such an instance -/
namespace Bk
open PySem PySem.Spec PyProof.Rows L2
section
variable {X : Cx} {CX : CXT} {n : Nat} {C f : Addr} {fd : FuncData} {ps : List Str} {sp : Sp} {E : XK}
/-- x op y of two such instances; it tells an object -/
def rBinOwn (C : Addr) (sp : Sp) (E : XK) : R2 := fun x y H Q => ∃ (a dx b dy : Addr) (fs gs : List (Str × V)), x = .ref a ∧ y = .ref b ∧ H a = some (.ins C dx fs) ∧ H b = some (.ins C dy gs) ∧ sp [.ref a, .ref b] H (fun v H' => ∃ p : Addr, v = .ref p ∧ Q (.ref p) H') E
theorem op_binOwn {op : Operator} (F : FnOk X.prog X.w X.K X.mg X.base CX n f fd ps sp) (hb : Binds X.K fd ps []) (hx : Passes CX X E) (hr : Room n X.A) (m : Own X.K C (PySem.dunder op.info.2) f) (hc : PySem.W.selfFirst X.K C = true) : OpR X (binaryOp op) (rBinOwn C sp E) := by
  intro pins s σ H x y v u Q I rx ry h
  obtain ⟨a, dx, b, dy, fs, gs, rfl, rfl, ha, hb', hs⟩ := h
  cases rx
  cases ry
  obtain ⟨mA, J, _⟩ := ins_get I.hok ha
  obtain ⟨od, J, _⟩ := J.look
  obtain ⟨mB, J2, _⟩ := ins_get I.hok hb'
  obtain ⟨_, hF⟩ := I.fr
  refine PySem.W.binop_K (op := op) hF I.ok.mod.kin J (looks_cls J2.obj rfl) hc m.at_ m.fn (wpAny_mono (own_run (vs := [.ref a, .ref b]) F hb hx ⟨hr, rfl⟩ I (.cons rfl (.cons rfl .nil)) hs) (fun v s' hv => ?_) fun _ _ z => z)
  obtain ⟨z, H', I', rv, p, rfl, q⟩ := hv
  cases rv
  exact ⟨.ref p, H', I', rfl, q⟩
/-- x * k, k a whole number -/
def rMulInt (C : Addr) (sp : Sp) (E : XK) : R2 := fun x y H Q => ∃ (a dx : Addr) (fs : List (Str × V)) (i : Int), x = .ref a ∧ y = .int i ∧ H a = some (.ins C dx fs) ∧ sp [.ref a, .int i] H (fun v H' => ∃ p : Addr, v = .ref p ∧ Q (.ref p) H') E
/-- what the top says of a class with own * from both sides -/
structure MulT (K : PySem.W.Frag) (C fM fR : Addr) : Prop where
  sf : PySem.W.selfFirst K C = true
  m : Own K C "__mul__" fM
  r : Own K C "__rmul__" fR
  i1 : PySem.W.findIn K (.type "int") "__mul__" = some (some (.builtin "int.__mul__"))
  i2 : PySem.W.findIn K (.type "int") "__rmul__" = some (some (.builtin "int.__rmul__"))
  s1 : PySem.W.subIn K (.type "int") (.ref C) = some false
  s2 : PySem.W.subIn K (.ref C) (.type "int") = some false
theorem op_mulInt {fR : Addr} (F : FnOk X.prog X.w X.K X.mg X.base CX n f fd ps sp) (hb : Binds X.K fd ps []) (hx : Passes CX X E) (hr : Room n X.A) (m : MulT X.K C f fR) : OpR X (binaryOp .Mult) (rMulInt C sp E) := by
  intro pins s σ H x y v u Q I rx ry h
  obtain ⟨a, dx, fs, i, rfl, rfl, ha, hs⟩ := h
  cases rx
  obtain ⟨t, rfl⟩ := (show ∃ t, u = Value.int i t from ry)
  obtain ⟨mA, J, _⟩ := ins_get I.hok ha
  obtain ⟨od, J, _⟩ := J.look
  obtain ⟨_, hF⟩ := I.fr
  refine PySem.W.ksp_binT (op := .Mult) (T := "int") hF I.ok.mod.kin J rfl m.sf m.m.at_ m.m.fn m.r.at_ (.inr ⟨_, rfl⟩) m.i1 m.i2 m.s1 (wpAny_mono (own_run (vs := [.ref a, .int i]) F hb hx ⟨hr, rfl⟩ I (.cons rfl (.cons ⟨t, rfl⟩ .nil)) hs) (fun v s' hv => ?_) fun _ _ z => z)
  obtain ⟨z, H', I', rv, p, rfl, q⟩ := hv
  cases rv
  exact ⟨.ref p, H', I', rfl, q⟩
end
theorem int_mul_other (i : Int) (t : Tok) (l : Addr) (o : Obj) (ho : ∀ v, o.data ≠ .prim v) : Meets (Builtin.«int.__mul__» ⟨[.int i t, .ref l], []⟩) (fun _ R s => s.heap.get? l = some o ∧ R (.ok (.ret Value.notImplemented)) s) :=
  .of_wp fun prog w A R s h => by
    obtain ⟨hp, g, d, tk, os⟩ := s
    obtain ⟨hl, h⟩ := h
    obtain ⟨c, dd, dat, sl⟩ := o
    cases dat <;> first | exact absurd rfl (ho _) | (wp_walk; exact ⟨_, rfl, h⟩)
end Bk
namespace Bk
open PySem PySem.Spec PyProof.Rows L2
section
variable {X : Cx} {CX : CXT} {n : Nat} {C f : Addr} {fd : FuncData} {ps : List Str} {sp : Sp} {E : XK}
/-- k * x, k a whole number -/
def rIntMul (C : Addr) (sp : Sp) (E : XK) : R2 := fun x y H Q => ∃ (a dx : Addr) (fs : List (Str × V)) (i : Int), x = .int i ∧ y = .ref a ∧ H a = some (.ins C dx fs) ∧ sp [.ref a, .int i] H (fun v H' => ∃ p : Addr, v = .ref p ∧ Q (.ref p) H') E
theorem op_intMul {fM : Addr} (F : FnOk X.prog X.w X.K X.mg X.base CX n f fd ps sp) (hb : Binds X.K fd ps []) (hx : Passes CX X E) (hr : Room n X.A) (m : MulT X.K C fM f) : OpR X (binaryOp .Mult) (rIntMul C sp E) := by
  intro pins s σ H x y v u Q I rx ry h
  obtain ⟨a, dx, fs, i, rfl, rfl, ha, hs⟩ := h
  cases ry
  obtain ⟨t, rfl⟩ := (show ∃ t, v = Value.int i t from rx)
  obtain ⟨mA, J, _⟩ := ins_get I.hok ha
  have hobj := J.obj
  obtain ⟨od, J, _⟩ := J.look
  obtain ⟨_, hF⟩ := I.fr
  have KX : X.K.In s.heap := I.kIn
  have run := own_run (vs := [.ref a, .int i]) (us := [.ref a, .int i t]) F hb hx ⟨hr, rfl⟩ I (.cons rfl (.cons ⟨t, rfl⟩ .nil)) hs
  have one := PySem.W.ksp_try (Q := EP X pins σ Q) KX J m.r.at_ m.r.fn (b := .int i t) (wpAny_mono run (fun v s' hv => by
    obtain ⟨z, H', I', rv, p, rfl, q⟩ := hv
    cases rv
    exact ⟨.ref p, H', I', rfl, q⟩) fun _ _ z => z)
  obtain ⟨cd, rest, hcd, hm⟩ := PySem.W.ksp_first m.sf
  have L1 : PySem.W.Looks (model X.prog X.w) s.heap (typeOf (.ref a)) (.ref C) := J.type
  have L2' : PySem.W.Looks (model X.prog X.w) s.heap (fillsNumberSlot (.ref C) "mul") true := PySem.W.fills_K KX hcd hm m.m.at_
  have L3 : PySem.W.Looks (model X.prog X.w) s.heap (isSubtype (.ref C) (.type "int")) false := PySem.W.looks_subIn KX m.s2
  unfold binaryOp
  refine wpAny_holding (wpAny_bind ?_)
  unfold binaryOp1
  refine wpAny_bind (wpAny_pure (wpAny_bind (L1.here ?_)))
  have hne : (Value.type "int" == Value.ref C) = false := Bool.eq_false_iff.mpr fun q => by cases beq_iff_eq.mp q
  have hi : s.TypeIs (.int i t) "int" := rfl
  have nomul : ∀ {Q' : Option Value → Shared → Prop}, Q' none s → wpAny (model X.prog X.w) X.A (tryMethod (.int i t) (PySem.dunder "mul") (.ref a)) Q' X.xe s := fun {Q'} q => by
    unfold tryMethod
    refine wpAny_bind (wpAny_callSpecial?_slot hi PySem.F.slot_int_mul (call_meets PySem.F.slot_int_mul hi PySem.F.entry_int_mul (PySem.F.args_int_mul_2 _ _) (int_mul_other i t a _ (fun v z => by cases z)) ⟨hobj, ?_⟩))
    exact wpAny_pure q
  refine wpAny_bind (wpAny_of_eq PySem.F.fills_int_mul ?_)
  simp only [hne, Bool.false_eq_true, if_false]
  refine wpAny_bind (L2'.here ?_)
  simp only [Bool.and_self, if_true]
  refine wpAny_bind (L3.here ?_)
  simp only [Bool.false_eq_true, if_false, Bool.not_false, Bool.and_self, if_true]
  refine wpAny_bind (wpAny_pure ?_)
  simp only [Bool.false_eq_true, if_false]
  refine wpAny_bind (nomul ?_)
  simp only [Bool.false_eq_true, if_false, Bool.not_false, Bool.and_self, if_true]
  refine wpAny_bind (wpAny_mono one (fun r s' hr' => ?_) fun _ _ e => e)
  obtain ⟨v, rfl, hq⟩ := hr'
  refine wpAny_bind (wpAny_rule (wpAny_pure ?_))
  exact wpAny_pure hq
end
end Bk

namespace Bk
open PySem PySem.Spec PyProof.Rows L2
theorem take_fresh {ls : List (List Str)} (nd : ls.Nodup) {i : Nat} {l : List Str} (hl : ls[i]? = some l) : l ∉ ls.take i := fun m => by
  obtain ⟨j, hj, e⟩ := List.mem_take_iff_getElem.mp m
  have hil := (List.getElem?_eq_some_iff.mp hl).1
  have := nodup_inj nd (i := j) (j := i) (by omega) hil (by
    rw [e]
    exact (List.getElem?_eq_some_iff.mp hl).2.symm)
  omega
/-- the entries of a dict by such lots, all of them lots of the folders -/
theorem ents_some {ch : Bool} {zs : List Str} (nz : zs.Nodup) (lz : zs.length ≤ mostFor ch) {ls : List (List Str)} (f : List Str → Int) (sub : ∀ l ∈ ls, l ∈ lotsFor ch zs) (nl : ls.Nodup) : Ents ch zs (ls.map fun l => (l, f l)) where
  few := by
    rw [List.length_map]
    have h1 := pigeon ls (lotsFor ch zs) nl sub
    have := lots_few (ch := ch) lz
    omega
  lot := fun e he => by
    obtain ⟨l, m, rfl⟩ := List.mem_map.mp he
    show lotOfV ch zs (l.map V.str) = some (lotS zs l)
    rw [lotOfV_lot lz nz (sub l m), lotS_sub (lots_sub lz (sub l m)) nz]
  len := fun e he => by
    obtain ⟨l, m, rfl⟩ := List.mem_map.mp he
    have h1 := lot_len (sub l m)
    have h2 : mostFor ch ≤ 12 := by cases ch <;> decide
    show l.length ≤ 1000
    omega
  nd := by
    rw [List.map_map]
    have e : ls.map ((fun e : List Str × Int => lotS zs e.1) ∘ fun l => (l, f l)) = ls := by
      conv => rhs; rw [← List.map_id ls]
      exact List.map_congr_left fun l m => lotS_sub (lots_sub lz (sub l m)) nz
    rw [e]
    exact nl
theorem ent_some (ls : List (List Str)) (f : List Str → Int) : entT (ls.map fun l => (l, f l)) = tabL ls f := by
  unfold entT tabL
  rw [List.map_map]
  rfl
theorem found_some {ch : Bool} {zs : List Str} (nz : zs.Nodup) (lz : zs.length ≤ mostFor ch) {ls : List (List Str)} (f : List Str → Int) (sub : ∀ l ∈ ls, l ∈ lotsFor ch zs) : foundT zs (ls.map fun l => (l, f l)) = tabL ls f := by
  unfold foundT tabL
  rw [List.map_map]
  refine List.map_congr_left fun l m => ?_
  show ((lotS zs l).map Sum.inr, f l) = _
  rw [lotS_sub (lots_sub lz (sub l m)) nz]
theorem far_new {C x d : Addr} {H1 H : Hp} {zs : List Str} {ch : Bool} (FA : FoldersAt C H1 x zs ch) (nd : H1 d = none) (e : Same H1 H) : ∀ dx t pd, H x = some (.ins C dx (foldersF t pd ch)) → pd ≠ d := fun dx t pd hx => by
  obtain ⟨dx', t', pd', hx', ht', hp'⟩ := FA
  have h := e _ _ hx'
  rw [hx] at h
  have h := Option.some.inj h
  injection h with _ _ h3
  have h4 : pd = pd' := by
    unfold foldersF at h3
    simpa using (List.cons.inj (List.cons.inj (List.cons.inj h3).2).2).1
  rw [h4]
  exact ne_of_none hp' nd
/-- Question(folders, d) of a dict by lots -/
theorem make_quest {K : PySem.W.Frag} {C CQ : Addr} {H : Hp} {x d : Addr} {zs : List Str} {ch : Bool} {ls : List (List Str)} {f wt : List Str → Int} {R : Addr → Hp → Prop} (FA : FoldersAt C H x zs ch) (nz : zs.Nodup) (lz : zs.length ≤ mostFor ch) (hd : H d = some (.dT (tabV (tabL ls f)))) (far : ∀ dx t pd, H x = some (.ins C dx (foldersF t pd ch)) → pd ≠ d)
    (sub : ∀ l ∈ ls, l ∈ lotsFor ch zs) (nl : ls.Nodup) (hw : ∀ l ∈ lotsFor ch zs, wt l = if l ∈ ls then f l else 0) (r : ∀ q H', H q = none → Same H H' → QuestAt C CQ H' q x zs ch wt → R q H') :
    ∀ q dq, H q = none → H dq = none → dq ≠ q → spQuest K C CQ [.ref q, .ref x, .ref d] (upd (upd H dq (.own q)) q (.ins CQ dq [])) (fun v H' => v = .non ∧ R q H') E0 := by
  rintro q dq nq ndq hne
  have e2 := Same.grow (o := HO.ins CQ dq []) (Same.grow (o := HO.own q) (Same.refl H) ndq) nq
  obtain ⟨dx, t, pd, hx, ht, hp⟩ := FA
  refine ⟨q, x, dq, dx, t, pd, .ref d, zs, ch, wt, rfl, upd_same, e2 _ _ hx, e2 _ _ ht, e2 _ _ hp, nz, lz, .inr ⟨d, ls.map fun l => (l, f l), rfl, far _ _ _ hx, ?_, ents_some nz lz f sub nl, fun l m => ?_⟩, fun H' QA hb => ⟨rfl, r q H' nq (fun b u z => hb b u (ne_of_none z nq) (e2 _ _ z)) QA⟩⟩
  · rw [ent_some]
    exact e2 _ _ hd
  · rw [found_some nz lz f sub, getT_tab, hw l m]
    by_cases h : l ∈ ls
    · rw [if_pos h, if_pos h]; rfl
    · rw [if_neg h, if_neg h]; rfl
/-- added(one, other, sign) of questions about equal folders -/
def spAdded (C CQ : Addr) : Sp := fun vs H Q _ => ∃ (q x q' x' : Addr) (zs : List Str) (ch : Bool) (wt wt' : List Str → Int) (sg : Int), vs = [.ref q, .ref q', .int sg] ∧ QuestAt C CQ H q x zs ch wt ∧ QuestAt C CQ H q' x' zs ch wt' ∧ (∀ z ∈ zs, isNameS z = true) ∧ zs.Nodup ∧ zs.length ≤ mostFor ch ∧ -(2 ^ 64) < sg ∧ sg < 2 ^ 64 ∧
  ∀ D H', H D = none → Same H H' → H' D = some (.dT (tabV (tabL (lotsFor ch zs) fun l => wt l + sg * wt' l))) → Q (.ref D) H'
section
variable {P : Program} {w : World} {K : PySem.W.Frag} {mg : Str → Option Value} {base : Heap}
theorem scAdded : FnScope ["one", "other", "sign", "lot"] ["one", "other", "sign"] (defScope (topS 48)) := ⟨rfl, rfl, rfl, by decide +kernel, rfl, by decide +kernel, by decide +kernel⟩
theorem ok_added (B : Bi mg) {C CQ f0 fQ fE f : Addr} {fdE fd : FuncData} (T : FolT K mg C f0) (TQ : QueT K mg CQ fQ) (kT : PySem.W.kitOne K (.ref C) (.ref C) = some true) (tF : ∀ (H : Hp) (x dx : Addr) (fs : List (Str × V)), H x = some (.ins C dx fs) → TyX K H (.ref x) (.ref C))
    (GE : FnOk P w K mg base CX0 1 fE fdE ["self", "other"] (spFEq K C)) (bE : Binds K fdE ["self", "other"] []) (mE : Own K C "__eq__" fE) (cE : eqCls K C fE = true) (F : Fun K "added" "added" (topS 48) f fd) : FnOk P w K mg base CX0 3 f fd ["one", "other", "sign"] (spAdded C CQ) := by
  refine F.ok scAdded (fun vs H Q E h => ?_) (fun cdv A outer s H vs Q E hr h => ?_)
  · obtain ⟨q, x, q', x', zs, ch, wt, wt', sg, rfl, _⟩ := h
    rfl
  · obtain ⟨q, x, q', x', zs, ch, wt, wt', sg, rfl, QA, QB, nm, nz, lz, g1, g2, qq⟩ := h
    have nd := scAdded.nd
    have hu := hu_of hr
    have hrN := hr
    refine ⟨_, (pss_cons (ps_if (pt_cmpR (op_neOwn GE bE pass0 hrN cE mE.fn) (pe_fld (pv 0) rfl) (pe_fld (pv 1) rfl) (nomark _)) (pss_one ps_no) pss_nil)
      (pss_one (ps_ret (pe_lock (pe_dcT (own := [("lot", 3)]) hr.units0 rfl nd (pi_keys (pe_fld (pe_fld (pv 0) rfl) rfl)) (blkOk_by (N := ["one", "other", "sign", "lot"]) (sc := defScope (topS 48)) (by decide +kernel)) (fun _ _ _ _ _ => (pg_name (i := 3) nd rfl (Or.inl rfl))) (fun _ _ _ _ _ => (pv 3)) (fun _ _ _ _ _ => (pe_op op_add (pe_dget2 hu (kFld K (pv 0)) (pv 3) pe_int ⟨rfl, rfl, rfl, rfl⟩) (pe_op op_mul (pv 2) (pe_dget2 hu (kFld K (pv 1)) (pv 3) pe_int ⟨rfl, rfl, rfl, rfl⟩))))))))), ?_⟩
    obtain ⟨dq, td, hq, FA, htd⟩ := id QA
    obtain ⟨dq', td', hq', FB, htd'⟩ := id QB
    obtain ⟨dx, t, pd, hx, ht, hp⟩ := id FA
    obtain ⟨dx', t', pd', hx', ht', hp'⟩ := id FB
    refine ⟨_, rfl, q, CQ, dq, _, _, rfl, hq, TQ.cl, TQ.nF, look_folders _ _, _, rfl, q', CQ, dq', _, _, rfl, hq', TQ.cl, TQ.nF, look_folders _ _, x, dx, x', dx', _, _, rfl, rfl, hx, hx', x, .ref x', .ref C, zs, ch, _, rfl, FA, nm, tF _ _ _ _ hx', .inr ⟨kT, x', zs, ch, rfl, FB, nm, rfl⟩, fun H1 e1 => ⟨_, rfl, _, rfl, ?_⟩⟩
    rw [decide_eq_true rfl, decide_eq_true rfl]
    refine iteF ?_
    have hp1 := e1 _ _ hp
    refine ⟨pd, _, hp1, trivial, fun od => ?_⟩
    have hxp : x ≠ pd := ne_of hx hp (fun z => nomatch z)
    have hqp : q ≠ pd := ne_of hq hp (fun z => nomatch z)
    have hqp' : q' ≠ pd := ne_of hq' hp (fun z => nomatch z)
    have hp3 : upd H1 pd (.frz od (.dT (placesOf (lotsFor ch zs)))) pd = some (.frz od (.dT (placesOf (lotsFor ch zs)))) := upd_same
    refine ⟨_, rfl, q, CQ, dq, _, _, rfl, by rw [upd_ne hqp]; exact e1 _ _ hq, TQ.cl, TQ.nF, look_folders _ _, x, C, dx, _, _, rfl, by rw [upd_ne hxp]; exact e1 _ _ hx, T.cl, T.nP, look_places _ _ _, pd, od, rfl, .inr ⟨_, hp3, fun D2 nD2 => ?_⟩⟩
    have hDp : D2 ≠ pd := (ne_of_none hp3 nD2).symm
    have nD1 : H1 D2 = none := by rw [upd_ne hDp] at nD2; exact nD2
    have lots3 : (lotsFor ch zs).length ≤ 2000 := lots_few lz
    have keep : ∀ {b : Addr} {o : HO} {H' : Hp}, Same (upd H1 pd (.frz od (.dT (placesOf (lotsFor ch zs))))) H' → b ≠ pd → H b = some o → H' b = some o := fun e nb h => e _ _ (by rw [upd_ne nb]; exact e1 _ _ h)
    refine dcT_itw walk_keysT (fun i H' => Same (upd H1 pd (.frz od (.dT (placesOf (lotsFor ch zs))))) H' ∧ H' D2 = some (.dT (tabV (tabL ((lotsFor ch zs).take i) fun l => wt l + sg * wt' l)))) ⟨same_upd nD2, upd_same⟩ (fun i H' _ ⟨e3, _⟩ => e3 _ _ hp3) ?_ ?_
    · rintro i y H3 H4 hi ⟨e3, hd3⟩ ⟨rfl, k, v, qa, hk, rfl, hqa⟩
      obtain ⟨l, hl, rfl⟩ := places_key nz hk
      have ml := List.mem_of_getElem? hl
      have hqs : H4 qa = some (.tup ((l.map Sum.inr : List Key).map kV)) := hqa
      have get : ∀ (wt : List Str → Int), (valV (tabV (tableOf ch zs wt)) (l.map Sum.inr)).getD (.int 0) = .int (wt l) := fun wt => by
        rw [valV_tab, ← getT_table (wt := wt) ml]
        cases getT (tableOf ch zs wt) (l.map Sum.inr) <;> rfl
      have hq4 := keep e3 hqp hq
      have hq4' := keep e3 hqp' hq'
      have tb : ∀ {td : Addr} {kvs : List (List Key × V)}, H td = some (.dT kvs) → H4 td = some (.dT kvs) ∨ ∃ o, H4 td = some (.frz o (.dT kvs)) := fun {td kvs} h => by
        by_cases z : td = pd
        · subst z
          rw [hp] at h
          cases h
          exact .inr ⟨od, e3 _ _ hp3⟩
        · exact .inl (keep e3 z h)
      have gt : ∀ {td : Addr} {kvs : List (List Key × V)}, H td = some (.dT kvs) → DGet H4 td (.ref qa) (valV kvs (l.map Sum.inr)) := fun {td kvs} h => .inr ⟨kvs, _, qa, tb h, rfl, hqs, rfl⟩
      refine ⟨rfl, _, rfl, _, rfl, q, CQ, dq, _, _, rfl, hq4, TQ.cl, TQ.nT, look_table _ _, td, rfl, .inr ⟨_, tb htd⟩, _, rfl, _, gt htd, ?_⟩
      rw [get wt]
      refine ⟨_, rfl, _, rfl, q', CQ, dq', _, _, rfl, hq4', TQ.cl, TQ.nT, look_table _ _, td', rfl, .inr ⟨_, tb htd'⟩, _, rfl, _, gt htd', ?_⟩
      rw [get wt']
      refine ⟨sg, wt' l, rfl, rfl, .inl ⟨g1, g2⟩, wt l, sg * wt' l, rfl, rfl, _, l.map Sum.inr, qa, rfl, hqs, hd3, ?_, Same.grow e3 nD2, ?_⟩
      · rw [tab_len]
        unfold tabL
        rw [List.length_map, List.length_take]
        exact Evl.sz_lt (by omega)
      · have := tab_put (f := fun l => wt l + sg * wt' l) (take_fresh (lots_nodup (ch := ch) nz) hl)
        rw [upd_same, this, take_succ hl]
    · rintro H3 ⟨e3, hd3⟩
      rw [places_length nz, List.take_length] at hd3
      exact ⟨e3 _ _ hp3, qq D2 _ (e1.free nD1) (Same.trans e1 (unlock hp1 e3)) (by rw [upd_ne hDp]; exact hd3)⟩
end
end Bk

namespace Bk
open PySem PySem.Spec PyProof.Rows L2
/-- dict(zip(xs, ys)), xs tuples -/
def tDictZip (K : PySem.W.Frag) (ta : TA) : TE := fun σ H Q => ta σ H fun vs H1 => ∃ (a b : Addr) (ps : List Addr) (ys : List V) (ks : List (List Key)), vs = [.ref a, .ref b] ∧ SqL K H1 a (ps.map V.ref) ∧ SqL K H1 b ys ∧
  Paired (fun p k => H1 p = some (.tup (k.map kV))) ps ks ∧ ks.length = ys.length ∧ ∀ p, H1 p = none → Q (.ref p) (upd H1 p (.dT (mergeT [] (ks.zip ys))))
theorem zipT_of {H : Hp} : ∀ {ps : List Addr} {ks : List (List Key)} {ys : List V} {us : List Value}, Paired (fun p k => H p = some (.tup (k.map kV))) ps ks → Vals ys us → ks.length = ys.length →
    ∃ prs : List (List Key × Addr × Value), KT H (ks.zip ys) prs ∧ prs.length = ps.length ∧ ∀ (j : Nat) (q : List Key × Addr × Value), prs[j]? = some q → ps[j]? = some q.2.1 ∧ us[j]? = some q.2.2
  | _, _, _, _, .nil, .nil, _ => ⟨[], .nil, rfl, fun j q e => by simp at e⟩
  | _, _, _, _, .nil, .cons _ _, e => by simp at e
  | _, _, _, _, .cons _ _, .nil, e => by simp at e
  | _, _, _, _, .cons (a := p) (b := k) h t, .cons (a := y) (b := u) r rr, e => by
    obtain ⟨prs, kt, hl, hp⟩ := zipT_of t rr (by simpa using e)
    refine ⟨(k, p, u) :: prs, .cons ⟨rfl, h, r⟩ kt, by rw [List.length_cons, List.length_cons, hl], fun j q eq => ?_⟩
    cases j with
    | zero =>
      have e' : (k, p, u) = q := Option.some.inj eq
      subst e'
      exact ⟨rfl, rfl⟩
    | succ j =>
      obtain ⟨e1, e2⟩ := hp j q (by simpa using eq)
      exact ⟨by simpa using e1, by simpa using e2⟩
section
variable {X : Cx} {e1 e2 : Expr} {ta : TA} {p p2 pos pos2 : Pos} {K : PySem.W.Frag}
theorem pe_dictZip (hg : Gl X "dict") (hm : X.mg "dict" = none) (hgz : Gl X "zip") (hmz : X.mg "zip" = none) (ha : PA X [e1, e2] ta) (hc : X.calm = true) (hu : X.A.units + 64 < cLine) (eK : X.K = K := by rfl)
    (hs : starEach [e1, e2] X.env = (false, eval e1 X.env) :: starEach [e2] X.env := by rfl) (hpl : (backTo pos2 (starEach [e2] X.env)).any (·.1) = false := by rfl)
    (hs1 : starEach [.Call (.Name "zip" p2) [e1, e2] [] pos2] X.env = (false, eval (.Call (.Name "zip" p2) [e1, e2] [] pos2) X.env) :: starEach [] X.env := by rfl) :
    PE X (.Call (.Name "dict" p) [.Call (.Name "zip" p2) [e1, e2] [] pos2] [] pos) (tDictZip K ta) := by
  subst eK
  refine ⟨fun pins s σ H Q I h => ?_⟩
  refine Call_ (ld_blt I hg hm PyProof.Rows.boot_dict (PyProof.Rows.callWith_type1 ?_ hs1 rfl))
  rw [hs1]
  show wpAny _ _ (spliced ((false, eval (.Call (.Name "zip" p2) [e1, e2] [] pos2) X.env) :: backTo pos (starEach [] X.env))) _ _ s
  refine Calls.spliced_cons ?_
  refine Call_ (ld_blt I hgz hmz PyProof.Rows.boot_zip (PyProof.Rows.callWith_type1 (thn (ha.run pos2 pins s σ H _ I h) fun us s1 ⟨vs, H1, I1, r1, q1⟩ => ?_) hs hpl))
  obtain ⟨a, b, ps, ys, ks, ex, hqx, hqy, hpk, hlen, q⟩ := q1
  subst ex
  cases r1 with
  | cons r rr =>
    cases rr with
    | cons r' rr =>
      cases rr
      cases r
      cases r'
      obtain ⟨its, rv, p1, hz1⟩ := I1.list hqx
      obtain ⟨its2, rv2, p2', hz2⟩ := I1.list hqy
      have ei := refs_at rv
      subst ei
      rw [List.length_map] at hz1
      have la : a < s1.heap.objs.size := p1.lt
      have lb : b < s1.heap.objs.size := p2'.lt
      refine call_zip_2 p1.isList p2'.isList fun h' hz hTI hTO h1 h2 hsz hk => ?_
      have I2 : Inv X pins σ H1 { s1 with heap := h' } := I1.kept (t' := s1.toks) hk
      refine Calls.spliced_nil ?_
      obtain ⟨prs, kt, hl, hpr⟩ := zipT_of (H := H1) hpk rv2 hlen
      have hlk : (ks.zip ys).length = prs.length := Paired.length kt
      have hlp : ps.length = ks.length := Paired.length hpk
      have hl2 : its2.length = ys.length := rv2.length.symm
      have hmin : min (ps.map Value.ref).toArray.size its2.toArray.size = prs.length := by simp; omega
      have old : ∀ c : Addr, c < s1.heap.objs.size → c ∉ [s1.heap.objs.size + 4, s1.heap.objs.size + 3, s1.heap.objs.size, s1.heap.objs.size + 1] := fun c hc z => by
        simp only [List.mem_cons, List.not_mem_nil, or_false] at z
        rcases z with z | z | z | z
        · rw [z] at hc; exact Nat.not_lt.mpr (Nat.le_add_right _ _) hc
        · rw [z] at hc; exact Nat.not_lt.mpr (Nat.le_add_right _ _) hc
        · rw [z] at hc; exact Nat.lt_irrefl _ hc
        · rw [z] at hc; exact Nat.not_lt.mpr (Nat.le_add_right _ _) hc
      refine call_dict_pairsH (knd := tupleKind (mixKind X.prog X.w)) (ps := prs) (PairArg.zip (s1.heap.objs.size + 4) (s1.heap.objs.size + 2) (s1.heap.objs.size + 3) s1.heap.objs.size (s1.heap.objs.size + 1) a b (PySem.W.ktu_apart s1.heap.objs.size a b la lb) (ps.map Value.ref).toArray its2.toArray) (I2.ok.hd hc) ?_
        ⟨hz, hTI, ⟨_, _, hTO⟩, h1, h2, p1.isList.at fun o e => hk _ o e, p2'.isList.at fun o e => hk _ o e⟩ ⟨hmin.symm, fun i key v e => ?_⟩ ?_ (by rw [hmin, hl]; exact hz1) fun h'' tk hd' k => ?_
      · show X.A.in1.in1.units < cLine
        exact Nat.lt_of_le_of_lt (Nat.add_le_add_left (by decide : 2 ≤ 64) _) hu
      · obtain ⟨ea, eb⟩ := e
        have hi : i < prs.length := by
          have := (Array.getElem?_eq_some_iff.mp ea).1
          simp at this
          omega
        obtain ⟨x, hx⟩ : ∃ x, prs[i]? = some x := ⟨_, List.getElem?_eq_getElem hi⟩
        obtain ⟨g1, g2⟩ := hpr i x hx
        have ea : (ps.map Value.ref)[i]? = some key := by simpa using ea
        have eb : its2[i]? = some v := by simpa using eb
        rw [List.getElem?_map, g1] at ea
        rw [g2] at eb
        cases ea
        cases eb
        exact ⟨x.1, x.2.1, hx, rfl⟩
      · intro h2' hk2 x hx
        obtain ⟨o, arr, n, g1, g2, g3, g4⟩ := key_of (P := X.prog) (w := X.w) I1.hok (kt_keys kt x hx)
        have hlt := Heap.lt_size g1
        have hle : s1.heap.objs.size ≤ h'.objs.size := by rw [hsz]; exact Nat.le_add_right _ _
        refine ⟨o, arr, n, hk2 _ _ (Nat.ne_of_lt (Nat.lt_of_lt_of_le hlt hle)) (fun z => old _ hlt z) (hk _ _ g1), g2, g3, g4⟩
      · show EP X pins σ Q (.ref h'.objs.size) { s1 with heap := h'', toks := tk }
        exact dt_made (h' := h'') (tk := tk) I1 kt (by rw [hlk, hl]; exact hz1) (by rw [hsz]; exact Nat.le_add_right _ _) hd' (fun c o e => k c o (fun z => old _ (Heap.lt_size e) z) (hk _ _ e)) q
end
end Bk

namespace Bk
open PySem PySem.Spec PyProof.Rows L2
theorem str_map_inj : ∀ {a b : List Str}, a.map V.str = b.map V.str → a = b
  | [], [], _ => rfl
  | [], _ :: _, h => nomatch h
  | _ :: _, [], h => nomatch h
  | x :: r, y :: t, h => by
    injection h with h1 h2
    injection h1 with h1
    rw [h1, str_map_inj h2]
/-- one of two promises -/
theorem FnOk.or {P : Program} {w : World} {K : PySem.W.Frag} {mg : Str → Option Value} {base : Heap} {CX : CXT} {k : Nat} {f : Addr} {fd : FuncData} {ps : List Str} {s1 s2 : Sp} (h1 : FnOk P w K mg base CX k f fd ps s1) (h2 : FnOk P w K mg base CX k f fd ps s2) :
    FnOk P w K mg base CX k f fd ps (fun vs H Q E => s1 vs H Q E ∨ s2 vs H Q E) :=
  ⟨fun vs H Q E q => q.elim (h1.len vs H Q E) (h2.len vs H Q E), fun A outer s H args us vs Q E hr he hb hv hs => hs.elim (h1.run A outer s H args us vs Q E hr he hb hv) (h2.run A outer s H args us vs Q E hr he hb hv)⟩
/-- Folders(names, ..) of right names -/
theorem make_fold {K : PySem.W.Frag} {C CB : Addr} {H : Hp} {nm : V} {zs : List Str} {ch : Bool} {R : Addr → Hp → Prop} (Th : Thing K H nm (some (zs.map V.str))) (hw : wrongOf (some (zs.map V.str)) (mostFor ch) = none) (r : ∀ x H', H x = none → Same H H' → FoldersAt C H' x zs ch → R x H') :
    ∀ x dx, H x = none → H dx = none → dx ≠ x → spFolders K C CB [.ref x, nm, .bl ch] (upd (upd H dx (.own x)) x (.ins C dx [])) (fun v H' => v = .non ∧ R x H') E0 := by
  rintro x dx nx ndx hne
  have e1 := Same.grow (o := HO.ins C dx []) (Same.grow (o := HO.own x) (Same.refl H) ndx) nx
  refine ⟨x, dx, nm, _, ch, rfl, upd_same, Th.same e1, fun i d H' hi => ?_, fun zs' H' _ ez _ FA bt => ⟨rfl, r x H' nx (fun b u e => bt b u (ne_of_none e nx) (e1 _ _ e)) ?_⟩⟩
  · rw [hw] at hi
    cases hi
  · have : zs = zs' := str_map_inj (Option.some.inj ez)
    rw [this]
    exact FA
section
variable {st c : Addr} {n : Nat} {H H' : Hp}
theorem Strm.far {b : Addr} {o : HO} (S : Strm H st c n) (h : H b = some o) (ho : ∀ l, o ≠ .lst l) : b ≠ st ∧ b ≠ c := by
  obtain ⟨ne, cells, a, k, m, h1, h2, h3⟩ := S
  exact ⟨fun e => by subst e; rw [h] at h2; injection h2 with h2; exact ho _ h2, fun e => by subst e; rw [h] at h1; injection h1 with h1; exact ho _ h1⟩
theorem Strm.hold {b : Addr} {o : HO} (S : Strm H st c n) (k : Kept st c H H') (h : H b = some o) (ho : ∀ l, o ≠ .lst l) : H' b = some o :=
  let ⟨n1, n2⟩ := S.far h ho
  k b o n1 n2 h
theorem FoldersAt.kept {C x : Addr} {zs : List Str} {ch : Bool} (h : FoldersAt C H x zs ch) (S : Strm H st c n) (k : Kept st c H H') : FoldersAt C H' x zs ch := by
  obtain ⟨dx, t, pd, h1, h2, h3⟩ := h
  exact ⟨dx, t, pd, S.hold k h1 (fun _ z => nomatch z), S.hold k h2 (fun _ z => nomatch z), S.hold k h3 (fun _ z => nomatch z)⟩
theorem QuestAt.kept {CF CQ q x : Addr} {zs : List Str} {ch : Bool} {wt : List Str → Int} (h : QuestAt CF CQ H q x zs ch wt) (S : Strm H st c n) (k : Kept st c H H') : QuestAt CF CQ H' q x zs ch wt := by
  obtain ⟨dq, td, h1, h2, h3⟩ := h
  exact ⟨dq, td, S.hold k h1 (fun _ z => nomatch z), h2.kept S k, S.hold k h3 (fun _ z => nomatch z)⟩
theorem Ats.kept {α : Type} {g : α → List V} {ws : List V} {xs : List α} (a : Ats H g ws xs) (S : Strm H st c n) (k : Kept st c H H') : Ats H' g ws xs := ⟨a.1, fun i v x h1 h2 => by
  obtain ⟨b, e1, e2⟩ := a.2 i v x h1 h2
  exact ⟨b, e1, S.hold k e2 (fun _ z => nomatch z)⟩⟩
end
theorem far_names {K : PySem.W.Frag} {H : Hp} {st c : Addr} {zs : List Str} (hn : ∀ z ∈ zs, isNameS z = true) : ∀ y ∈ zs.map V.str, Far K H st c y := fun y m => by
  obtain ⟨z, mz, rfl⟩ := List.mem_map.mp m
  have hz := hn z mz
  unfold isNameS at hz
  simp only [Bool.and_eq_true, decide_eq_true_eq] at hz
  exact Far.str (by omega)
/-- a house as the laws draw it: names, whether a chain, the folders, the lots -/
structure HouseAt (C : Addr) (H : Hp) (st c nl x D : Addr) (zs : List Str) (ch : Bool) (ws : List V) : Prop where
  n1 : nl ≠ st
  n2 : nl ≠ c
  d1 : D ≠ st
  d2 : D ≠ c
  dn : D ≠ nl
  nm : H nl = some (.lst (zs.map V.str))
  fo : FoldersAt C H x zs ch
  ld : H D = some (.lst ws)
  at_ : Ats H (fun l : List Str => l.map V.str) ws (lotsFor ch zs)
  pos : 0 < zs.length
  le : zs.length ≤ mostFor ch
  nd : zs.Nodup
  ok : ∀ z ∈ zs, isNameS z = true
theorem HouseAt.same {C : Addr} {H H' : Hp} {st c nl x D : Addr} {zs : List Str} {ch : Bool} {ws : List V} (h : HouseAt C H st c nl x D zs ch ws) (e : Same H H') : HouseAt C H' st c nl x D zs ch ws :=
  ⟨h.n1, h.n2, h.d1, h.d2, h.dn, e _ _ h.nm, h.fo.same e, e _ _ h.ld, h.at_.same e, h.pos, h.le, h.nd, h.ok⟩
theorem HouseAt.kept {C : Addr} {H H' : Hp} {st c nl x D : Addr} {n : Nat} {zs : List Str} {ch : Bool} {ws : List V} (h : HouseAt C H st c nl x D zs ch ws) (S : Strm H st c n) (k : Kept st c H H') : HouseAt C H' st c nl x D zs ch ws :=
  ⟨h.n1, h.n2, h.d1, h.d2, h.dn, k _ _ h.n1 h.n2 h.nm, h.fo.kept S k, k _ _ h.d1 h.d2 h.ld, h.at_.kept S k, h.pos, h.le, h.nd, h.ok⟩
/-- _law_b_house(stream, most) -/
def spHouse (K : PySem.W.Frag) (C : Addr) : Sp := fun vs H Q _ => ∃ (st c : Addr) (n most : Nat), vs = [.ref st, .int (most : Int)] ∧ Strm H st c n ∧ n ≤ 700000 ∧ 1 ≤ most ∧ most ≤ 5 ∧
  ∀ (p nl x D : Addr) (zs : List Str) (ch : Bool) (ws : List V) (H' : Hp), H p = none → H nl = none → H x = none → H D = none → zs.length ≤ most → H' p = some (.tup [.ref nl, .bl ch, .ref x, .ref D]) → HouseAt C H' st c nl x D zs ch ws → Strm H' st c (n + 203) → Kept st c H H' → Q (.ref p) H'
theorem kDictPT {X : Cx} (K : PySem.W.Frag) (hc : X.calm = true) (hu : X.A.units + 64 < cLine) (e : X.K = K := by rfl) : CallR X (.type "dict") (rDictPT K) := e ▸ call_dictPT hc hu
/-- _law_frozen: texts, numbers and the like stay; a list or a tuple of texts becomes a tuple; an empty dict an empty one -/
def spFrz (K : PySem.W.Frag) : Nat → Sp
  | 0 => fun _ _ _ _ => False
  | n + 1 => fun vs H Q _ => ∃ y, vs = [y] ∧ ((∃ k, TyX K H y (.type k) ∧ kitB k "dict" = some false ∧ kitB k "list" = some false ∧ kitB k "tuple" = some false ∧ ∀ H', Same H H' → Q y H') ∨
      (∃ (a : Addr) (ks : List Str), y = .ref a ∧ 1 ≤ n ∧ (H a = some (.lst (ks.map V.str)) ∨ H a = some (.tup (ks.map V.str))) ∧ ks.length ≤ 1000 ∧ ∀ p H', H p = none → Same H H' → H' p = some (.tup (ks.map V.str)) → Q (.ref p) H') ∨
      (∃ a : Addr, y = .ref a ∧ H a = some (.dK []) ∧ ∀ p H', H p = none → Same H H' → H' p = some (.dT []) → Q (.ref p) H'))
/-- [G(lot) for lot in lots] -/
theorem map_ats {K : PySem.W.Frag} {i : Nat} {a : Addr} {ws : List V} {ls : List (List Str)} {g : TG} {te : TE} {vs : List Nat} {σ : L2.St} {H : Hp} {Q : VK} (G : List Str → V) (hv : σ[i]? = some (some (.ref a))) (hS : SqL K H a ws) (at0 : Ats H (fun l : List Str => l.map V.str) ws ls) (hl : ls.length ≤ 100000)
    (hs : ∀ l q H' (R : VK), l ∈ ls → Same H H' → H' q = some (.tup (l.map V.str)) → (∀ H2, Same H' H2 → R (G l) H2) → g (.ref q) (wipe σ vs) H' fun σ2 H2 => wipe σ2 vs = wipe σ vs ∧ te σ2 H2 R)
    (hd : ∀ D H', H D = none → Same H H' → H' D = some (.lst (ls.map G)) → Q (.ref D) H') : tLc (iList K (tVar i)) g tYes te vs σ H Q := by
  refine ⟨_, hv, a, rfl, ⟨ws, hS⟩, fun D nD => lc_it walk_list (Upto H D ls G) (.zero nD) (fun j H' _ u => u.sm.seq hS) ?_ ?_⟩
  · rintro j x H' H2 hj u ⟨rfl, hx⟩
    obtain ⟨l, hlj⟩ : ∃ l, ls[j]? = some l := ⟨_, List.getElem?_eq_getElem (by rw [← at0.1]; exact hj)⟩
    obtain ⟨q, rfl, hq⟩ := at0.2 j x l hx hlj
    exact hs l q H2 (fun y H4 => ∃ acc, H4 D = some (.lst acc) ∧ acc.length < sizeLine ∧ Upto H D ls G (j + 1) (upd H4 D (.lst (acc ++ [y])))) (List.mem_of_getElem? hlj) u.sm (u.sm _ _ hq) fun H3 e3 => u.next nD hlj e3 hl
  · intro H' u
    exact hd D H' nD u.sm (u.all at0.1)
theorem str_ne {a b : Str} (h : ¬ a = b) : decide (V.str a = V.str b) = false := decide_eq_false fun e => h (by injection e)
theorem str_eq (a : Str) : decide (V.str a = V.str a) = true := decide_eq_true rfl
theorem mem_map_any (ks l : List Str) : ((l.map V.str).map fun v => V.bl (inV v (ks.map V.str))) = (l.map fun k => decide (k ∈ ks)).map V.bl := by
  rw [List.map_map, List.map_map]
  refine List.map_congr_left fun k _ => ?_
  show V.bl (inV (.str k) (ks.map V.str)) = V.bl (decide (k ∈ ks))
  rw [inV_strs]
def W6 : Nat → Str
  | 0 => Str.ofString "refers"
  | 1 => Str.ofString "freed"
  | 2 => Str.ofString "shared"
  | 3 => Str.ofString "just"
  | 4 => Str.ofString "sent"
  | _ => Str.ofString "whole"
/-- the law's own words for the same -/
def lawCnt : Nat → List Str → List Str → Bool
  | 0 => fun ks l => l.any fun k => decide (k ∈ ks)
  | 1 => fun ks l => l.all fun k => decide (k ∈ ks)
  | 2 => fun ks l => ks.all fun k => decide (k ∈ l)
  | 3 => fun ks l => decide (l.length = ks.length) && ks.all fun k => decide (k ∈ l)
  | 4 => fun ks l => decide (ks.getD 1 Str.empty ∈ l) && !decide (ks.getD 0 Str.empty ∈ l)
  | _ => fun _ _ => true
def spCounted (K : PySem.W.Frag) : Sp := fun vs H Q _ => ∃ (j : Nat) (a D : Addr) (ks : List Str) (ws : List V) (ls : List (List Str)), vs = [.str (W6 j), .ref a, .ref D] ∧ j < 6 ∧ H a = some (.lst (ks.map V.str)) ∧ ks.length ≤ 1000 ∧ (j = 4 → ks.length = 2) ∧ H D = some (.lst ws) ∧ Ats H (fun l : List Str => l.map V.str) ws ls ∧ ls.length ≤ 2000 ∧ (∀ l ∈ ls, l.length ≤ 1000) ∧
  ∀ R H', H R = none → Same H H' → H' R = some (.lst (ls.map fun l => V.int (if lawCnt j ks l then 1 else 0))) → Q (.ref R) H'
end Bk

namespace Bk
open PySem PySem.Spec PyProof.Rows L2
/-! ### comprehensions over zip(x, y): each thing told by a relation -/
/-- us tell ls one by one -/
def Told {α : Type} (Rel : Hp → V → α → Prop) (H : Hp) (us : List V) (ls : List α) : Prop := us.length = ls.length ∧ ∀ (k : Nat) (u : V) (l : α), us[k]? = some u → ls[k]? = some l → Rel H u l
structure Stays {α : Type} (Rel : Hp → V → α → Prop) : Prop where
  sm : ∀ (H1 H2 : Hp) (u : V) (l : α), Same H1 H2 → Rel H1 u l → Rel H2 u l
  up : ∀ (H1 : Hp) (D : Addr) (as bs : List V) (u : V) (l : α), H1 D = some (.lst as) → Rel H1 u l → Rel (upd H1 D (.lst bs)) u l
theorem told_snoc {α : Type} {Rel : Hp → V → α → Prop} (st : Stays Rel) {H2 : Hp} {D : Addr} {us : List V} {ls : List α} {i : Nat} {l : α} {y : V} (hD : H2 D = some (.lst us)) (hu : us.length = i) (hl : ls[i]? = some l) (t : ∀ (k : Nat) (u : V) (m : α), us[k]? = some u → ls[k]? = some m → Rel H2 u m) (r : Rel H2 y l) :
    ∀ (k : Nat) (u : V) (m : α), (us ++ [y])[k]? = some u → ls[k]? = some m → Rel (upd H2 D (.lst (us ++ [y]))) u m := fun k u m h1 h2 => by
  refine st.up _ _ us _ _ _ hD ?_
  by_cases c : k < us.length
  · rw [List.getElem?_append_left c] at h1
    exact t k u m h1 h2
  · have hk := (List.getElem?_eq_some_iff.mp h1).1
    rw [List.length_append] at hk
    have hk : k < us.length + 1 := hk
    have e : k = us.length := by omega
    subst e
    rw [List.getElem?_append_right (Nat.le_refl _), Nat.sub_self] at h1
    cases h1
    rw [hu] at h2
    rw [hl] at h2
    cases h2
    exact r
theorem zip_rel {α : Type} {K : PySem.W.Frag} {i j : Nat} {a b : Addr} {xs ys : List V} {ls : List α} {g : TG} {te : TE} {vs : List Nat} {σ : L2.St} {H : Hp} {Q : VK} {Rel : Hp → V → α → Prop} (st : Stays Rel) (hv1 : σ[i]? = some (some (.ref a))) (hv2 : σ[j]? = some (some (.ref b)))
    (hS : (SqL K H a xs ∧ SqL K H b ys) ∨ (SqT K H a xs ∧ SqT K H b ys)) (lx : xs.length = ls.length) (ly : ys.length = ls.length) (hl : ls.length ≤ 100000)
    (hs : ∀ (k : Nat) (l : α) (x y : V) (T : Addr) (H2 : Hp) (R : VK), ls[k]? = some l → xs[k]? = some x → ys[k]? = some y → Same H H2 → H2 T = some (.tup [x, y]) → (∀ u H3, Same H2 H3 → Rel H3 u l → R u H3) → g (.ref T) (wipe σ vs) H2 fun σ2 H3 => wipe σ2 vs = wipe σ vs ∧ te σ2 H3 R)
    (hd : ∀ D us H', H D = none → Same H H' → H' D = some (.lst us) → Told Rel H' us ls → Q (.ref D) H') : tLc (RZ.iZipA K (tCons (tVar i) (tCons (tVar j) tNil))) g tYes te vs σ H Q := by
  refine lcZ hv1 hv2 hS (by omega) fun D nD => ⟨fun k H' => ∃ us : List V, us.length = k ∧ Same H H' ∧ H' D = some (.lst us) ∧ ∀ (i : Nat) (u : V) (m : α), us[i]? = some u → ls[i]? = some m → Rel H' u m, ?_, ?_, ?_, ?_⟩
  · exact ⟨[], rfl, same_upd nD, upd_same, fun i u m h => by simp at h⟩
  · rintro k H' ⟨us, _, e, _, _⟩
    exact e
  · rintro k v H' H2 hk ⟨us, hu, e, hD, t⟩ ⟨T, x, y, rfl, nT, rfl, hx, hy⟩
    have hkl : k < ls.length := by omega
    have e1 := same_upd (o := HO.tup [x, y]) nT
    refine hs k ls[k] x y T _ (fun y H5 => ∃ acc, H5 D = some (.lst acc) ∧ acc.length < sizeLine ∧ ∃ us : List V, us.length = k + 1 ∧ Same H (upd H5 D (.lst (acc ++ [y]))) ∧ upd H5 D (.lst (acc ++ [y])) D = some (.lst us) ∧ ∀ (i : Nat) (u : V) (m : α), us[i]? = some u → ls[i]? = some m → Rel (upd H5 D (.lst (acc ++ [y]))) u m) (List.getElem?_eq_getElem hkl) hx hy (Same.trans e e1) upd_same fun u H3 e3 r => ?_
    have e13 := Same.trans e1 e3
    exact ⟨us, e13 _ _ hD, Evl.sz_lt (by omega), us ++ [u], by rw [List.length_append, hu]; rfl, Same.grow (Same.trans e e13) nD, upd_same, told_snoc st (e13 _ _ hD) hu (List.getElem?_eq_getElem hkl) (fun k u m h1 h2 => st.sm _ _ _ _ e13 (t k u m h1 h2)) r⟩
  · rintro H' ⟨us, hu, e, hD, t⟩
    exact hd D us H' nD e hD ⟨by omega, t⟩
theorem stays_eq {α : Type} (G : α → V) : Stays fun (_ : Hp) (u : V) (l : α) => u = G l := ⟨fun _ _ _ _ _ h => h, fun _ _ _ _ _ _ _ h => h⟩
theorem told_eq {α : Type} {G : α → V} {H : Hp} {us : List V} {ls : List α} (t : Told (fun (_ : Hp) (u : V) (l : α) => u = G l) H us ls) : us = ls.map G := by
  refine List.ext_getElem? fun k => ?_
  rw [List.getElem?_map]
  cases h1 : us[k]? with
  | none =>
    have h2 : ls[k]? = none := by
      rw [List.getElem?_eq_none_iff] at h1 ⊢
      rw [← t.1]
      exact h1
    rw [h2]
    rfl
  | some u =>
    have hk := (List.getElem?_eq_some_iff.mp h1).1
    rw [t.1] at hk
    rw [List.getElem?_eq_getElem hk]
    rw [t.2 k u ls[k] h1 (List.getElem?_eq_getElem hk)]
    rfl
/-- [.. for x, y in zip(a, b)] where each is a number told by what stands there -/
theorem zip_map {α : Type} {K : PySem.W.Frag} {i j : Nat} {a b : Addr} {xs ys : List V} {ls : List α} {g : TG} {te : TE} {vs : List Nat} {σ : L2.St} {H : Hp} {Q : VK} (G : α → V) (hv1 : σ[i]? = some (some (.ref a))) (hv2 : σ[j]? = some (some (.ref b)))
    (hS : (SqL K H a xs ∧ SqL K H b ys) ∨ (SqT K H a xs ∧ SqT K H b ys)) (lx : xs.length = ls.length) (ly : ys.length = ls.length) (hl : ls.length ≤ 100000)
    (hs : ∀ (k : Nat) (l : α) (x y : V) (T : Addr) (H2 : Hp) (R : VK), ls[k]? = some l → xs[k]? = some x → ys[k]? = some y → Same H H2 → H2 T = some (.tup [x, y]) → (∀ H3, Same H2 H3 → R (G l) H3) → g (.ref T) (wipe σ vs) H2 fun σ2 H3 => wipe σ2 vs = wipe σ vs ∧ te σ2 H3 R)
    (hd : ∀ D H', H D = none → Same H H' → H' D = some (.lst (ls.map G)) → Q (.ref D) H') : tLc (RZ.iZipA K (tCons (tVar i) (tCons (tVar j) tNil))) g tYes te vs σ H Q :=
  zip_rel (stays_eq G) hv1 hv2 hS lx ly hl (fun k l x y T H2 R h1 h2 h3 e hT r => hs k l x y T H2 R h1 h2 h3 e hT fun H3 e3 => r _ H3 e3 rfl) fun D us H' nD e hD t => hd D H' nD e (by rw [hD, told_eq t])
/-- a pair of a lot's tuple and a number -/
def PairAt (H : Hp) (u : V) (e : List Str × Int) : Prop := ∃ p b : Addr, u = .ref p ∧ H p = some (.tup [.ref b, .int e.2]) ∧ H b = some (.tup (e.1.map V.str))
theorem stays_pair : Stays PairAt := ⟨fun H1 H2 u l e => by
  rintro ⟨p, b, rfl, h1, h2⟩
  exact ⟨p, b, rfl, e _ _ h1, e _ _ h2⟩, fun H1 D as bs u l hD => by
  rintro ⟨p, b, rfl, h1, h2⟩
  exact ⟨p, b, rfl, by rw [upd_ne (ne_of h1 hD (fun z => nomatch z))]; exact h1, by rw [upd_ne (ne_of h2 hD (fun z => nomatch z))]; exact h2⟩⟩
/-- what dict(list of such pairs) asks for -/
theorem told_pairs {H : Hp} : ∀ {es : List (List Str × Int)} {us : List V}, Told PairAt H us es → ∃ ps : List Addr, us = ps.map V.ref ∧ Paired (fun p kv => ∃ b, H p = some (.tup [.ref b, kv.2]) ∧ H b = some (.tup (kv.1.map kV))) ps (es.map fun e => ((e.1.map Sum.inr : List Key), V.int e.2))
  | [], [], _ => ⟨[], rfl, .nil⟩
  | [], _ :: _, t => by cases t.1
  | _ :: _, [], t => by cases t.1
  | e :: r, u :: us, t => by
    obtain ⟨p, b, rfl, h1, h2⟩ := t.2 0 u e rfl rfl
    obtain ⟨ps, rfl, hp⟩ := told_pairs (es := r) (us := us) ⟨Nat.succ.inj t.1, fun k u l a b => t.2 (k + 1) u l a b⟩
    exact ⟨p :: ps, rfl, .cons ⟨b, h1, by rw [str_key]; exact h2⟩ hp⟩
end Bk

namespace Bk
open PySem PySem.Spec PyProof.Rows L2
/-! ### comprehensions over a list, a test, each thing told by a relation -/
theorem Told.nil {α : Type} {Rel : Hp → V → α → Prop} {H : Hp} : Told Rel H [] [] := ⟨rfl, fun k u l h => by simp at h⟩
theorem Told.same {α : Type} {Rel : Hp → V → α → Prop} (st : Stays Rel) {H H' : Hp} {us : List V} {ls : List α} (t : Told Rel H us ls) (e : Same H H') : Told Rel H' us ls := ⟨t.1, fun k u l h1 h2 => st.sm _ _ _ _ e (t.2 k u l h1 h2)⟩
theorem Told.up {α : Type} {Rel : Hp → V → α → Prop} (st : Stays Rel) {H : Hp} {D : Addr} {as bs : List V} {us : List V} {ls : List α} (t : Told Rel H us ls) (h : H D = some (.lst as)) : Told Rel (upd H D (.lst bs)) us ls := ⟨t.1, fun k u l h1 h2 => st.up _ _ _ _ _ _ h (t.2 k u l h1 h2)⟩
theorem Told.snoc {α : Type} {Rel : Hp → V → α → Prop} {H : Hp} {us : List V} {ls : List α} {u : V} {l : α} (t : Told Rel H us ls) (r : Rel H u l) : Told Rel H (us ++ [u]) (ls ++ [l]) := by
  refine ⟨by rw [List.length_append, List.length_append, t.1]; rfl, fun k v m h1 h2 => ?_⟩
  by_cases c : k < us.length
  · rw [List.getElem?_append_left c] at h1
    rw [List.getElem?_append_left (by rw [← t.1]; exact c)] at h2
    exact t.2 k v m h1 h2
  · have hk := (List.getElem?_eq_some_iff.mp h1).1
    rw [List.length_append] at hk
    have hk : k < us.length + 1 := hk
    have e : k = us.length := by omega
    subst e
    rw [List.getElem?_append_right (Nat.le_refl _), Nat.sub_self] at h1
    rw [t.1, List.getElem?_append_right (Nat.le_refl _), Nat.sub_self] at h2
    cases h1
    cases h2
    exact r
theorem list_rel {α : Type} {K : PySem.W.Frag} {i : Nat} {a : Addr} {xs : List V} {ls : List α} {g : TG} {tt : TT} {te : TE} {vs : List Nat} {σ : L2.St} {H : Hp} {Q : VK} {Rel : Hp → V → α → Prop} (p : α → Bool) (st : Stays Rel) (hv : σ[i]? = some (some (.ref a))) (hS : SqL K H a xs) (lx : xs.length = ls.length) (hl : ls.length ≤ 100000)
    (hs : ∀ (k : Nat) (l : α) (x : V) (H2 : Hp) (R : VK) (N : Hp → Prop), ls[k]? = some l → xs[k]? = some x → Same H H2 → (∀ u H3, p l = true → Same H2 H3 → Rel H3 u l → R u H3) → (∀ H3, p l = false → Same H2 H3 → N H3) → g x (wipe σ vs) H2 fun σ2 H3 => wipe σ2 vs = wipe σ vs ∧ tt σ2 H3 fun b H4 => if b = true then te σ2 H4 R else N H4)
    (hd : ∀ D us H', H D = none → Same H H' → H' D = some (.lst us) → Told Rel H' us (ls.filter p) → Q (.ref D) H') : tLc (iList K (tVar i)) g tt te vs σ H Q := by
  refine ⟨_, hv, a, rfl, ⟨xs, hS⟩, fun D nD => lc_it walk_list (fun k H' => ∃ us : List V, Same H H' ∧ H' D = some (.lst us) ∧ us.length ≤ k ∧ Told Rel H' us ((ls.take k).filter p)) ?_ (fun k H' _ ⟨_, e, _, _, _⟩ => e.seq hS) ?_ ?_⟩
  · exact ⟨[], same_upd nD, upd_same, Nat.le_refl _, .nil⟩
  · rintro k x H' H2 hk ⟨us, e, hD, hu, t⟩ ⟨rfl, hx⟩
    have hkl : k < ls.length := by omega
    have hlk : ls[k]? = some ls[k] := List.getElem?_eq_getElem hkl
    refine hs k ls[k] x H2 (fun y H5 => ∃ acc, H5 D = some (.lst acc) ∧ acc.length < sizeLine ∧ ∃ us : List V, Same H (upd H5 D (.lst (acc ++ [y]))) ∧ upd H5 D (.lst (acc ++ [y])) D = some (.lst us) ∧ us.length ≤ k + 1 ∧ Told Rel (upd H5 D (.lst (acc ++ [y]))) us ((ls.take (k + 1)).filter p)) (fun H5 => ∃ us : List V, Same H H5 ∧ H5 D = some (.lst us) ∧ us.length ≤ k + 1 ∧ Told Rel H5 us ((ls.take (k + 1)).filter p)) hlk hx e (fun u H3 c e3 r => ?_) fun H3 c e3 => ?_
    · refine ⟨us, e3 _ _ hD, Evl.sz_lt (by omega), us ++ [u], Same.grow (Same.trans e e3) nD, upd_same, by rw [List.length_append]; exact Nat.succ_le_succ hu, ?_⟩
      rw [take_succ hlk, List.filter_append, List.filter_cons_of_pos c, List.filter_nil]
      exact ((t.same st e3).snoc r).up st (e3 _ _ hD)
    · refine ⟨us, Same.trans e e3, e3 _ _ hD, by omega, ?_⟩
      rw [take_succ hlk, List.filter_append, List.filter_cons_of_neg (by rw [c]; exact Bool.false_ne_true), List.filter_nil, List.append_nil]
      exact t.same st e3
  · rintro H' ⟨us, e, hD, _, t⟩
    rw [lx, List.take_length] at t
    exact hd D us H' nD e hD t
theorem list_map {α : Type} {K : PySem.W.Frag} {i : Nat} {a : Addr} {xs : List V} {ls : List α} {g : TG} {te : TE} {vs : List Nat} {σ : L2.St} {H : Hp} {Q : VK} (G : α → V) (hv : σ[i]? = some (some (.ref a))) (hS : SqL K H a xs) (lx : xs.length = ls.length) (hl : ls.length ≤ 100000)
    (hs : ∀ (k : Nat) (l : α) (x : V) (H2 : Hp) (R : VK), ls[k]? = some l → xs[k]? = some x → Same H H2 → (∀ H3, Same H2 H3 → R (G l) H3) → g x (wipe σ vs) H2 fun σ2 H3 => wipe σ2 vs = wipe σ vs ∧ te σ2 H3 R)
    (hd : ∀ D H', H D = none → Same H H' → H' D = some (.lst (ls.map G)) → Q (.ref D) H') : tLc (iList K (tVar i)) g tYes te vs σ H Q := by
  refine list_rel (fun _ => true) (stays_eq G) hv hS lx hl (fun k l x H2 R N h1 h2 e hR _ => ?_) fun D us H' nD e hD t => ?_
  · exact hs k l x H2 R h1 h2 e fun H3 e3 => hR _ H3 rfl e3 rfl
  · rw [List.filter_eq_self.mpr fun _ _ => rfl] at t
    exact hd D H' nD e (by rw [hD, told_eq t])
/-- a tuple of the names of a lot -/
def LotAt (H : Hp) (u : V) (l : List Str) : Prop := ∃ b : Addr, u = .ref b ∧ H b = some (.tup (l.map V.str))
theorem stays_lot : Stays LotAt := ⟨fun H1 H2 u l e => by
  rintro ⟨b, rfl, h⟩
  exact ⟨b, rfl, e _ _ h⟩, fun H1 D as bs u l hD => by
  rintro ⟨b, rfl, h⟩
  exact ⟨b, rfl, by rw [upd_ne (ne_of h hD (fun z => nomatch z))]; exact h⟩⟩
theorem told_lots {H : Hp} {us : List V} {ls : List (List Str)} (t : Told LotAt H us ls) : Ats H (fun l : List Str => l.map V.str) us ls := t
theorem tab_get {H : Hp} {t q : Addr} {ms : List (List Str)} {n : List Str → Int} {l : List Str} (ht : H t = some (.dT (tabV (tabL ms n)))) (hq : H q = some (.tup (l.map V.str))) : DGet H t (.ref q) (if l ∈ ms then some (.int (n l)) else none) := by
  have g : valV (tabV (tabL ms n)) (l.map Sum.inr) = if l ∈ ms then some (.int (n l)) else none := by
    rw [valV_tab, getT_tab]
    by_cases c : l ∈ ms
    · rw [if_pos c, if_pos c]; rfl
    · rw [if_neg c, if_neg c]; rfl
  exact .inr ⟨_, l.map Sum.inr, q, .inl ht, rfl, by rw [str_key]; exact hq, g.symm⟩
theorem isD_tab {H : Hp} {t : Addr} {ks : List (List Key × V)} (h : H t = some (.dT ks)) : IsD H t := .inr ⟨_, .inl h⟩
end Bk

namespace Bk
open PySem PySem.Spec PyProof.Rows L2
/-- a comprehension over zip(x, y) with a test -/
theorem zip_filt {α : Type} {K : PySem.W.Frag} {i j : Nat} {a b : Addr} {xs ys : List V} {ls : List α} {g : TG} {tt : TT} {te : TE} {vs : List Nat} {σ : L2.St} {H : Hp} {Q : VK} {Rel : Hp → V → α → Prop} (p : α → Bool) (st : Stays Rel) (hv1 : σ[i]? = some (some (.ref a))) (hv2 : σ[j]? = some (some (.ref b)))
    (hS : (SqL K H a xs ∧ SqL K H b ys) ∨ (SqT K H a xs ∧ SqT K H b ys)) (lx : xs.length = ls.length) (ly : ys.length = ls.length) (hl : ls.length ≤ 100000)
    (hs : ∀ (k : Nat) (l : α) (x y : V) (T : Addr) (H2 : Hp) (R : VK) (N : Hp → Prop), ls[k]? = some l → xs[k]? = some x → ys[k]? = some y → Same H H2 → H2 T = some (.tup [x, y]) → (∀ u H3, p l = true → Same H2 H3 → Rel H3 u l → R u H3) → (∀ H3, p l = false → Same H2 H3 → N H3) → g (.ref T) (wipe σ vs) H2 fun σ2 H3 => wipe σ2 vs = wipe σ vs ∧ tt σ2 H3 fun b H4 => if b = true then te σ2 H4 R else N H4)
    (hd : ∀ D us H', H D = none → Same H H' → H' D = some (.lst us) → Told Rel H' us (ls.filter p) → Q (.ref D) H') : tLc (RZ.iZipA K (tCons (tVar i) (tCons (tVar j) tNil))) g tt te vs σ H Q := by
  refine lcZ hv1 hv2 hS (by omega) fun D nD => ⟨fun k H' => ∃ us : List V, Same H H' ∧ H' D = some (.lst us) ∧ us.length ≤ k ∧ Told Rel H' us ((ls.take k).filter p), ?_, ?_, ?_, ?_⟩
  · exact ⟨[], same_upd nD, upd_same, Nat.le_refl _, .nil⟩
  · rintro k H' ⟨us, e, _⟩
    exact e
  · rintro k v H' H2 hk ⟨us, e, hD, hu, t⟩ ⟨T, x, y, rfl, nT, rfl, hx, hy⟩
    have hkl : k < ls.length := by omega
    have hlk : ls[k]? = some ls[k] := List.getElem?_eq_getElem hkl
    have e1 := same_upd (o := HO.tup [x, y]) nT
    refine hs k ls[k] x y T _ (fun y H5 => ∃ acc, H5 D = some (.lst acc) ∧ acc.length < sizeLine ∧ ∃ us : List V, Same H (upd H5 D (.lst (acc ++ [y]))) ∧ upd H5 D (.lst (acc ++ [y])) D = some (.lst us) ∧ us.length ≤ k + 1 ∧ Told Rel (upd H5 D (.lst (acc ++ [y]))) us ((ls.take (k + 1)).filter p)) (fun H5 => ∃ us : List V, Same H H5 ∧ H5 D = some (.lst us) ∧ us.length ≤ k + 1 ∧ Told Rel H5 us ((ls.take (k + 1)).filter p)) hlk hx hy (Same.trans e e1) upd_same (fun u H3 c e3 r => ?_) fun H3 c e3 => ?_
    · have e13 := Same.trans e1 e3
      refine ⟨us, e13 _ _ hD, Evl.sz_lt (by omega), us ++ [u], Same.grow (Same.trans e e13) nD, upd_same, by rw [List.length_append]; exact Nat.succ_le_succ hu, ?_⟩
      rw [take_succ hlk, List.filter_append, List.filter_cons_of_pos c, List.filter_nil]
      exact ((t.same st e13).snoc r).up st (e13 _ _ hD)
    · have e13 := Same.trans e1 e3
      refine ⟨us, Same.trans e e13, e13 _ _ hD, by omega, ?_⟩
      rw [take_succ hlk, List.filter_append, List.filter_cons_of_neg (by rw [c]; exact Bool.false_ne_true), List.filter_nil, List.append_nil]
      exact t.same st e13
  · rintro H' ⟨us, e, hD, _, t⟩
    rw [lx, List.take_length] at t
    exact hd D us H' nD e hD t
/-! pairs of a lot and a number as data -/
def dPairs (es : List (List Str × Int)) : PyData := .list (es.map fun e => .tuple [.tuple (e.1.map PyData.str), .int e.2])
theorem dp_pairs {K : PySem.W.Frag} {H : Hp} : ∀ {es : List (List Str × Int)} {us : List V}, Told PairAt H us es → DpAll K H us (es.map fun e => .tuple [.tuple (e.1.map PyData.str), .int e.2])
  | [], [], _ => .nil
  | [], _ :: _, t => by cases t.1
  | _ :: _, [], t => by cases t.1
  | e :: r, u :: us, t => by
    obtain ⟨p, b, rfl, h1, h2⟩ := t.2 0 u e rfl rfl
    exact .cons (.tup (SqT.of h1) (.cons (.tup (SqT.of h2) (dp_strs e.1)) (.cons (.int _) .nil))) (dp_pairs ⟨Nat.succ.inj t.1, fun k u l a b => t.2 (k + 1) u l a b⟩)
theorem depth_pairsA : ∀ es : List (List Str × Int), PyData.depthAll (es.map fun e => PyData.tuple [.tuple (e.1.map PyData.str), .int e.2]) ≤ 2
  | [] => by simp [PyData.depthAll]
  | e :: r => by
    have := depth_pairsA r
    have h := depth_strs e.1
    simp [PyData.depthAll, PyData.depth, h]
    omega
theorem depth_pairs (es : List (List Str × Int)) : (dPairs es).depth ≤ 3 := by
  have := depth_pairsA es
  simp [dPairs, PyData.depth]
  omega
theorem wide_pairsA {m : Nat} : ∀ es : List (List Str × Int), (∀ e ∈ es, e.1.length ≤ m) → wideAll (es.map fun e => PyData.tuple [.tuple (e.1.map PyData.str), .int e.2]) ≤ m + 2
  | [], _ => by simp [wideAll]
  | e :: r, h => by
    have := wide_pairsA r fun x hx => h x (List.mem_cons_of_mem _ hx)
    have h1 := wide_strs e.1
    have h2 := h e List.mem_cons_self
    simp [wideAll, wide, h1]
    omega
theorem wide_pairs {es : List (List Str × Int)} (h1 : es.length ≤ 2000) (h2 : ∀ e ∈ es, e.1.length ≤ 100) : wide (dPairs es) ≤ 90000 := by
  have := wide_pairsA es h2
  simp [dPairs, wide]
  omega
end Bk

namespace Bk
open PySem PySem.Spec PyProof.Rows L2
/-! fractions in lowest terms: pairs of whole numbers -/
/-- both parts are below 2 ^ n -/
def FrB (n : Nat) (q : Rat) : Prop := q.num.natAbs < 2 ^ n ∧ q.den < 2 ^ n
def pairQ (q : Rat) : List V := [.int q.num, .int (q.den : Int)]
theorem mk_num {t : Int} {b : Nat} (hb : 0 < b) : (mkRat t b).num = t / ((Nat.gcd t.natAbs b : Nat) : Int) := by
  rw [Rat.num_mkRat, if_neg (by omega), Nat.gcd_comm]
theorem mk_den {t : Int} {b : Nat} (hb : 0 < b) : ((mkRat t b).den : Int) = (b : Int) / ((Nat.gcd t.natAbs b : Nat) : Int) := by
  rw [Rat.den_mkRat, if_neg (by omega), Nat.gcd_comm]
  exact Int.natCast_ediv _ _
theorem FrB.mk {n : Nat} {t : Int} {b : Nat} (ht : t.natAbs < 2 ^ n) (hb : 0 < b) (hb2 : b < 2 ^ n) : FrB n (mkRat t b) := by
  refine ⟨?_, ?_⟩
  · rw [mk_num hb]
    exact Nat.lt_of_le_of_lt (Int.natAbs_ediv_le_natAbs _ _) ht
  · rw [Rat.den_mkRat, if_neg (by omega)]
    exact Nat.lt_of_le_of_lt (Nat.div_le_self _ _) hb2
theorem FrB.more {n m : Nat} {q : Rat} (h : FrB n q) (hl : n ≤ m) : FrB m q := ⟨Nat.lt_of_lt_of_le h.1 (Nat.pow_le_pow_right (by decide) hl), Nat.lt_of_lt_of_le h.2 (Nat.pow_le_pow_right (by decide) hl)⟩
theorem mk_add (p q : Rat) : mkRat (p.num * (q.den : Int) + q.num * (p.den : Int)) (p.den * q.den) = p + q := by
  rw [Rat.add_def, Rat.normalize_eq_mkRat]
theorem mk_mul (p q : Rat) : mkRat (p.num * q.num) (p.den * q.den) = p * q := by
  rw [Rat.mul_def, Rat.normalize_eq_mkRat]
theorem num_int (k : Int) : ((k : Rat)).num = k := rfl
theorem den_int (k : Int) : ((k : Rat)).den = 1 := rfl
theorem mk_mulI (p : Rat) (k : Int) : mkRat (p.num * k) p.den = p * (k : Rat) := by
  have := mk_mul p (k : Rat)
  rw [num_int, den_int, Nat.mul_one] at this
  exact this
theorem FrB.add {m n : Nat} {p q : Rat} (hp : FrB m p) (hq : FrB n q) : FrB (m + n + 1) (p + q) := by
  rw [← mk_add]
  have h1 : (p.num * (q.den : Int)).natAbs < 2 ^ (m + n) := wide_lt hp.1 (by rw [Int.natAbs_natCast]; exact hq.2)
  have h2 : (q.num * (p.den : Int)).natAbs < 2 ^ (n + m) := wide_lt hq.1 (by rw [Int.natAbs_natCast]; exact hp.2)
  rw [Nat.add_comm n m] at h2
  have h3 : p.den * q.den < 2 ^ (m + n) := by
    rw [Nat.pow_add]
    exact Nat.mul_lt_mul'' hp.2 hq.2
  have h4 : 2 ^ (m + n + 1) = 2 ^ (m + n) * 2 := Nat.pow_succ ..
  have h5 := Int.natAbs_add_le (p.num * (q.den : Int)) (q.num * (p.den : Int))
  exact .mk (by omega) (Nat.mul_pos p.den_pos q.den_pos) (by omega)
theorem FrB.mulI {m j : Nat} {p : Rat} {k : Int} (hp : FrB m p) (hk : k.natAbs < 2 ^ j) : FrB (m + j) (p * (k : Rat)) := by
  rw [← mk_mulI]
  refine .mk (wide_lt hp.1 hk) p.den_pos (Nat.lt_of_lt_of_le hp.2 (Nat.pow_le_pow_right (by decide) (by omega)))
theorem FrB.mul {m n : Nat} {p q : Rat} (hp : FrB m p) (hq : FrB n q) : FrB (m + n) (p * q) := by
  rw [← mk_mul]
  refine .mk (wide_lt hp.1 hq.1) (Nat.mul_pos p.den_pos q.den_pos) ?_
  rw [Nat.pow_add]
  exact Nat.mul_lt_mul'' hp.2 hq.2
theorem FrB.pos {n : Nat} {q : Rat} (h : FrB n q) : 0 < n := by
  have := q.den_pos
  have h2 := h.2
  cases n with
  | zero => rw [Nat.pow_zero] at h2; omega
  | succ n => omega
/-- a value that tells a fraction -/
def FrV (K : PySem.W.Frag) (H : Hp) (v : V) (q : Rat) : Prop := ∃ a : Addr, v = .ref a ∧ SqT K H a (pairQ q)
theorem FrV.same {K : PySem.W.Frag} {H H' : Hp} {v : V} {q : Rat} (h : FrV K H v q) (e : Same H H') : FrV K H' v q := by
  obtain ⟨a, h1, h2⟩ := h
  exact ⟨a, h1, Same.sqt e h2⟩
theorem if_no {c : Bool} {a b : Prop} (h : c = false) (q : b) : if c = true then a else b := by
  subst h
  exact q
theorem if_so {c : Bool} {a b : Prop} (h : c = true) (q : a) : if c = true then a else b := by
  subst h
  exact q
/-- either of two readings of several targets -/
theorem pg_or {X : Cx} {tg : Expr} {g1 g2 : TG} (h1 : PG X tg g1) (h2 : PG X tg g2) : PG X tg (fun v σ H R => g1 v σ H R ∨ g2 v σ H R) := ⟨fun pins s σ H v u Q I r h => h.elim (h1.run pins s σ H v u Q I r) (h2.run pins s σ H v u Q I r)⟩
theorem kTgA {X : Cx} (K : PySem.W.Frag) (n : Nat) {es : List Expr} {k : Nat} {t : TGs} {pos : Pos} (hc : X.calm = true) (h : PGs X es t) (e : X.K = K := by rfl) (hn : (assignEach es X.env).length = n := by rfl) (hst : (assignEach es X.env).findIdx? (·.1) = none := by rfl) :
    PG X (.Tuple es k pos) (fun v σ H R => gTup K n t v σ H R ∨ gLst K n t v σ H R) := pg_or (kTg K n hc h e hn hst) (e ▸ pg_lst hc h hn hst)
/-- the sum of fractions, as it is reckoned -/
def sumQ : List Rat → Rat := fun qs => qs.foldl (fun a b => a + b) 0
end Bk

namespace Bk
open PySem PySem.Spec PyProof.Rows L2
/-- the greatest divisor of two -/
def spGcd : Sp := fun vs H Q _ => ∃ a b : Nat, vs = [.int (a : Int), .int (b : Int)] ∧ Q (.int ((Nat.gcd a b : Nat) : Int)) H
/-- a fraction in lowest terms -/
def spFrac : Sp := fun vs H Q _ => ∃ (t : Int) (b : Nat), vs = [.int t, .int (b : Int)] ∧ 0 < b ∧ b < 2 ^ 8000 ∧ ∀ p H', H p = none → Same H H' → H' p = some (.tup (pairQ (mkRat t b))) → Q (.ref p) H'
section
variable {P : Program} {w : World} {K : PySem.W.Frag} {mg : Str → Option Value} {base : Heap}
theorem scGcd : FnScope ["one", "other"] ["one", "other"] (defScope (topS 21)) := ⟨rfl, rfl, rfl, by decide +kernel, rfl, by decide +kernel, by decide +kernel⟩
theorem ok_gcd {f : Addr} {fd : FuncData} (F : Fun K "greatest_divisor" "greatest_divisor" (topS 21) f fd) : FnOk P w K mg base CX0 1 f fd ["one", "other"] spGcd := by
  refine F.ok scGcd (fun vs H Q E h => ?_) (fun cdv A outer s H vs Q E hr h => ?_)
  · obtain ⟨a, b, rfl, _⟩ := h
    rfl
  · obtain ⟨a, b, rfl, q⟩ := h
    have nd := scGcd.nd
    refine ⟨_, (pss_cons (ps_while PassesOwn.never (pt_cmpR op_gt (pv 1) pe_int (nomark _)) (pss_one (ps_par (i := 0) (j := 1) rfl nd rfl rfl (by decide) rfl rfl (pa_cons (pv 1) (pa_cons (pe_op op_mod (pv 0) (pv 1)) pa_nil)) (by rfl))))
      (pss_one (ps_ret (pv 0)))), ?_⟩
    refine ⟨fun m σ' H' => ∃ c d : Nat, d = m ∧ σ' = [some (.int (c : Int)), some (.int (d : Int))] ∧ H' = H ∧ Nat.gcd c d = Nat.gcd a b, ⟨b, a, b, rfl, rfl, rfl, rfl⟩, ?_⟩
    rintro m σ' H' ⟨c, d, rfl, rfl, rfl, e⟩
    refine ⟨_, rfl, _, _, rfl, rfl, _, rfl, ?_⟩
    by_cases z : (0 : Int) < (d : Int)
    · rw [decide_eq_true z]
      refine iteT ?_
      refine ⟨fun σ' H2 => σ' = [some (.int (d : Int)), some (.int ((c % d : Nat) : Int))] ∧ H2 = H', ?_, ?_⟩
      · rintro σ' H2 ⟨rfl, rfl⟩
        have hd : 0 < d := by omega
        exact ⟨c % d, Nat.mod_lt _ hd, d, c % d, rfl, rfl, rfl, by rw [← e, Nat.gcd_comm d, ← Nat.gcd_rec d c, Nat.gcd_comm]⟩
      · refine ⟨_, rfl, _, rfl, _, rfl, _, _, rfl, rfl, z, _, _, rfl, ?_⟩
        exact ⟨rfl, rfl⟩
    · rw [decide_eq_false z]
      refine iteF ?_
      have d0 : d = 0 := by omega
      subst d0
      rw [Nat.gcd_zero_right] at e
      subst e
      exact ⟨_, rfl, q⟩
theorem scFrac : FnScope ["top", "bottom", "divisor"] ["top", "bottom"] (defScope (topS 22)) := ⟨rfl, rfl, rfl, by decide +kernel, rfl, by decide +kernel, by decide +kernel⟩
theorem ok_frac (B : Bi mg) {f f1 : Addr} {fd fd1 : FuncData} (c_greatest_divisor : Cal P w K mg base CX0 1 "greatest_divisor" f1 fd1 ["one", "other"] spGcd) (F : Fun K "fraction" "fraction" (topS 22) f fd) : FnOk P w K mg base CX0 2 f fd ["top", "bottom"] spFrac := by
  refine F.ok scFrac (fun vs H Q E h => ?_) (fun cdv A outer s H vs Q E hr h => ?_)
  · obtain ⟨t, b, rfl, _⟩ := h
    rfl
  · obtain ⟨t, b, rfl, b0, b8, q⟩ := h
    have nd := scFrac.nd
    have hr_greatest_divisor : Room 1 _ := hr.mono (by decide)
    refine ⟨_, (pss_cons (ps_set (i := 2) nd rfl (Or.inl rfl) (pe_call c_greatest_divisor.ok hr_greatest_divisor (by rfl) c_greatest_divisor.g c_greatest_divisor.kp c_greatest_divisor.b .nil pass0 (pa_cons (pe_callB call_abs (by rfl) B.abs (by decide +kernel) (pa_cons (pv 0) pa_nil)) (pa_cons (pv 1) pa_nil))))
      (pss_one (ps_ret (pe_tup (pa_cons (pe_op op_fdivW (pv 0) (pv 2)) (pa_cons (pe_op op_fdivW (pv 1) (pv 2)) pa_nil)))))), ?_⟩
    have g0 : 0 < Nat.gcd t.natAbs b := Nat.gcd_pos_of_pos_right _ b0
    have gl : Nat.gcd t.natAbs b < 2 ^ 8000 := Nat.lt_of_le_of_lt (Nat.le_of_dvd b0 (Nat.gcd_dvd_right _ _)) b8
    have wd : ∀ i : Int, CDivW i ((Nat.gcd t.natAbs b : Nat) : Int) := fun i => wide_div (by omega) (by rw [Int.natAbs_natCast]; exact gl) (by decide) (by decide)
    have ab : (if t < 0 then -t else t) = ((t.natAbs : Nat) : Int) := by split <;> omega
    refine ⟨_, rfl, t, rfl, ?_⟩
    rw [ab]
    refine ⟨_, rfl, _, _, rfl, ?_⟩
    refine ⟨_, rfl, _, rfl, _, _, rfl, rfl, wd _, ?_⟩
    refine ⟨_, rfl, _, rfl, _, _, rfl, rfl, wd _, ?_⟩
    refine ⟨by show 2 ≤ sizeLine; rw [sizeLine_eq]; omega, fun p np => ?_⟩
    refine q p _ np (same_upd np) ?_
    show upd H p (HO.tup [V.int (t / ((Nat.gcd t.natAbs b : Nat) : Int)), V.int ((b : Int) / ((Nat.gcd t.natAbs b : Nat) : Int))]) p = _
    rw [upd_same, ← mk_num b0, ← mk_den b0]
    rfl
end
end Bk

namespace Bk
open PySem PySem.Spec PyProof.Rows L2
def spPlusF (K : PySem.W.Frag) : Sp := fun vs H Q _ => ∃ (u v : V) (p q : Rat) (m n : Nat), vs = [u, v] ∧ FrV K H u p ∧ FrV K H v q ∧ FrB m p ∧ FrB n q ∧ m + n ≤ 7000 ∧ ∀ z H', H z = none → Same H H' → H' z = some (.tup (pairQ (p + q))) → Q (.ref z) H'
def spTimesF (K : PySem.W.Frag) : Sp := fun vs H Q _ => ∃ (u v : V) (p q : Rat) (m n : Nat), vs = [u, v] ∧ FrV K H u p ∧ FrV K H v q ∧ FrB m p ∧ FrB n q ∧ m + n ≤ 7000 ∧ ∀ z H', H z = none → Same H H' → H' z = some (.tup (pairQ (p * q))) → Q (.ref z) H'
def spTimesI (K : PySem.W.Frag) : Sp := fun vs H Q _ => ∃ (u : V) (k : Int) (p : Rat) (m n : Nat), vs = [u, .int k] ∧ FrV K H u p ∧ FrB m p ∧ k.natAbs < 2 ^ n ∧ 0 < n ∧ m + n ≤ 7000 ∧ ∀ z H', H z = none → Same H H' → H' z = some (.tup (pairQ (p * (k : Rat)))) → Q (.ref z) H'
def spBelow (K : PySem.W.Frag) : Sp := fun vs H Q _ => ∃ (u v : V) (p q : Rat) (m n : Nat), vs = [u, v] ∧ FrV K H u p ∧ FrV K H v q ∧ FrB m p ∧ FrB n q ∧ m + n ≤ 7000 ∧ Q (.bl (decide (p < q))) H
theorem pow_small {m n k : Nat} (h : m + n ≤ k) {a b : Nat} (ha : a < 2 ^ m) (hb : b < 2 ^ n) : a * b < 2 ^ k := Nat.lt_of_lt_of_le (by rw [Nat.pow_add]; exact Nat.mul_lt_mul'' ha hb) (Nat.pow_le_pow_right (by decide) h)
theorem mulw {m n : Nat} {i j : Int} (hi : i.natAbs < 2 ^ m) (hj : j.natAbs < 2 ^ n) (m0 : 0 < m) (n0 : 0 < n) (mn : m + n ≤ 7000) : CMulW i j := wide_mul hi hj m0 n0 (by omega)
theorem den_abs {n : Nat} {q : Rat} (h : FrB n q) : ((q.den : Int)).natAbs < 2 ^ n := by
  rw [Int.natAbs_natCast]
  exact h.2
section
variable {P : Program} {w : World} {K : PySem.W.Frag} {mg : Str → Option Value} {base : Heap}
theorem scPl : FnScope ["one", "other"] ["one", "other"] (defScope (topS 24)) := ⟨rfl, rfl, rfl, by decide +kernel, rfl, by decide +kernel, by decide +kernel⟩
theorem ok_pl (B : Bi mg) {f f1 : Addr} {fd fd1 : FuncData} (c_fraction : Cal P w K mg base CX0 2 "fraction" f1 fd1 ["top", "bottom"] spFrac) (F : Fun K "plus" "plus" (topS 24) f fd) : FnOk P w K mg base CX0 3 f fd ["one", "other"] (spPlusF K) := by
  refine F.ok scPl (fun vs H Q E h => ?_) (fun cdv A outer s H vs Q E hr h => ?_)
  · obtain ⟨u, v, p, q, m, n, rfl, _⟩ := h
    rfl
  · obtain ⟨u, v, p, q, m, n, rfl, ⟨a, rfl, ha⟩, ⟨b, rfl, hb⟩, bp, bq, mn, qq⟩ := h
    have nd := scPl.nd
    have hr_fraction : Room 2 _ := hr.mono (by decide)
    refine ⟨_, (pss_one (ps_ret (pe_call c_fraction.ok hr_fraction (by rfl) c_fraction.g c_fraction.kp c_fraction.b .nil pass0 (pa_cons (pe_op op_add (pe_op op_mulW (pe_ix (kIxT K) (pv 0) pe_int (fun _ _ => rfl)) (pe_ix (kIxT K) (pv 1) pe_int (fun _ _ => rfl))) (pe_op op_mulW (pe_ix (kIxT K) (pv 1) pe_int (fun _ _ => rfl)) (pe_ix (kIxT K) (pv 0) pe_int (fun _ _ => rfl)))) (pa_cons (pe_op op_mulW (pe_ix (kIxT K) (pv 0) pe_int (fun _ _ => rfl)) (pe_ix (kIxT K) (pv 1) pe_int (fun _ _ => rfl))) pa_nil))))), ?_⟩
    refine ⟨_, rfl, a, _, _, _, rfl, rfl, ha, rfl, ⟨_, rfl, b, _, _, _, rfl, rfl, hb, rfl, ⟨_, _, rfl, rfl, mulw bp.1 (den_abs bq) bp.pos bq.pos mn, ?_⟩⟩⟩
    refine ⟨_, rfl, b, _, _, _, rfl, rfl, hb, rfl, ⟨_, rfl, a, _, _, _, rfl, rfl, ha, rfl, ⟨_, _, rfl, rfl, mulw bq.1 (den_abs bp) bq.pos bp.pos (by omega), ?_⟩⟩⟩
    refine ⟨_, _, rfl, rfl, ?_⟩
    refine ⟨_, rfl, a, _, _, _, rfl, rfl, ha, rfl, ⟨_, rfl, b, _, _, _, rfl, rfl, hb, rfl, ⟨_, _, rfl, rfl, mulw (den_abs bp) (den_abs bq) bp.pos bq.pos mn, ?_⟩⟩⟩
    refine ⟨_, p.den * q.den, rfl, Nat.mul_pos p.den_pos q.den_pos, pow_small (by omega) bp.2 bq.2, fun z H' nz e hz => ?_⟩
    rw [mk_add] at hz
    exact qq z H' nz e hz
theorem scTi : FnScope ["one", "other"] ["one", "other"] (defScope (topS 25)) := ⟨rfl, rfl, rfl, by decide +kernel, rfl, by decide +kernel, by decide +kernel⟩
theorem ok_ti (B : Bi mg) {f f1 : Addr} {fd fd1 : FuncData} (c_fraction : Cal P w K mg base CX0 2 "fraction" f1 fd1 ["top", "bottom"] spFrac) (F : Fun K "times" "times" (topS 25) f fd) : FnOk P w K mg base CX0 3 f fd ["one", "other"] (spTimesF K) := by
  refine F.ok scTi (fun vs H Q E h => ?_) (fun cdv A outer s H vs Q E hr h => ?_)
  · obtain ⟨u, v, p, q, m, n, rfl, _⟩ := h
    rfl
  · obtain ⟨u, v, p, q, m, n, rfl, ⟨a, rfl, ha⟩, ⟨b, rfl, hb⟩, bp, bq, mn, qq⟩ := h
    have nd := scTi.nd
    have hr_fraction : Room 2 _ := hr.mono (by decide)
    refine ⟨_, (pss_one (ps_ret (pe_call c_fraction.ok hr_fraction (by rfl) c_fraction.g c_fraction.kp c_fraction.b .nil pass0 (pa_cons (pe_op op_mulW (pe_ix (kIxT K) (pv 0) pe_int (fun _ _ => rfl)) (pe_ix (kIxT K) (pv 1) pe_int (fun _ _ => rfl))) (pa_cons (pe_op op_mulW (pe_ix (kIxT K) (pv 0) pe_int (fun _ _ => rfl)) (pe_ix (kIxT K) (pv 1) pe_int (fun _ _ => rfl))) pa_nil))))), ?_⟩
    refine ⟨_, rfl, a, _, _, _, rfl, rfl, ha, rfl, ⟨_, rfl, b, _, _, _, rfl, rfl, hb, rfl, ⟨_, _, rfl, rfl, mulw bp.1 bq.1 bp.pos bq.pos mn, ?_⟩⟩⟩
    refine ⟨_, rfl, a, _, _, _, rfl, rfl, ha, rfl, ⟨_, rfl, b, _, _, _, rfl, rfl, hb, rfl, ⟨_, _, rfl, rfl, mulw (den_abs bp) (den_abs bq) bp.pos bq.pos mn, ?_⟩⟩⟩
    refine ⟨_, p.den * q.den, rfl, Nat.mul_pos p.den_pos q.den_pos, pow_small (by omega) bp.2 bq.2, fun z H' nz e hz => ?_⟩
    rw [mk_mul] at hz
    exact qq z H' nz e hz
end
end Bk

namespace Bk
open PySem PySem.Spec PyProof.Rows L2
/-- the pair (0, 1) of the package -/
structure NoT (K : PySem.W.Frag) (mg : Str → Option Value) (aN : Addr) : Prop where
  g : mg "NOTHING" = some (.ref aN)
  t : ∀ H : Hp, SqT K H aN (pairQ 0)
/-- values that tell fractions -/
def FrVs (K : PySem.W.Frag) (H : Hp) (us : List V) (qs : List Rat) : Prop := us.length = qs.length ∧ ∀ (i : Nat) (u : V) (q : Rat), us[i]? = some u → qs[i]? = some q → FrV K H u q
theorem FrVs.same {K : PySem.W.Frag} {H H' : Hp} {us : List V} {qs : List Rat} (h : FrVs K H us qs) (e : Same H H') : FrVs K H' us qs := ⟨h.1, fun i u q h1 h2 => (h.2 i u q h1 h2).same e⟩
def spSumF (K : PySem.W.Frag) : Sp := fun vs H Q _ => ∃ (l : Addr) (us : List V) (qs : List Rat) (n : Nat), vs = [.ref l] ∧ SqL K H l us ∧ FrVs K H us qs ∧ (∀ q ∈ qs, FrB n q) ∧ (qs.length + 1) * (n + 1) ≤ 6000 ∧ ∀ v H', Same H H' → FrV K H' v (sumQ qs) → FrB ((qs.length + 1) * (n + 1)) (sumQ qs) → Q v H'
/-- what tells a size -/
def SizV (K : PySem.W.Frag) (H : Hp) (v : V) (q : Rat) : Prop := (∃ i : Nat, v = .int (i : Int) ∧ q = ((i : Int) : Rat)) ∨ ∃ (a : Addr) (t b : Nat), v = .ref a ∧ (SqT K H a [.int (t : Int), .int (b : Int)] ∨ SqL K H a [.int (t : Int), .int (b : Int)]) ∧ 0 < b ∧ b < 2 ^ 8000 ∧ q = mkRat t b
theorem SizV.same {K : PySem.W.Frag} {H H' : Hp} {v : V} {q : Rat} (h : SizV K H v q) (e : Same H H') : SizV K H' v q := by
  rcases h with h | ⟨a, t, b, h1, h2, h3⟩
  · exact .inl h
  · exact .inr ⟨a, t, b, h1, h2.imp (Same.sqt e) e.seq, h3⟩
def spSizeQ (K : PySem.W.Frag) : Sp := fun vs H Q _ => ∃ (v : V) (q : Rat), vs = [v] ∧ SizV K H v q ∧ ∀ z H', H z = none → Same H H' → H' z = some (.tup (pairQ q)) → Q (.ref z) H'
theorem sumQ_snoc (qs : List Rat) (q : Rat) : sumQ (qs ++ [q]) = sumQ qs + q := by
  unfold sumQ
  rw [List.foldl_append]
  rfl
theorem FrB.zero {n : Nat} (h : 0 < n) : FrB n 0 := ⟨Nat.pow_pos (by decide), by
  show 1 < 2 ^ n
  exact Nat.one_lt_two_pow (by omega)⟩
section
variable {P : Program} {w : World} {K : PySem.W.Frag} {mg : Str → Option Value} {base : Heap}
theorem scSum : FnScope ["fractions", "total", "each"] ["fractions"] (defScope (topS 27)) := ⟨rfl, rfl, rfl, by decide +kernel, rfl, by decide +kernel, by decide +kernel⟩
theorem ok_sum (B : Bi mg) {f f1 aN : Addr} {fd fd1 : FuncData} (TN : NoT K mg aN) (c_plus : Cal P w K mg base CX0 3 "plus" f1 fd1 ["one", "other"] (spPlusF K)) (F : Fun K "sum_of" "sum_of" (topS 27) f fd) : FnOk P w K mg base CX0 4 f fd ["fractions"] (spSumF K) := by
  refine F.ok scSum (fun vs H Q E h => ?_) (fun cdv A outer s H vs Q E hr h => ?_)
  · obtain ⟨l, us, qs, n, rfl, _⟩ := h
    rfl
  · obtain ⟨l, us, qs, n, rfl, hl, hus, hB, hn, qq⟩ := h
    have nd := scSum.nd
    have hr_plus : Room 3 _ := hr.mono (by decide)
    refine ⟨_, (pss_cons (ps_set (i := 1) nd rfl (Or.inl rfl) (pe_glob (v:=.ref aN) (by rfl) TN.g rfl))
      (pss_cons (ps_for PassesOwn.never rfl (kPiL K (pv 0)) (pg_name (i := 2) nd rfl (Or.inl rfl)) (pss_one (ps_set (i := 1) nd rfl (Or.inl rfl) (pe_call c_plus.ok hr_plus (by rfl) c_plus.g c_plus.kp c_plus.b .nil pass0 (pa_cons (pv 1) (pa_cons (pv 2) pa_nil))))))
      (pss_one (ps_ret (pv 1))))), ?_⟩
    refine ⟨_, rfl, l, rfl, ⟨_, hl⟩, ?_⟩
    have len := hus.1
    refine for_it walk_list (fun i σ' H' => ∃ v v2, σ' = [some (.ref l), some v, v2] ∧ Same H H' ∧ FrV K H' v (sumQ (qs.take i)) ∧ FrB (i * (n + 1) + 1) (sumQ (qs.take i))) ?_ (fun i σ' H' _ ⟨_, _, _, e, _, _⟩ => e.seq hl) ?_ ?_
    · exact ⟨_, _, rfl, Same.refl _, ⟨aN, rfl, TN.t _⟩, FrB.zero (by omega)⟩
    · rintro i y σ' H0 H1 hi ⟨v, v2, rfl, e, fv, fb⟩ ⟨rfl, hy⟩
      obtain ⟨q, hq⟩ : ∃ q, qs[i]? = some q := ⟨_, List.getElem?_eq_getElem (by omega)⟩
      have fq := (hus.2 i y q hy hq).same e
      have bq := hB q (List.mem_of_getElem? hq)
      have hm : (i + 1) * (n + 1) ≤ (qs.length + 1) * (n + 1) := Nat.mul_le_mul_right _ (by omega)
      have hs : (i + 1) * (n + 1) = i * (n + 1) + (n + 1) := Nat.succ_mul ..
      refine ⟨_, rfl, _, rfl, v, y, _, _, _, _, rfl, fv, fq, fb, bq, by omega, fun z H' nz e2 hz => ?_⟩
      refine ⟨_, _, rfl, Same.trans e e2, ?_, ?_⟩
      · rw [take_succ hq, sumQ_snoc]
        exact ⟨z, rfl, SqT.of hz⟩
      · rw [take_succ hq, sumQ_snoc]
        exact (fb.add bq).more (by omega)
    · rintro σ' H1 ⟨v, v2, rfl, e, fv, fb⟩
      rw [len, List.take_length] at fv fb
      have hm : (qs.length + 1) * (n + 1) = qs.length * (n + 1) + (n + 1) := Nat.succ_mul ..
      exact ⟨_, rfl, qq v H1 e fv (fb.more (by omega))⟩
theorem scSize : FnScope ["thing", "top", "bottom"] ["thing"] (defScope (topS 23)) := ⟨rfl, rfl, rfl, by decide +kernel, rfl, by decide +kernel, by decide +kernel⟩
theorem ok_size (B : Bi mg) {f f1 f2 f3 : Addr} {fd fd1 fd2 fd3 : FuncData} (c_is_integer : Cal P w K mg base CX0 1 "is_integer" f1 fd1 ["thing"] (spIsInt K)) (c_is_list : Cal P w K mg base CX0 1 "is_list" f2 fd2 ["thing"] (spIsList K)) (c_fraction : Cal P w K mg base CX0 2 "fraction" f3 fd3 ["top", "bottom"] spFrac)
    (F : Fun K "size_of" "size_of" (topS 23) f fd) : FnOk P w K mg base CX0 3 f fd ["thing"] (spSizeQ K) := by
  refine F.ok scSize (fun vs H Q E h => ?_) (fun cdv A outer s H vs Q E hr h => ?_)
  · obtain ⟨v, q, rfl, _⟩ := h
    rfl
  · obtain ⟨v, q, rfl, hv, qq⟩ := h
    have nd := scSize.nd
    have hr_fraction : Room 2 _ := hr.mono (by decide)
    have hr_is_integer : Room 1 _ := hr.mono (by decide)
    have hr_is_list := hr_is_integer
    refine ⟨_, (Evl.pss_cut (ps_if (pt_val (pe_call c_is_integer.ok hr_is_integer (by rfl) c_is_integer.g c_is_integer.kp c_is_integer.b .nil pass0 (pa_cons (pv 0) pa_nil))) (pss_one (ps_ret (pe_ifExp (pt_cmpR op_ge (pv 0) pe_int (nomark _)) (pe_tup (pa_cons (pv 0) (pa_cons pe_int pa_nil))) pe_non))) pss_nil)
      (pss_cons (ps_if (PW.pt (pw_or (pt_not (pt_val (pe_call c_is_list.ok hr_is_list (by rfl) c_is_list.g c_is_list.kp c_is_list.b .nil pass0 (pa_cons (pv 0) pa_nil)))) (pw_or1 (pt_cmpR op_ne (pe_callB (kLen K) (by rfl) B.len PySem.boot_len (pa_cons (pv 0) pa_nil)) pe_int (nomark _))))) (pss_one (ps_ret pe_non)) pss_nil)
      (pss_cons (ps_asg (pv 0) (kTgA K 2 rfl (pgs_cons (pg_name (i := 1) nd rfl (Or.inl rfl)) (pgs_cons (pg_name (i := 2) nd rfl (Or.inl rfl)) pgs_nil))))
      (pss_cons (ps_if (PW.pt (pw_or (pt_not (pt_val (pe_call c_is_integer.ok hr_is_integer (by rfl) c_is_integer.g c_is_integer.kp c_is_integer.b .nil pass0 (pa_cons (pv 1) pa_nil)))) (pw_or (pt_not (pt_val (pe_call c_is_integer.ok hr_is_integer (by rfl) c_is_integer.g c_is_integer.kp c_is_integer.b .nil pass0 (pa_cons (pv 2) pa_nil)))) (pw_or (pt_cmpR op_lt (pv 1) pe_int (nomark _)) (pw_or1 (pt_cmpR op_lt (pv 2) pe_int (nomark _))))))) (pss_one (ps_ret pe_non)) pss_nil)
      (pss_one (ps_ret (pe_call c_fraction.ok hr_fraction (by rfl) c_fraction.g c_fraction.kp c_fraction.b .nil pass0 (pa_cons (pv 1) (pa_cons (pv 2) pa_nil))))))))), ?_⟩
    have ki : kitB "int" "int" = some true := by decide +kernel
    have kb : kitB "int" "bool" = some false := by decide +kernel
    rcases hv with ⟨i, rfl, rfl⟩ | ⟨a, t, b, rfl, ha, b0, b8, rfl⟩
    · refine ⟨fun _ _ => False, ?_, fun _ _ z => z.elim⟩
      refine ⟨_, rfl, .int (i : Int), .type "int", true, false, rfl, .base (.int _), kit_ty ki, kit_ty kb, ?_⟩
      refine ⟨_, rfl, ?_⟩
      refine iteT ?_
      refine ⟨_, rfl, _, _, rfl, rfl, _, rfl, ?_⟩
      rw [decide_eq_true (by omega : (0 : Int) ≤ (i : Int))]
      refine iteT ?_
      refine ⟨_, rfl, by show 2 ≤ sizeLine; rw [sizeLine_eq]; omega, fun p np => ?_⟩
      exact qq p _ np (same_upd np) upd_same
    · obtain ⟨k, ty, n1, n2, sq⟩ : ∃ k : String, TyX K H (.ref a) (.type k) ∧ kitB k "int" = some false ∧ kitB k "bool" = some false ∧ Sqs K H (.ref a) true := by
        rcases ha with ha | ha
        · exact ⟨"tuple", tyx_t ha, by decide +kernel, by decide +kernel, sqs_kit (k := "tuple") (b1 := false) (b2 := true) (tyx_t ha) (by decide +kernel) (by decide +kernel)⟩
        · exact ⟨"list", tyx_l ha, by decide +kernel, by decide +kernel, sqs_kit (k := "list") (b1 := true) (b2 := false) (tyx_l ha) (by decide +kernel) (by decide +kernel)⟩
      refine ⟨fun σ' H' => σ' = [some (.ref a), none, none] ∧ H' = H, ?_, ?_⟩
      · refine ⟨_, rfl, .ref a, .type k, false, false, rfl, ty, kit_ty n1, kit_ty n2, ?_⟩
        refine ⟨_, rfl, ?_⟩
        refine iteF ?_
        exact ⟨rfl, rfl⟩
      rintro σ' H' ⟨rfl, rfl⟩
      refine ⟨_, rfl, .ref a, true, rfl, sq, fun H1 e1 => ?_⟩
      have ha1 : SqT K H1 a [.int (t : Int), .int (b : Int)] ∨ SqL K H1 a [.int (t : Int), .int (b : Int)] := ha.imp (Same.sqt e1) e1.seq
      refine ⟨_, rfl, ?_⟩
      refine iteF ?_
      refine ⟨_, rfl, _, 2, rfl, ha1.elim (fun z => .inr ⟨_, z, rfl⟩) (fun z => .inl ⟨_, z, rfl⟩), rfl, ?_⟩
      refine ⟨_, rfl, ?_⟩
      refine if_no (by decide) ?_
      refine ⟨_, rfl, ?_⟩
      refine (ha1.elim (fun z => .inl ⟨a, _, rfl, z, rfl, ?_⟩) (fun z => .inr ⟨a, _, rfl, z, rfl, ?_⟩))
      all_goals
        refine ⟨_, _, rfl, _, _, rfl, rfl, ?_⟩
        refine ⟨_, rfl, .int _, .type "int", true, false, rfl, .base (.int _), kit_ty ki, kit_ty kb, _, rfl, ?_⟩
        refine if_no rfl ?_
        refine ⟨_, rfl, .int _, .type "int", true, false, rfl, .base (.int _), kit_ty ki, kit_ty kb, _, rfl, ?_⟩
        refine if_no rfl ?_
        refine ⟨_, rfl, _, _, rfl, rfl, _, rfl, ?_⟩
        refine if_no (decide_eq_false (by omega)) ?_
        refine ⟨_, rfl, _, _, rfl, rfl, _, rfl, ?_⟩
        refine if_no (decide_eq_false (by omega)) ?_
        refine ⟨_, rfl, _, rfl, _, b, rfl, b0, b8, fun z H2 nz e2 hz => ?_⟩
        exact qq z H2 (e1.free nz) (Same.trans e1 e2) hz
end
end Bk

namespace Bk
open PySem PySem.Spec PyProof.Rows L2
def entW (es : List (List Str × V)) : List (List Key × V) := es.map fun e => (e.1.map Sum.inr, e.2)
def foundW (zs : List Str) (es : List (List Str × V)) : List (List Key × V) := es.map fun e => ((lotS zs e.1).map Sum.inr, e.2)
/-- the dict of right entries -/
structure EntsW (ch : Bool) (zs : List Str) (es : List (List Str × V)) : Prop where
  few : es.length ≤ 3000
  lot : ∀ e ∈ es, lotOfV ch zs (e.1.map V.str) = some (lotS zs e.1)
  len : ∀ e ∈ es, e.1.length ≤ 1000
  nd : (es.map fun e => lotS zs e.1).Nodup
def spByLots (K : PySem.W.Frag) (C : Addr) : Sp := fun vs H Q _ => ∃ (x d dx t pd : Addr) (zs : List Str) (ch : Bool) (es : List (List Str × V)), vs = [.ref x, .ref d] ∧ H x = some (.ins C dx (foldersF t pd ch)) ∧ H t = some (.tup (zs.map V.str)) ∧ H pd = some (.dT (placesOf (lotsFor ch zs))) ∧ pd ≠ d ∧
  zs.Nodup ∧ zs.length ≤ 12 ∧ H d = some (.dT (entW es)) ∧ EntsW ch zs es ∧ ∀ (D : Addr) (H' : Hp), H D = none → Same H H' → H' D = some (.dT (foundW zs es)) → Q (.ref D) H'
theorem foundW_get {zs : List Str} {es : List (List Str × V)} {l : List Str} (h : ∀ e ∈ es, lotS zs e.1 ≠ l) : valV (foundW zs es) (l.map Sum.inr) = none := by
  induction es with
  | nil => rfl
  | cons e r ih =>
    show valV (((lotS zs e.1).map Sum.inr, e.2) :: foundW zs r) _ = none
    rw [valV_neg (fun z => h e List.mem_cons_self (inr_inj z))]
    exact ih fun e' m => h e' (List.mem_cons_of_mem _ m)
theorem foundW_put {zs : List Str} {es : List (List Str × V)} {e : List Str × V} (h : ∀ e' ∈ es, lotS zs e'.1 ≠ lotS zs e.1) : putK (foundW zs es) ((lotS zs e.1).map Sum.inr) e.2 = foundW zs (es ++ [e]) := by
  rw [putK_fresh]
  · unfold foundW
    rw [List.map_append]
    rfl
  · unfold foundW
    rw [List.map_map]
    intro m
    obtain ⟨e', m', q⟩ := List.mem_map.mp m
    exact h e' m' (inr_inj q)
section
variable {P : Program} {w : World} {K : PySem.W.Frag} {mg : Str → Option Value} {base : Heap}
theorem scByLots : FnScope ["folders", "told", "found", "key", "thing", "lot"] ["folders", "told"] (defScope (topS 41)) := ⟨rfl, rfl, rfl, by decide +kernel, rfl, by decide +kernel, by decide +kernel⟩
theorem ok_by_lots (B : Bi mg) {C f0 f f1 : Addr} {fd fd1 : FuncData} (T : FolT K mg C f0) (c_lot_of : Cal P w K mg base CX0 2 "lot_of" f1 fd1 ["folders", "thing"] (spLotOf K C))
    (F : Fun K "by_lots" "by_lots" (topS 41) f fd) : FnOk P w K mg base CX0 3 f fd ["folders", "told"] (spByLots K C) := by
  refine F.ok scByLots (fun vs H Q E h => ?_) (fun cdv A outer s H vs Q E hr h => ?_)
  · obtain ⟨x, d, dx, t, pd, zs, ch, es, rfl, _⟩ := h
    rfl
  · obtain ⟨x, d, dx, t, pd, zs, ch, es, rfl, hx, ht, hp, npd, nz, lz, hd, hE, q⟩ := h
    have nd := scByLots.nd
    have hu := hu_of hr
    have hr_lot_of : Room 2 _ := hr.mono (by decide)
    refine ⟨_, (pss_cons (ps_set (i := 2) nd rfl (Or.inl rfl) pe_dnewT)
      (pss_cons (ps_lock (ps_for PassesOwn.never rfl (pi_itemsT (pv 1)) (kTg K 2 rfl (pgs_cons (pg_name (i := 3) nd rfl (Or.inl rfl)) (pgs_cons (pg_name (i := 4) nd rfl (Or.inl rfl)) pgs_nil))) (pss_cons (ps_set (i := 5) nd rfl (Or.inl rfl) (pe_call c_lot_of.ok hr_lot_of (by rfl) c_lot_of.g c_lot_of.kp c_lot_of.b .nil pass0 (pa_cons (pv 0) (pa_cons (pv 3) pa_nil))))
      (pss_cons (ps_if (PW.pt (pw_or (pt_cmpR op_isN (pv 5) pe_non (nomark _)) (pw_or1 (pt_cmp (pc_din hu (pv 5) (pv 2)))))) (pss_one ps_no) pss_nil)
      (pss_one (ps_dput hu (pv 2) (pv 5) (pv 4) rfl))))))
      (pss_one (ps_ret (pv 2))))), ?_⟩
    refine fun D nD => ?_
    have e0 := same_upd (o := HO.dT []) nD
    have hD0 : upd H D (.dT []) D = some (.dT []) := upd_same
    generalize upd H D (.dT []) = H0 at e0 hD0 ⊢
    have nDd : d ≠ D := ne_of_none hd nD
    refine ⟨d, _, e0 _ _ hd, trivial, fun od => ?_⟩
    have hxd : x ≠ d := ne_of hx hd (fun z => nomatch z)
    have htd : t ≠ d := ne_of ht hd (fun z => nomatch z)
    refine ⟨_, rfl, d, od, _, rfl, upd_same, ?_⟩
    refine for_it walk_itemsT (fun i σ' H' => ∃ v3 v4 v5, σ' = [some (.ref x), some (.ref d), some (.ref D), v3, v4, v5] ∧ H' d = some (.frz od (.dT (entW es))) ∧ H' D = some (.dT (foundW zs (es.take i))) ∧ ∀ b u, b ≠ d → H b = some u → H' b = some u) ?_ ?_ ?_ ?_
    · exact ⟨none, none, none, rfl, upd_same, by rw [upd_ne nDd.symm]; exact hD0, fun b u nb e => by rw [upd_ne nb]; exact e0 _ _ e⟩
    · rintro i σ' H' _ ⟨_, _, _, _, h, _⟩
      exact h
    · rintro i y σ' H1 H2 hi ⟨v3, v4, v5, rfl, hd1, hD1, kp1⟩ ⟨T2, k, v, qa, hk, hqa, rfl, nT, rfl⟩
      unfold entW at hk
      rw [List.getElem?_map] at hk
      obtain ⟨e, he, hkv⟩ := Option.map_eq_some_iff.mp hk
      obtain ⟨rfl, rfl⟩ := Prod.mk.inj hkv
      have eT := same_upd (o := HO.tup [V.ref qa, e.2]) nT
      refine ⟨T2, _, rfl, SqT.of upd_same, rfl, _, _, rfl, _, _, rfl, rfl, ?_⟩
      generalize upd H1 T2 (.tup [V.ref qa, e.2]) = H2 at eT ⊢
      have kp2 : ∀ b u, b ≠ d → H b = some u → H2 b = some u := fun b u nb z => eT _ _ (kp1 b u nb z)
      have hem := List.mem_of_getElem? he
      have hq2 : H2 qa = some (.tup (e.1.map V.str)) := by
        have := eT _ _ hqa
        rw [List.map_map] at this
        exact this
      have hl := hE.lot e hem
      refine ⟨_, rfl, _, rfl, x, .ref qa, zs, ch, rfl, ⟨dx, t, pd, kp2 _ _ hxd hx, kp2 _ _ htd ht, kp2 _ _ npd hp⟩, nz, lz, .inr ⟨qa, e.1.map V.str, rfl, .inr (SqT.of hq2), sqs_kit (k := "tuple") (b1 := false) (b2 := true) (.base (.tup hq2)) (by decide +kernel) (by decide +kernel), flat_strs _, ?_, fun H' e' hn => ?_, fun p l H3 np e3 hl' hp3 => ?_⟩⟩
      · have := hE.len e hem
        rw [List.length_map]
        omega
      · rw [hl] at hn
        cases hn
      rw [hl] at hl'
      obtain rfl := Option.some.inj hl'
      have hD3 := e3 _ _ (eT _ _ hD1)
      have hd3 := e3 _ _ (eT _ _ hd1)
      have fresh : ∀ e' ∈ es.take i, lotS zs e'.1 ≠ lotS zs e.1 := by
        intro e' m' z
        obtain ⟨j, hj, rfl⟩ := List.mem_take_iff_getElem.mp m'
        have hil := (List.getElem?_eq_some_iff.mp he).1
        have := nodup_inj hE.nd (i := j) (j := i) (by rw [List.length_map]; omega) (by rw [List.length_map]; exact hil) (by
          rw [List.getElem_map, List.getElem_map, z]
          have := (List.getElem?_eq_some_iff.mp he).2
          rw [this])
        omega
      have hno : valV (foundW zs (es.take i)) ((lotS zs e.1).map Sum.inr) = none := by
        exact foundW_get fresh
      have hp3' : H3 p = some (.tup (((lotS zs e.1).map Sum.inr : List Key).map kV)) := by
        rw [hp3, List.map_map]
        rfl
      refine ⟨_, rfl, rfl, _, rfl, ?_⟩
      refine iteF ?_
      refine ⟨_, rfl, _, rfl, D, _, rfl, DGet.t hD3 hp3', _, rfl, ?_⟩
      rw [hno]
      refine iteF ?_
      refine ⟨_, rfl, _, rfl, _, rfl, D, _, rfl, DPut.t (k := (lotS zs e.1).map Sum.inr) hD3 hp3' ?_, ?_⟩
      · unfold foundW
        rw [List.length_map, List.length_take]
        have := hE.few
        exact Evl.sz_lt (by omega)
      · refine ⟨_, _, _, rfl, ?_, ?_, fun b u nb z => ?_⟩
        · rw [upd_ne nDd]
          exact hd3
        · rw [upd_same, foundW_put fresh, take_succ he]
        · rw [upd_ne (ne_of_none z nD)]
          exact e3 _ _ (kp2 b u nb z)
    · rintro σ' H1 ⟨v3, v4, v5, rfl, hd1, hD1, kp1⟩
      refine ⟨hd1, ?_⟩
      refine ⟨_, rfl, q D _ nD (fun b u e => ?_) ?_⟩
      · by_cases nb : b = d
        · subst nb
          rw [upd_same, ← e, hd]
        · rw [upd_ne nb]
          exact kp1 b u nb e
      · rw [upd_ne nDd.symm]
        have : (entW es).length = es.length := by
          unfold entW
          rw [List.length_map]
        rw [this, List.take_length] at hD1
        exact hD1
end
end Bk

/-! the values of a dict whose keys are tuples, walked -/
namespace Bk
open PySem PySem.Spec PyProof.Rows L2
def Itvt (d : Addr) (o : Obj) (kvs : List (List Key × V)) : It :=
  ⟨fun i H => H d = some (.frz o (.dT kvs)) ∧ i < kvs.length, fun i H x H' => H' = H ∧ ∃ k, kvs[i]? = some (k, x), fun i H => H d = some (.frz o (.dT kvs)) ∧ kvs.length ≤ i⟩
section
variable {P : Program} {w : World} {K : PySem.W.Frag} {d : Addr} {o : Obj} {es : Array DictEntry} {ep : Nat}
theorem turn_valsT {tg : Expr} {kvs : List (List Key × V)} (it : Addr) (hod : o.data = .dict es ep) : Turn P w K tg (Itvt d o kvs) [it] it (fun i h => h.IsValIter it d i kvs.length ep) where
  mem := by simp
  obj := fun i h st b hb => by
    have e : b = it := by simpa using hb
    subst e
    obtain ⟨oi, e, c, dd⟩ := st
    exact ⟨oi, e, fun v z => by rw [dd] at z; cases z⟩
  keep := fun i h h' st k => st.at fun oi e => k it (by simp) oi e
  item := by
    intro X hP hw hK hc i pins s σ H E I hf st hg
    subst hP hw hK
    obtain ⟨hd, hi⟩ := hg
    obtain ⟨f0, f1, f2, f3, f4, f5⟩ := hf it (by simp)
    obtain ⟨hs, hgd, hx, es', ep', hdt, hsz, ent⟩ := frzTV I hd
    obtain ⟨rfl, rfl⟩ := dict_ep hod hdt
    obtain ⟨⟨k, v⟩, hkv⟩ : ∃ p, kvs[i]? = some p := ⟨kvs[i], List.getElem?_eq_getElem hi⟩
    obtain ⟨en, q, hen, hkey, hq, hval⟩ := ent i k v hkv
    have hi' : i < es'.size := by omega
    have hen' : es'[i] = en := by
      have e2 := Array.getElem?_eq_getElem hi'
      rw [hen] at e2
      exact (Option.some.inj e2).symm
    rw [← hsz] at st
    refine wpAny_pyNext_values_item_raw st ⟨o, hgd, hx, hdt⟩ hi' fun h' st' sb => ?_
    have I1 : Inv X pins σ H { s with heap := h' } := I.turned (t' := s.toks) (fun b ob hb e => (sb.2 b hb).trans e) f0 f1 f3 f4 f5
    obtain ⟨oi, e, c, dd⟩ := id st'
    rw [hen']
    refine ⟨_, rfl, go_of (s := { s with heap := h' }) e c dd (by decide) ⟨v, H, I1, hval, ⟨rfl, k, hkv⟩, ?_, fun b hb => (hf b hb).1⟩⟩
    show h'.IsValIter it d (i + 1) kvs.length _
    rw [← hsz]
    exact st'
  done := by
    intro X hP hw hK hc i pins s σ H E I hf st hg
    subst hP hw hK
    obtain ⟨hd, hi⟩ := hg
    obtain ⟨f0, f1, f2, f3, f4, f5⟩ := hf it (by simp)
    obtain ⟨hs, hgd, hx, es', ep', hdt, hsz, ent⟩ := frzTV I hd
    obtain ⟨rfl, rfl⟩ := dict_ep hod hdt
    rw [← hsz] at st
    exact wpAny_pyNext_values_end_raw (I.ok.hd hc) st ⟨o, hgd, hx, hdt⟩ (by omega) fun h' eb => ⟨rfl, I.turned (t' := s.toks) (fun b ob hb e => eb b ob hb e) f0 f1 f3 f4 f5⟩
  self := fun A i s Q E st h => wpAny_pyIter_valiter st h
end
/-- d.values(), d locked -/
def iValsT (td : TE) : TI := fun σ H R => td σ H fun x H1 => ∃ d o kvs, x = .ref d ∧ H1 d = some (.frz o (.dT kvs)) ∧ R (Itvt d o kvs) H1
section
variable {X : Cx} {tg e : Expr} {td : TE} {apos cpos : Pos}
theorem pi_valsT (he : PE X e td) (hbase : attributeBase e "values" X.env (eval e X.env) = eval e X.env := by rfl) (hline : (apos.endLine == cpos.line) = true := by rfl) :
    PI X tg (.Call (.Attribute e "values" apos) [] [] cpos) (iValsT td) := by
  refine ⟨fun pins s σ H R I h => ?_⟩
  refine wpAny_Call_method (T := "dict") (id := "dict.values") hbase rfl hline F.plainAttrs_dict F.slot_dict_values F.type_dict_values (thn (he.run pins s σ H _ I h) fun u s1 ⟨x, H1, I1, rx, d, o, kvs, ex, hd, q⟩ => ?_)
  subst ex
  obtain rfl : u = Value.ref d := rx
  obtain ⟨hs, hgd, hx, es, ep, hdt, hsz, ent⟩ := frzTV I1 hd
  have hm : s1.heap.DictRaw d es ep := ⟨o, hgd, hx, hdt⟩
  refine ⟨hm.typeIs, fun a e => by cases e; exact ⟨o, hgd, hx.2.1⟩, ?_⟩
  have I2 : Inv X pins σ H1 { s1 with heap := s1.heap.push { cls := .type "dict_values", data := .fields #[.ref d] } } := I1.kept (t' := s1.toks) fun b ob q => Heap.get?_push_of_some _ q
  have fin : wpAny (model X.prog X.w) X.A (pyIter (.ref s1.heap.objs.size)) (PIE X pins σ tg R) X.xe { s1 with heap := s1.heap.push { cls := .type "dict_values", data := .fields #[.ref d] } } := by
    refine wpAny_pyIter_values_raw (d := d) ⟨_, Heap.get?_push_size _ rfl, rfl, rfl⟩ (hm.at fun ob q => Heap.get?_push_of_some _ q) (pi_one (tk := s1.toks) I2 _ (turn_valsT _ hdt) ⟨_, Heap.get?_push_size _ rfl, rfl, ?_⟩ q)
    rw [← hsz] <;> rfl
  show wpAny _ _ (callWith cpos (.builtin "dict.values") [.ref d] [] []) _ X.xe s1
  exact method_meetsIn F.slot_dict_values F.entry_dict_values rfl (PySem.evalArgs_none ⟨rfl, hm.typeIs, F.args_dict_values_1 _, _, meets_dict_values_raw d hs, ⟨⟨es, ep, hm⟩, fin⟩⟩)
end
theorem walk_valsT {d : Addr} {o : Obj} {kvs : List (List Key × V)} : Walk (Itvt d o kvs) kvs.length (fun H => H d = some (.frz o (.dT kvs))) (fun i H x H' => H' = H ∧ ∃ k, kvs[i]? = some (k, x)) :=
  ⟨fun _ _ hi q => ⟨q, hi⟩, fun _ q => ⟨q, Nat.le_refl _⟩, fun _ _ _ _ _ _ y => y⟩
end Bk

namespace Bk
open PySem PySem.Spec PyProof.Rows L2
/-- what the top has written of Store -/
structure StoT (K : PySem.W.Frag) (mg : Str → Option Value) (C fI : Addr) : Prop where
  g : mg "Store" = some (.ref C)
  cl : Cls K C
  nF : NoAttr K C "folders"
  nT : NoAttr K C "table"
  make : Mk K C fI
/-! fractions as data -/
def dQ (q : Rat) : PyData := .tuple [.int q.num, .int (q.den : Int)]
theorem dp_q {K : PySem.W.Frag} {H : Hp} {v : V} {q : Rat} (h : FrV K H v q) : Dp K H v (dQ q) := by
  obtain ⟨a, rfl, h⟩ := h
  exact .tup h (.cons (.int _) (.cons (.int _) .nil))
theorem lay_q (q : Rat) : (dQ q).canLay0 = true := by simp [dQ, PyData.canLay0, PyData.canLayAll0]
theorem depth_q (q : Rat) : (dQ q).depth = 1 := by simp [dQ, PyData.depth, PyData.depthAll]
theorem shaped_q (q : Rat) : SeqAt.shaped (dQ q) = true := by
  unfold SeqAt.shaped
  rw [lay_q, depth_q]
  rfl
theorem rat_parts {p q : Rat} : p.num = q.num ∧ (p.den : Int) = (q.den : Int) ↔ p = q := by
  constructor
  · rintro ⟨h1, h2⟩
    exact Rat.ext h1 (by omega)
  · rintro rfl
    exact ⟨rfl, rfl⟩
theorem eqv_q (p q : Rat) : PyData.eqv (dQ p) (dQ q) = decide (p = q) := by
  have h := @rat_parts p q
  have e : PyData.eqv (dQ p) (dQ q) = (decide (p.num = q.num) && decide ((p.den : Int) = (q.den : Int))) := by
    unfold dQ
    simp only [PyData.eqv, PyData.eqvAll, Bool.and_true]
    congr 1 <;> first | rfl | exact (decide_eq_decide.mpr Iff.rfl)
  rw [e, ← Bool.decide_and]
  exact decide_eq_decide.mpr h
/-! tables of fractions -/
def FrTab (K : PySem.W.Frag) (H : Hp) (ks : List (List Key × V)) (qs : List (List Key × Rat)) : Prop := Paired (fun p q => p.1 = q.1 ∧ FrV K H p.2 q.2) ks qs
section
variable {K : PySem.W.Frag} {H H' : Hp} {ks : List (List Key × V)} {qs : List (List Key × Rat)}
theorem FrTab.same (h : FrTab K H ks qs) (e : Same H H') : FrTab K H' ks qs := Paired.mono (fun _ _ ⟨a, b⟩ => ⟨a, b.same e⟩) h
theorem FrTab.snoc {k : List Key} {v : V} {q : Rat} (h : FrTab K H ks qs) (r : FrV K H v q) : FrTab K H (ks ++ [(k, v)]) (qs ++ [(k, q)]) := Paired.snoc h ⟨rfl, r⟩
theorem FrTab.len (h : FrTab K H ks qs) : ks.length = qs.length := Paired.length h
theorem FrTab.keys (h : FrTab K H ks qs) : ks.map (·.1) = qs.map (·.1) := by
  unfold FrTab at h
  induction h with
  | nil => rfl
  | cons a t ih => rw [List.map_cons, List.map_cons, ih, a.1]
theorem FrTab.idx (h : FrTab K H ks qs) : ∀ {i : Nat} {k : List Key} {v : V}, ks[i]? = some (k, v) → ∃ q, qs[i]? = some (k, q) ∧ FrV K H v q := by
  unfold FrTab at h
  induction h with
  | nil => intro i k v e; simp at e
  | @cons a b l1 l2 hd t ih =>
    intro i k v e
    cases i with
    | zero =>
      rw [List.getElem?_cons_zero] at e ⊢
      cases e
      obtain ⟨b1, b2⟩ := b
      obtain ⟨h1, h2⟩ := hd
      have h1 : k = b1 := h1
      subst h1
      exact ⟨b2, rfl, h2⟩
    | succ i =>
      rw [List.getElem?_cons_succ] at e ⊢
      exact ih e
theorem FrV.chg {v : V} {q : Rat} {d : Addr} {w u : HO} (h : FrV K H v q) (hd : H d = some w) (n1 : ∀ xs, w ≠ .tup xs) (n2 : ∀ o xs, w ≠ .frz o (.tup xs)) : FrV K (upd H d u) v q := by
  obtain ⟨a, rfl, (h | ⟨o, h⟩) | h⟩ := h
  · exact ⟨a, rfl, .inl (.inl (by rw [upd_ne (ne_of h hd (fun z => n1 _ z.symm))]; exact h))⟩
  · exact ⟨a, rfl, .inl (.inr ⟨o, by rw [upd_ne (ne_of h hd (fun z => n2 _ _ z.symm))]; exact h⟩)⟩
  · exact ⟨a, rfl, .inr h⟩
theorem FrTab.chg {d : Addr} {w u : HO} (h : FrTab K H ks qs) (hd : H d = some w) (n1 : ∀ xs, w ≠ .tup xs) (n2 : ∀ o xs, w ≠ .frz o (.tup xs)) : FrTab K (upd H d u) ks qs := Paired.mono (fun _ _ ⟨a, b⟩ => ⟨a, b.chg hd n1 n2⟩) h
theorem FrTab.put {d : Addr} {tb : List (List Key × V)} {u : HO} (h : FrTab K H ks qs) (hd : H d = some (.dT tb)) : FrTab K (upd H d u) ks qs := h.chg hd (fun _ z => nomatch z) (fun _ _ z => nomatch z)
theorem FrTab.ins {d C e : Addr} {fs : List (Str × V)} {u : HO} (h : FrTab K H ks qs) (hd : H d = some (.ins C e fs)) : FrTab K (upd H d u) ks qs := h.chg hd (fun _ z => nomatch z) (fun _ _ z => nomatch z)
theorem FrTab.unl {d : Addr} {o : Obj} {tb : List (List Key × V)} {u : HO} (h : FrTab K H ks qs) (hd : H d = some (.frz o (.dT tb))) : FrTab K (upd H d u) ks qs := h.chg hd (fun _ z => nomatch z) (fun _ _ z => nomatch z)
def getQ (ks : List (List Key × Rat)) (k : List Key) : Option Rat := (ks.find? fun p => decide (p.1 = k)).map (·.2)
theorem getQ_pos {p : List Key × Rat} {r : List (List Key × Rat)} {k : List Key} (e : p.1 = k) : getQ (p :: r) k = some p.2 := by simp [getQ, List.find?_cons, e]
theorem getQ_neg {p : List Key × Rat} {r : List (List Key × Rat)} {k : List Key} (e : ¬ p.1 = k) : getQ (p :: r) k = getQ r k := by simp [getQ, List.find?_cons, e]
/-- the value at a key, or none on both sides -/
theorem FrTab.at (h : FrTab K H ks qs) (k : List Key) : (valV ks k = none ∧ getQ qs k = none) ∨ ∃ v q, valV ks k = some v ∧ getQ qs k = some q ∧ FrV K H v q := by
  unfold FrTab at h
  induction h with
  | nil => exact .inl ⟨rfl, rfl⟩
  | @cons a b l1 l2 hd t ih =>
    obtain ⟨h1, h2⟩ := hd
    by_cases z : a.1 = k
    · exact .inr ⟨a.2, b.2, valV_pos z, getQ_pos (h1 ▸ z), h2⟩
    · rw [valV_neg z, getQ_neg (fun y => z (h1.trans y))]
      exact ih
/-- whether two tables of fractions are equal -/
def sameQ (ks ls : List (List Key × Rat)) : Bool := ks.length == ls.length && ks.all fun p => decide (getQ ls p.1 = some p.2)
end
section
variable {X : Cx} {pins : List (Addr × Obj)} {σ : L2.St} {H : Hp} {s : Shared}
theorem fr_eq {A : Around} (hu : A.units + 1 < cLine) (I : Inv X pins σ H s) {v w : V} {p q : Rat} (hv : FrV X.K H v p) (hw : FrV X.K H w q) {x y : Value} (rx : RelV v x) (ry : RelV w y) : SeqAt.EqAt A s x y (decide (p = q)) := by
  obtain ⟨as, r1⟩ := Dp.reads I _ _ _ (dp_q hv) rx
  obtain ⟨bs, r2⟩ := Dp.reads I _ _ _ (dp_q hw) ry
  rw [← eqv_q]
  refine SeqAt.eqAt_reads _ _ A s x y as bs r1 r2 (lay_q p) (lay_q q) ?_
  rw [depth_q, depth_q]
  exact hu
theorem hitsQ {A : Around} (hu : A.units + 1 < cLine) (I : Inv X pins σ H s) {kb : List (List Key × V)} {ls : List (List Key × Rat)} {vb : List (List Key × Addr × Value)} (rb : KT H kb vb) (fb : FrTab X.K H kb ls) {ka : List (List Key × V)} : ∀ {qs : List (List Key × Rat)} {va : List (List Key × Addr × Value)}, KT H ka va → FrTab X.K H ka qs →
    PySem.W.BkHits A s vb va (qs.all fun p => decide (getQ ls p.1 = some p.2)) := by
  induction ka with
  | nil =>
    intro qs va ra fa
    cases ra
    cases fa
    exact .nil
  | cons p r ih =>
    intro qs va ra fa
    cases ra with
    | @cons _ q _ vs h t =>
      cases fa with
      | @cons _ f _ fs g u =>
        obtain ⟨h1, _, h3⟩ := h
        obtain ⟨g1, g2⟩ := g
        obtain ⟨k, c, v⟩ := q
        have h1 : p.1 = k := h1
        subst h1
        have rr := rb.val p.1
        rw [List.all_cons, ← g1]
        rcases fb.at p.1 with ⟨n1, n2⟩ | ⟨w, j, n1, n2, n3⟩
        · rw [n1] at rr
          rw [n2, show decide ((none : Option Rat) = some f.2) = false from decide_eq_false (fun z => nomatch z), Bool.false_and]
          refine .miss fun z hz => ?_
          cases e2 : atKey vb p.1 with
          | none => exact atKey_none e2 z hz
          | some w => rw [e2] at rr; exact rr
        · rw [n1] at rr
          cases e2 : atKey vb p.1 with
          | none => rw [e2] at rr; exact absurd rr (fun z => z)
          | some y =>
            rw [e2] at rr
            have hm := atKey_mem e2
            have ee := fr_eq hu I g2 n3 h3 (show RelV w y.2 from rr)
            have ed : decide (getQ ls p.1 = some f.2) = decide (f.2 = j) := by
              rw [n2]
              exact decide_eq_decide.mpr ⟨fun z => (Option.some.inj z).symm, fun z => by rw [z]⟩
            rw [ed]
            exact .hit hm ee (ih t u)
/-- table == table, the values fractions -/
def rEqQ (K : PySem.W.Frag) (neg : Bool) : R2 := fun x y H Q => ∃ a b ka kb ks ls, x = .ref a ∧ y = .ref b ∧ H a = some (.dT ka) ∧ H b = some (.dT kb) ∧ FrTab K H ka ks ∧ FrTab K H kb ls ∧ Q (.bl (if neg then !sameQ ks ls else sameQ ks ls)) H
theorem op_eqQ (K : PySem.W.Frag) (hu : X.A.units + 64 < cLine) (e : X.K = K := by rfl) : OpR X (compareOp .Eq) (rEqQ K false) := by
  subst e
  intro pins s σ H x y v u Q I rx ry h
  obtain ⟨a, b, ka, kb, ks, ls, rfl, rfl, ea, eb, fa, fb, q⟩ := h
  obtain rfl : v = Value.ref a := rx
  obtain rfl : u = Value.ref b := ry
  obtain ⟨_, ya, va, ra, da⟩ := dt_of I.hok ea
  obtain ⟨_, yb, vb, rb, db⟩ := dt_of I.hok eb
  have hu1 : X.A.units + 1 < cLine := by omega
  have hl1 : va.length = ks.length := by rw [← Paired.length ra]; exact fa.len
  have hl2 : vb.length = ls.length := by rw [← Paired.length rb]; exact fb.len
  refine PySem.W.bk_eq (knd := tupleKind (mixKind X.prog X.w)) (tupleKind_room_in1 hu1) ya yb da db (Nat.lt_of_succ_lt hu1) (fun _ => hitsQ (A := X.A.in1) (by show X.A.units + 1 + 1 < cLine; omega) I rb fb ra fa) ?_
  rw [hl1, hl2]
  exact ⟨_, H, I, (show RelV (.bl _) _ from rfl), q⟩
end
/-! ### stores as objects -/
def tabQ (ls : List (List Str)) (sz : List Str → Rat) : List (List Key × Rat) := (ls.filter fun l => decide (sz l ≠ 0)).map fun l => (l.map Sum.inr, sz l)
def StoreAt (K : PySem.W.Frag) (CF CS : Addr) (H : Hp) (s x : Addr) (zs : List Str) (ch : Bool) (sz : List Str → Rat) : Prop := ∃ ds td tb, H s = some (.ins CS ds (questF x td)) ∧ FoldersAt CF H x zs ch ∧ H td = some (.dT tb) ∧ FrTab K H tb (tabQ (lotsFor ch zs) sz)
theorem StoreAt.same {K : PySem.W.Frag} {CF CS s x : Addr} {H H' : Hp} {zs : List Str} {ch : Bool} {sz : List Str → Rat} (h : StoreAt K CF CS H s x zs ch sz) (e : Same H H') : StoreAt K CF CS H' s x zs ch sz := by
  obtain ⟨ds, td, tb, h1, h2, h3, h4⟩ := h
  exact ⟨ds, td, tb, e _ _ h1, h2.same e, e _ _ h3, h4.same e⟩
theorem stays_fr {K : PySem.W.Frag} : Stays (FrV K) := ⟨fun H1 H2 u l e h => h.same e, fun H1 D as bs u l hD => by
  rintro ⟨a, rfl, (h | ⟨o, h⟩) | h⟩
  · exact ⟨a, rfl, .inl (.inl (by rw [upd_ne (ne_of h hD (fun z => nomatch z))]; exact h))⟩
  · exact ⟨a, rfl, .inl (.inr ⟨o, by rw [upd_ne (ne_of h hD (fun z => nomatch z))]; exact h⟩)⟩
  · exact ⟨a, rfl, .inr h⟩⟩
theorem tabQ_idx {ls : List (List Str)} {sz : List Str → Rat} {i : Nat} {k : List Key} {q : Rat} (h : (tabQ ls sz)[i]? = some (k, q)) : ∃ l, (ls.filter fun l => decide (sz l ≠ 0))[i]? = some l ∧ k = l.map Sum.inr ∧ q = sz l := by
  unfold tabQ at h
  rw [List.getElem?_map] at h
  obtain ⟨l, h1, h2⟩ := Option.map_eq_some_iff.mp h
  cases h2
  exact ⟨l, h1, rfl, rfl⟩
theorem tabQ_len (ls : List (List Str)) (sz : List Str → Rat) : (tabQ ls sz).length = (ls.filter fun l => decide (sz l ≠ 0)).length := List.length_map ..
theorem tabQ_keys (ls : List (List Str)) (sz : List Str → Rat) : (tabQ ls sz).map (·.1) = (ls.filter fun l => decide (sz l ≠ 0)).map fun l => (l.map Sum.inr : List Key) := by
  unfold tabQ
  rw [List.map_map]
  rfl
theorem keys_nodup {ls : List (List Str)} (nd : ls.Nodup) : (ls.map fun l => (l.map Sum.inr : List Key)).Nodup := by
  rw [List.nodup_iff_pairwise_ne, List.pairwise_map]
  exact (List.nodup_iff_pairwise_ne.mp nd).imp fun h z => h (inr_inj z)
theorem getQ_tab (sz : List Str → Rat) (l : List Str) : ∀ ls : List (List Str), getQ (tabQ ls sz) (l.map Sum.inr) = if l ∈ ls ∧ sz l ≠ 0 then some (sz l) else none
  | [] => by simp [tabQ, getQ]
  | x :: r => by
    have ih := getQ_tab sz l r
    unfold tabQ at ih ⊢
    by_cases h : sz x = 0
    · rw [List.filter_cons_of_neg (by simp [h]), ih]
      by_cases e : l = x
      · subst e
        rw [if_neg (fun z => z.2 h), if_neg (fun z => z.2 h)]
      · by_cases m : l ∈ r ∧ sz l ≠ 0
        · rw [if_pos m, if_pos ⟨List.mem_cons_of_mem _ m.1, m.2⟩]
        · rw [if_neg m, if_neg (fun z => (List.mem_cons.mp z.1).elim e fun y => m ⟨y, z.2⟩)]
    · rw [List.filter_cons_of_pos (p := fun l => decide (sz l ≠ 0)) (decide_eq_true h), List.map_cons]
      by_cases e : x = l
      · subst e
        rw [getQ_pos rfl, if_pos ⟨List.mem_cons_self, h⟩]
      · rw [getQ_neg (fun z => e (inr_inj z)), ih]
        by_cases m : l ∈ r ∧ sz l ≠ 0
        · rw [if_pos m, if_pos ⟨List.mem_cons_of_mem _ m.1, m.2⟩]
        · rw [if_neg m, if_neg (fun z => (List.mem_cons.mp z.1).elim (fun y => e y.symm) fun y => m ⟨y, z.2⟩)]
/-- the value that stands at the i-th key is what the dict holds there -/
theorem valV_once {kvs : List (List Key × V)} (nd : (kvs.map (·.1)).Nodup) {i : Nat} {k : List Key} {v : V} (h : kvs[i]? = some (k, v)) : valV kvs k = some v := by
  induction kvs generalizing i with
  | nil => simp at h
  | cons p r ih =>
    rw [List.map_cons, List.nodup_cons] at nd
    cases i with
    | zero =>
      rw [List.getElem?_cons_zero] at h
      cases h
      exact valV_pos rfl
    | succ i =>
      rw [List.getElem?_cons_succ] at h
      have m : k ∈ r.map (·.1) := List.mem_map.mpr ⟨(k, v), List.mem_of_getElem? h, rfl⟩
      rw [valV_neg (fun z => nd.1 (z ▸ m))]
      exact ih nd.2 h
theorem putK_mem {kvs : List (List Key × V)} {k : List Key} {v : V} {p : List Key × V} (h : p ∈ putK kvs k v) : p ∈ kvs ∨ p.2 = v := by
  unfold putK at h
  by_cases c : (kvs.any fun kv => decide (kv.1 = k)) = true
  · rw [if_pos c] at h
    obtain ⟨e, he, rfl⟩ := List.mem_map.mp h
    by_cases z : e.1 = k
    · rw [if_pos z]; exact .inr rfl
    · rw [if_neg z]; exact .inl he
  · rw [if_neg c] at h
    exact (List.mem_append.mp h).imp id fun z => by rw [List.mem_singleton.mp z]
theorem places_int {ls : List (List Str)} {p : List Key × V} (h : p ∈ placesOf ls) : ∃ i, p.2 = V.int i := by
  unfold placesOf at h
  have all : ∀ (xs : List (List Str × Nat)) (acc : List (List Key × V)), (∀ p ∈ acc, ∃ i, p.2 = V.int i) → ∀ p ∈ xs.foldl (fun acc (p : List Str × Nat) => putK acc (p.1.map Sum.inr) (V.int (p.2 : Int))) acc, ∃ i, p.2 = V.int i := by
    intro xs
    induction xs with
    | nil => intro acc ha p hp; exact ha p hp
    | cons x r ih =>
      intro acc ha p hp
      exact ih _ (fun p hp => (putK_mem hp).elim (ha p) fun e => ⟨_, e⟩) p hp
  exact all _ [] (fun p m => nomatch m) p h
/-- a question stays, though a table of references is locked -/
theorem QuestAt.off {CF CQ q x : Addr} {H H' : Hp} {d : Addr} {tb : List (List Key × V)} {k : List Key} {a : Addr} {zs : List Str} {ch : Bool} {wt : List Str → Int} (h : QuestAt CF CQ H q x zs ch wt) (hd : H d = some (.dT tb)) (hm : (k, V.ref a) ∈ tb) (e : ∀ b o, b ≠ d → H b = some o → H' b = some o) : QuestAt CF CQ H' q x zs ch wt := by
  obtain ⟨dq, td, h1, ⟨dx, t, pd, h2, h3, h4⟩, h5⟩ := h
  refine ⟨dq, td, e _ _ (ne_of h1 hd (fun z => nomatch z)) h1, ⟨dx, t, pd, e _ _ (ne_of h2 hd (fun z => nomatch z)) h2, e _ _ (ne_of h3 hd (fun z => nomatch z)) h3, e _ _ (fun z => ?_) h4⟩, e _ _ (fun z => ?_) h5⟩
  · subst z
    rw [h4] at hd
    cases hd
    obtain ⟨i, z⟩ := places_int hm
    cases z
  · subst z
    rw [h5] at hd
    cases hd
    obtain ⟨kv, _, z⟩ := List.mem_map.mp hm
    cases z
/-- the answer of a store to a question -/
def ansQ (ls : List (List Str)) (sz : List Str → Rat) (wt : List Str → Int) : Rat := sumQ (ls.map fun l => sz l * ((wt l : Int) : Rat))
theorem ansQ_some (ls : List (List Str)) (sz : List Str → Rat) (wt : List Str → Int) : ansQ (ls.filter fun l => decide (sz l ≠ 0)) sz wt = ansQ ls sz wt := by
  unfold ansQ sumQ
  have all : ∀ (ls : List (List Str)) (a : Rat), ((ls.filter fun l => decide (sz l ≠ 0)).map fun l => sz l * ((wt l : Int) : Rat)).foldl (fun a b => a + b) a = (ls.map fun l => sz l * ((wt l : Int) : Rat)).foldl (fun a b => a + b) a := by
    intro ls
    induction ls with
    | nil => intro a; rfl
    | cons l r ih =>
      intro a
      by_cases z : sz l = 0
      · rw [List.filter_cons_of_neg (by simp [z]), ih a, List.map_cons, List.foldl_cons, z, Rat.zero_mul, Rat.add_zero]
      · rw [List.filter_cons_of_pos (p := fun l => decide (sz l ≠ 0)) (decide_eq_true z), List.map_cons, List.map_cons, List.foldl_cons, List.foldl_cons, ih]
  exact all ls 0
end Bk

namespace Bk
open PySem PySem.Spec PyProof.Rows L2
/-- what stands at a key, or nothing -/
def Siz0 (K : PySem.W.Frag) (H : Hp) (o : Option V) (q : Rat) : Prop := (o = none ∧ q = 0) ∨ ∃ v, o = some v ∧ SizV K H v q
theorem Siz0.same {K : PySem.W.Frag} {H H' : Hp} {o : Option V} {q : Rat} (h : Siz0 K H o q) (e : Same H H') : Siz0 K H' o q := h.imp id fun ⟨v, h1, h2⟩ => ⟨v, h1, h2.same e⟩
theorem SizV.lock {K : PySem.W.Frag} {H : Hp} {v : V} {q : Rat} {d : Addr} {tb : List (List Key × V)} {u : HO} (h : SizV K H v q) (hd : H d = some (.dT tb)) : SizV K (upd H d u) v q := by
  rcases h with h | ⟨a, t, b, h1, h2, h3⟩
  · exact .inl h
  · exact .inr ⟨a, t, b, h1, (sq_lock h2.symm hd).symm, h3⟩
theorem SizV.but {K : PySem.W.Frag} {H : Hp} {v : V} {q : Rat} {s C ds : Addr} {fs : List (Str × V)} {u : HO} (h : SizV K H v q) (hs : H s = some (.ins C ds fs)) : SizV K (upd H s u) v q := by
  rcases h with h | ⟨a, t, b, h1, (((h | ⟨o, h⟩) | h) | ((h | ⟨o, h⟩) | h)), h3⟩
  · exact .inl h
  · exact .inr ⟨a, t, b, h1, .inl (.inl (.inl (by rw [upd_ne (ne_of h hs (fun z => nomatch z))]; exact h))), h3⟩
  · exact .inr ⟨a, t, b, h1, .inl (.inl (.inr ⟨o, by rw [upd_ne (ne_of h hs (fun z => nomatch z))]; exact h⟩)), h3⟩
  · exact .inr ⟨a, t, b, h1, .inl (.inr h), h3⟩
  · exact .inr ⟨a, t, b, h1, .inr (.inl (.inl (by rw [upd_ne (ne_of h hs (fun z => nomatch z))]; exact h))), h3⟩
  · exact .inr ⟨a, t, b, h1, .inr (.inl (.inr ⟨o, by rw [upd_ne (ne_of h hs (fun z => nomatch z))]; exact h⟩)), h3⟩
  · exact .inr ⟨a, t, b, h1, .inr (.inr h), h3⟩
theorem SizV.zero {K : PySem.W.Frag} {H : Hp} : SizV K H (.int 0) 0 := .inl ⟨0, rfl, rfl⟩
/-- what the told gives for a lot -/
theorem Siz0.getD {K : PySem.W.Frag} {H : Hp} {o : Option V} {q : Rat} (h : Siz0 K H o q) : SizV K H (o.getD (.int 0)) q := by
  rcases h with ⟨rfl, rfl⟩ | ⟨v, rfl, h⟩
  · exact .zero
  · exact h
def spStore (K : PySem.W.Frag) (C CS : Addr) : Sp := fun vs H Q _ => ∃ (s x ds dx t pd : Addr) (wv : V) (zs : List Str) (ch : Bool) (sz : List Str → Rat), vs = [.ref s, .ref x, wv] ∧ H s = some (.ins CS ds []) ∧ H x = some (.ins C dx (foldersF t pd ch)) ∧ H t = some (.tup (zs.map V.str)) ∧ H pd = some (.dT (placesOf (lotsFor ch zs))) ∧
  zs.Nodup ∧ zs.length ≤ mostFor ch ∧ ((wv = .non ∧ ∀ l ∈ lotsFor ch zs, sz l = 0) ∨ ∃ (d : Addr) (es : List (List Str × V)), wv = .ref d ∧ pd ≠ d ∧ H d = some (.dT (entW es)) ∧ EntsW ch zs es ∧ (∀ e ∈ es, ∃ q, SizV K H e.2 q) ∧ ∀ l ∈ lotsFor ch zs, Siz0 K H (valV (foundW zs es) (l.map Sum.inr)) (sz l)) ∧
  ∀ H', StoreAt K C CS H' s x zs ch sz → (∀ b u, b ≠ s → H b = some u → H' b = some u) → Q .non H'
section
variable {P : Program} {w : World} {K : PySem.W.Frag} {mg : Str → Option Value} {base : Heap}
theorem scStore : FnScope ["self", "folders", "sizes", "told", "size", "lot"] ["self", "folders", "sizes"] (defScope (inClass (topS 40) 0)) := ⟨rfl, rfl, rfl, by decide +kernel, rfl, by decide +kernel, by decide +kernel⟩
theorem ok_store (B : Bi mg) {C CS f0 fS f f1 f2 aN : Addr} {fd fd1 fd2 : FuncData} {dvs : List V} (T : FolT K mg C f0) (TS : StoT K mg CS fS) (TN : NoT K mg aN) (c_by_lots : Cal P w K mg base CX0 3 "by_lots" f1 fd1 ["folders", "told"] (spByLots K C)) (c_size_of : Cal P w K mg base CX0 3 "size_of" f2 fd2 ["thing"] (spSizeQ K))
    (F : FunD K "__init__" "Store.__init__" (defArgs (inClass (topS 40) 0)) (defBody (inClass (topS 40) 0)) (defScope (inClass (topS 40) 0)) dvs [] f fd) : FnOk P w K mg base CX0 4 f fd ["self", "folders", "sizes"] (spStore K C CS) := by
  refine F.ok scStore (fun vs H Q E h => ?_) (fun cdv A outer s' H vs Q E hr h => ?_)
  · obtain ⟨s, x, ds, dx, t, pd, wv, zs, ch, sz, rfl, _⟩ := h
    rfl
  · obtain ⟨s, x, ds, dx, t, pd, wv, zs, ch, sz, rfl, hs, hx, ht, hp, nz, lz, hw, qq⟩ := h
    have nd := scStore.nd
    have hu := hu_of hr
    have hr_by_lots : Room 3 _ := hr.mono (by decide)
    have hr_size_of := hr_by_lots
    have l12 : zs.length ≤ 12 := Nat.le_trans lz (by cases ch <;> decide)
    refine ⟨_, (Evl.pss_cut (ps_set (i := 3) nd rfl (Or.inr rfl) (pe_ifExp (pt_cmpR op_isN (pv 2) pe_non (nomark _)) pe_dnewT (pe_call c_by_lots.ok hr_by_lots (by rfl) c_by_lots.g c_by_lots.kp c_by_lots.b .nil pass0 (pa_cons (pv 1) (pa_cons (pv 2) pa_nil)))))
      (Evl.pss_cut (ps_lock (ps_for (passes_of rfl) rfl (pi_valsT (pv 3)) (pg_name (i := 4) nd rfl (Or.inl rfl)) (pss_one (ps_if (pt_cmpR op_isN (pe_call c_size_of.ok hr_size_of (by rfl) c_size_of.g c_size_of.kp c_size_of.b .nil pass0 (pa_cons (pv 4) pa_nil)) pe_non (nomark _)) (pss_one ps_no) pss_nil))))
      (pss_cons (ps_fld (pv 0) (pv 1) rfl)
      (pss_one (ps_fld (pv 0) (pe_lock (pe_dcTI (own := [("lot", 5)]) hr.units0 rfl nd (pi_keys (pe_fld (pv 1) rfl)) (blkOk_by (N := ["self", "folders", "sizes", "told", "size", "lot"]) (sc := defScope (inClass (topS 40) 0)) (by decide +kernel)) (fun _ _ _ _ _ => (pg_name (i := 5) nd rfl (Or.inl rfl))) (fun _ _ _ _ _ => (pts_one (pt_cmpR (kNeD K hr.units) (pe_call c_size_of.ok hr_size_of (by rfl) c_size_of.g c_size_of.kp c_size_of.b .nil pass0 (pa_cons (pe_dget2 hu (pv 3) (pv 5) pe_int ⟨rfl, rfl, rfl, rfl⟩) pa_nil)) (pe_glob (v:=.ref aN) (by rfl) TN.g rfl) (nomark _)))) (fun _ _ _ _ _ => (pv 5)) (fun _ _ _ _ _ => (pe_call c_size_of.ok hr_size_of (by rfl) c_size_of.g c_size_of.kp c_size_of.b .nil pass0 (pa_cons (pe_dget hu (pv 3) (pv 5) (fun _ _ => rfl)) pa_nil))))) rfl))))), ?_⟩
    -- told
    refine ⟨fun σ1 H1 => ∃ (D : Addr) (tb : List (List Key × V)), σ1 = [some (.ref s), some (.ref x), some wv, some (.ref D), none, none] ∧ H D = none ∧ Same H H1 ∧ H1 D = some (.dT tb) ∧ (∀ p ∈ tb, ∃ q, SizV K H1 p.2 q) ∧ ∀ l ∈ lotsFor ch zs, Siz0 K H1 (valV tb (l.map Sum.inr)) (sz l), ?_, ?_⟩
    · rcases hw with ⟨rfl, h0⟩ | ⟨d, es, rfl, npd, hd, hE, hS, h0⟩
      · refine ⟨_, rfl, rfl, _, rfl, ?_⟩
        refine iteT ?_
        intro D nD
        exact ⟨D, [], rfl, nD, same_upd nD, upd_same, fun p m => (nomatch m), fun l m => .inl ⟨rfl, h0 l m⟩⟩
      · refine ⟨_, rfl, rfl, _, rfl, ?_⟩
        refine iteF ?_
        refine ⟨_, rfl, _, rfl, x, d, dx, t, pd, zs, ch, es, rfl, hx, ht, hp, npd, nz, l12, hd, hE, fun D H' nD e1 hD => ⟨D, _, rfl, nD, e1, hD, fun p m => ?_, fun l m => (h0 l m).same e1⟩⟩
        obtain ⟨e, me, rfl⟩ := List.mem_map.mp m
        obtain ⟨q, hq⟩ := hS e me
        exact ⟨q, hq.same e1⟩
    rintro σ1 H1 ⟨D, tb, rfl, nD, e1, hD1, hv, hz⟩
    -- each size is one
    refine ⟨fun σ2 H2 => ∃ v5, σ2 = [some (.ref s), some (.ref x), some wv, some (.ref D), v5, none] ∧ Same H1 H2, ?_, ?_⟩
    · refine ⟨D, _, hD1, trivial, fun oD => ?_⟩
      have hD2 : upd H1 D (.frz oD (.dT tb)) D = some (.frz oD (.dT tb)) := upd_same
      refine ⟨_, rfl, D, oD, _, rfl, hD2, ?_⟩
      refine for_it walk_valsT (fun i σ' H' => ∃ v5, σ' = [some (.ref s), some (.ref x), some wv, some (.ref D), v5, none] ∧ Same (upd H1 D (.frz oD (.dT tb))) H') ⟨_, rfl, Same.refl _⟩ (fun i σ' H' _ ⟨_, _, e⟩ => e _ _ hD2) ?_ ?_
      · rintro i y σ' H2 H3 hi ⟨v5, rfl, e2⟩ ⟨rfl, k, hk⟩
        obtain ⟨q, hq⟩ := hv _ (List.mem_of_getElem? hk)
        have hq3 := (hq.lock (u := .frz oD (.dT tb)) hD1).same e2
        refine ⟨_, rfl, y, q, rfl, hq3, fun z H4 nz4 e4 hz4 => ?_⟩
        refine ⟨rfl, _, rfl, ?_⟩
        refine iteF ?_
        exact ⟨_, rfl, Same.trans e2 e4⟩
      · rintro σ' H2 ⟨v5, rfl, e2⟩
        exact ⟨e2 _ _ hD2, _, rfl, unlock hD1 e2⟩
    rintro σ2 H2 ⟨v5, rfl, e2⟩
    -- self.folders
    have e12 := Same.trans e1 e2
    have hxs : x ≠ s := fun z => by subst z; rw [hx] at hs; injection hs with hs; injection hs with _ _ h3; cases h3
    have hts : t ≠ s := ne_of ht hs (fun z => nomatch z)
    have hps : pd ≠ s := ne_of hp hs (fun z => nomatch z)
    have hDs : D ≠ s := (ne_of_none hs nD).symm
    refine ⟨_, rfl, _, rfl, s, CS, ds, [], rfl, e12 _ _ hs, TS.cl, TS.nF, by decide, ?_⟩
    rw [putq1]
    have hs3 : upd H2 s (.ins CS ds [("folders", .ref x)]) s = some (.ins CS ds [("folders", .ref x)]) := upd_same
    have k3 : ∀ b u, b ≠ s → H2 b = some u → upd H2 s (.ins CS ds [("folders", .ref x)]) b = some u := fun b u nb z => by rw [upd_ne nb]; exact z
    have kz : ∀ v q, SizV K H2 v q → SizV K (upd H2 s (.ins CS ds [("folders", .ref x)])) v q := fun v q h => h.but (e12 _ _ hs)
    generalize upd H2 s (.ins CS ds [("folders", .ref x)]) = H3 at hs3 k3 kz ⊢
    have hD3 : H3 D = some (.dT tb) := k3 _ _ hDs (e2 _ _ hD1)
    have hp3 : H3 pd = some (.dT (placesOf (lotsFor ch zs))) := k3 _ _ hps (e12 _ _ hp)
    -- self.table
    have hx3 := k3 _ _ hxs (e12 _ _ hx)
    have ht3 := k3 _ _ hts (e12 _ _ ht)
    refine ⟨pd, _, hp3, trivial, fun od => ?_⟩
    have hxp : x ≠ pd := ne_of hx hp (fun z => nomatch z)
    have htp : t ≠ pd := ne_of ht hp (fun z => nomatch z)
    have hsp : s ≠ pd := hps.symm
    have hDp : D ≠ pd := (ne_of_none hp nD).symm
    have hp4 : upd H3 pd (.frz od (.dT (placesOf (lotsFor ch zs)))) pd = some (.frz od (.dT (placesOf (lotsFor ch zs)))) := upd_same
    have hx4 : upd H3 pd (.frz od (.dT (placesOf (lotsFor ch zs)))) x = some (.ins C dx (foldersF t pd ch)) := by rw [upd_ne hxp]; exact hx3
    have hD4 : upd H3 pd (.frz od (.dT (placesOf (lotsFor ch zs)))) D = some (.dT tb) := by rw [upd_ne hDp]; exact hD3
    refine ⟨_, rfl, x, C, dx, _, _, rfl, hx4, T.cl, T.nP, look_places _ _ _, pd, od, rfl, .inr ⟨_, hp4, fun D2 nD2 => ?_⟩⟩
    have lots3 : (lotsFor ch zs).length ≤ 2000 := lots_few lz
    refine dcI_it walk_keysT (fun i H' => Same (upd H3 pd (.frz od (.dT (placesOf (lotsFor ch zs))))) H' ∧ ∃ tb2, H' D2 = some (.dT tb2) ∧ FrTab K H' tb2 (tabQ ((lotsFor ch zs).take i) sz)) ⟨same_upd nD2, [], upd_same, .nil⟩ (fun i H' _ ⟨e4, _⟩ => e4 _ _ hp4) ?_ ?_
    · rintro i y H4 H5 hi ⟨e4, tb2, hd4, ft⟩ ⟨rfl, k, v, qa, hk, rfl, hqa⟩
      obtain ⟨l, hl, rfl⟩ := places_key nz hk
      refine ⟨rfl, ?_⟩
      have ml := List.mem_of_getElem? hl
      have hqs : H5 qa = some (.tup ((l.map Sum.inr : List Key).map kV)) := hqa
      have hz5 : ∀ v q, SizV K H1 v q → SizV K H5 v q := fun v q h => ((kz v q (h.same e2)).lock hp3).same e4
      have hl0 := hz l ml
      have htake : tabQ ((lotsFor ch zs).take (i + 1)) sz = tabQ ((lotsFor ch zs).take i) sz ++ if sz l = 0 then [] else [(l.map Sum.inr, sz l)] := by
        unfold tabQ
        rw [take_succ hl, List.filter_append, List.map_append]
        by_cases z : sz l = 0
        · simp [z]
        · simp [z]
      refine ⟨_, rfl, D, rfl, .inr ⟨_, .inl (e4 _ _ hD4)⟩, _, rfl, _, DGet.t (e4 _ _ hD4) hqs, ?_⟩
      refine ⟨_, sz l, rfl, hz5 _ _ hl0.getD, fun z H6 nz6 e6 hz6 => ?_⟩
      refine ⟨dQ (sz l), dQ 0, dp_q ⟨z, rfl, SqT.of hz6⟩, dp_q ⟨aN, rfl, TN.t _⟩, shaped_q _, shaped_q _, ?_⟩
      rw [eqv_q]
      refine ⟨_, rfl, ?_⟩
      have e46 := Same.trans e4 e6
      by_cases c : sz l = 0
      · rw [decide_eq_true c]
        rw [if_pos c, List.append_nil] at htake
        refine iteF ?_
        exact ⟨e46, tb2, e6 _ _ hd4, by rw [htake]; exact ft.same e6⟩
      · rw [decide_eq_false c]
        rw [if_neg c] at htake
        refine iteT ?_
        obtain ⟨v1, hv1, hs1⟩ : ∃ v, valV tb (l.map Sum.inr) = some v ∧ SizV K H1 v (sz l) := by
          rcases hl0 with ⟨_, h⟩ | h
          · exact absurd h c
          · exact h
        refine ⟨_, rfl, _, rfl, _, rfl, D, v1, rfl, ?_, ?_⟩
        · have := DGet.t (e46 _ _ hD4) (e6 _ _ hqs)
          rw [hv1] at this
          exact this
        refine ⟨v1, sz l, rfl, (hz5 _ _ hs1).same e6, fun z7 H7 nz7 e7 hz7 => ?_⟩
        have e47 := Same.trans e46 e7
        have ft7 := ft.same (Same.trans e6 e7)
        have hd7 : H7 D2 = some (.dT tb2) := e7 _ _ (e6 _ _ hd4)
        have fresh : (l.map Sum.inr : List Key) ∉ tb2.map (·.1) := by
          rw [ft.keys, tabQ_keys]
          intro m
          obtain ⟨l', m', e⟩ := List.mem_map.mp m
          rw [inr_inj e] at m'
          exact take_fresh (lots_nodup (ch := ch) nz) hl (List.mem_filter.mp m').1
        refine ⟨_, l.map Sum.inr, qa, rfl, e7 _ _ (e6 _ _ hqs), hd7, ?_, Same.grow e47 nD2, tb2 ++ [(l.map Sum.inr, .ref z7)], ?_, ?_⟩
        · rw [ft.len, tabQ_len]
          have h1 := List.length_filter_le (fun l => decide (sz l ≠ 0)) ((lotsFor ch zs).take i)
          rw [List.length_take] at h1
          exact Evl.sz_lt (by omega)
        · rw [upd_same, putK_fresh fresh]
        · rw [htake]
          exact (ft7.snoc ⟨z7, rfl, SqT.of hz7⟩).put hd7
    · rintro H4 ⟨e4, tb2, hd4, ft⟩
      rw [places_length nz, List.take_length] at ft
      refine ⟨e4 _ _ hp4, ?_⟩
      have hs4 : upd H3 pd (.frz od (.dT (placesOf (lotsFor ch zs)))) s = some (.ins CS ds [("folders", .ref x)]) := by rw [upd_ne hsp]; exact hs3
      have ht4 : upd H3 pd (.frz od (.dT (placesOf (lotsFor ch zs)))) t = some (.tup (zs.map V.str)) := by rw [upd_ne htp]; exact ht3
      have n2p : D2 ≠ pd := (ne_of_none hp4 nD2).symm
      have n2s : D2 ≠ s := (ne_of_none hs4 nD2).symm
      have hs5 : upd H4 pd (.dT (placesOf (lotsFor ch zs))) s = some (.ins CS ds [("folders", .ref x)]) := by rw [upd_ne hsp]; exact e4 _ _ hs4
      refine ⟨_, rfl, s, CS, ds, [("folders", .ref x)], rfl, hs5, TS.cl, TS.nT, by show 1 < 1000; decide, ?_⟩
      rw [putq2]
      refine qq _ ⟨ds, D2, tb2, upd_same, ⟨dx, t, pd, ?_, ?_, ?_⟩, ?_, ?_⟩ fun b u nb z => ?_
      · rw [upd_ne hxs, upd_ne hxp]; exact e4 _ _ hx4
      · rw [upd_ne hts, upd_ne htp]; exact e4 _ _ ht4
      · rw [upd_ne hps, upd_same]
      · rw [upd_ne n2s, upd_ne n2p]; exact hd4
      · refine FrTab.ins ?_ hs5
        exact ft.unl (e4 _ _ hp4)
      · rw [upd_ne nb]
        by_cases nb2 : b = pd
        · subst nb2
          rw [upd_same, ← z, hp]
        · rw [upd_ne nb2]
          refine e4 _ _ ?_
          rw [upd_ne nb2]
          exact k3 _ _ nb (e12 _ _ z)
end
end Bk

namespace Bk
open PySem PySem.Spec PyProof.Rows L2
/-- self + other, self - other: sg tells which -/
def spPlus (C CQ : Addr) (sg : Int) : Sp := fun vs H Q _ => ∃ (q x q' x' : Addr) (zs : List Str) (ch : Bool) (wt wt' : List Str → Int), vs = [.ref q, .ref q'] ∧ QuestAt C CQ H q x zs ch wt ∧ QuestAt C CQ H q' x' zs ch wt' ∧ (∀ z ∈ zs, isNameS z = true) ∧ zs.Nodup ∧ zs.length ≤ mostFor ch ∧
  ∀ y H', H y = none → Same H H' → QuestAt C CQ H' y x zs ch (fun l => wt l + sg * wt' l) → Q (.ref y) H'
def spTimes (C CQ : Addr) : Sp := fun vs H Q _ => ∃ (q x : Addr) (zs : List Str) (ch : Bool) (wt : List Str → Int) (k : Int), vs = [.ref q, .int k] ∧ QuestAt C CQ H q x zs ch wt ∧ zs.Nodup ∧ zs.length ≤ mostFor ch ∧ (∀ l ∈ lotsFor ch zs, CMul (wt l) k) ∧
  ∀ y H', H y = none → Same H H' → QuestAt C CQ H' y x zs ch (fun l => wt l * k) → Q (.ref y) H'
section
variable {P : Program} {w : World} {K : PySem.W.Frag} {mg : Str → Option Value} {base : Heap}
theorem plus_end {C CQ : Addr} {H H1 : Hp} {x D : Addr} {zs : List Str} {ch : Bool} {wt : List Str → Int} {R : Addr → Hp → Prop} (FA : FoldersAt C H x zs ch) (nz : zs.Nodup) (lz : zs.length ≤ mostFor ch) (nD : H D = none) (e1 : Same H H1) (hD : H1 D = some (.dT (tabV (tabL (lotsFor ch zs) wt))))
    (r : ∀ y H', H y = none → Same H H' → QuestAt C CQ H' y x zs ch wt → R y H') : ∀ q dq, H1 q = none → H1 dq = none → dq ≠ q → spQuest K C CQ [.ref q, .ref x, .ref D] (upd (upd H1 dq (.own q)) q (.ins CQ dq [])) (fun v H' => v = .non ∧ R q H') E0 :=
  make_quest (FA.same e1) nz lz hD (far_new FA nD e1) (fun l m => m) (lots_nodup nz) (fun l m => by rw [if_pos m]) fun q H' nq e QA => r q H' (e1.free nq) (Same.trans e1 e) QA
theorem scPlus : FnScope ["self", "other"] ["self", "other"] (defScope (inClass (topS 45) 3)) := ⟨rfl, rfl, rfl, by decide +kernel, rfl, by decide +kernel, by decide +kernel⟩
theorem ok_plus (B : Bi mg) {C CQ fQ f f1 : Addr} {fdQ fd fd1 : FuncData} (TQ : QueT K mg CQ fQ) (GQ : FnOk P w K mg base CX0 4 fQ fdQ ["self", "folders", "weights"] (spQuest K C CQ)) (bQ : Binds K fdQ ["self", "folders", "weights"] [])
    (c_added : Cal P w K mg base CX0 3 "added" f1 fd1 ["one", "other", "sign"] (spAdded C CQ)) (F : Fun K "__add__" "Question.__add__" (inClass (topS 45) 3) f fd) : FnOk P w K mg base CX0 6 f fd ["self", "other"] (spPlus C CQ 1) := by
  refine F.ok scPlus (fun vs H Q E h => ?_) (fun cdv A outer s H vs Q E hr h => ?_)
  · obtain ⟨q, x, q', x', zs, ch, wt, wt', rfl, _⟩ := h
    rfl
  · obtain ⟨q, x, q', x', zs, ch, wt, wt', rfl, QA, QB, nm, nz, lz, qq⟩ := h
    have nd := scPlus.nd
    have hu := hu_of hr
    have hr_added : Room 3 _ := hr.mono (by decide)
    refine ⟨_, (pss_one (ps_ret (pe_make TQ.make GQ hr (by rfl) TQ.g bQ .nil pass0 (pa_cons (pe_fld (pv 0) rfl) (pa_cons (pe_call c_added.ok hr_added (by rfl) c_added.g c_added.kp c_added.b .nil pass0 (pa_cons (pv 0) (pa_cons (pv 1) (pa_cons pe_int pa_nil)))) pa_nil))))), ?_⟩
    obtain ⟨dq, td, hq, FA, htd⟩ := id QA
    exact ⟨_, rfl, q, CQ, dq, _, _, rfl, hq, TQ.cl, TQ.nF, look_folders _ _, _, rfl, _, rfl, q, x, q', x', zs, ch, wt, wt', 1, rfl, QA, QB, nm, nz, lz, by decide, by decide, fun D H1 nD e1 hD => plus_end FA nz lz nD e1 hD qq⟩
theorem scMinus : FnScope ["self", "other"] ["self", "other"] (defScope (inClass (topS 45) 4)) := ⟨rfl, rfl, rfl, by decide +kernel, rfl, by decide +kernel, by decide +kernel⟩
theorem ok_minus (B : Bi mg) {C CQ fQ f f1 : Addr} {fdQ fd fd1 : FuncData} (TQ : QueT K mg CQ fQ) (GQ : FnOk P w K mg base CX0 4 fQ fdQ ["self", "folders", "weights"] (spQuest K C CQ)) (bQ : Binds K fdQ ["self", "folders", "weights"] [])
    (c_added : Cal P w K mg base CX0 3 "added" f1 fd1 ["one", "other", "sign"] (spAdded C CQ)) (F : Fun K "__sub__" "Question.__sub__" (inClass (topS 45) 4) f fd) : FnOk P w K mg base CX0 6 f fd ["self", "other"] (spPlus C CQ (-1)) := by
  refine F.ok scMinus (fun vs H Q E h => ?_) (fun cdv A outer s H vs Q E hr h => ?_)
  · obtain ⟨q, x, q', x', zs, ch, wt, wt', rfl, _⟩ := h
    rfl
  · obtain ⟨q, x, q', x', zs, ch, wt, wt', rfl, QA, QB, nm, nz, lz, qq⟩ := h
    have nd := scMinus.nd
    have hu := hu_of hr
    have hr_added : Room 3 _ := hr.mono (by decide)
    refine ⟨_, (pss_one (ps_ret (pe_make TQ.make GQ hr (by rfl) TQ.g bQ .nil pass0 (pa_cons (pe_fld (pv 0) rfl) (pa_cons (pe_call c_added.ok hr_added (by rfl) c_added.g c_added.kp c_added.b .nil pass0 (pa_cons (pv 0) (pa_cons (pv 1) (pa_cons (pe_un un_neg pe_int) pa_nil)))) pa_nil))))), ?_⟩
    obtain ⟨dq, td, hq, FA, htd⟩ := id QA
    exact ⟨_, rfl, q, CQ, dq, _, _, rfl, hq, TQ.cl, TQ.nF, look_folders _ _, _, rfl, _, rfl, _, rfl, q, x, q', x', zs, ch, wt, wt', -1, rfl, QA, QB, nm, nz, lz, by decide, by decide, fun D H1 nD e1 hD => plus_end FA nz lz nD e1 hD qq⟩
end
end Bk

/-! dict displays whose keys are tuples; == of lists of such dicts -/
namespace Bk
open PySem PySem.Spec PyProof.Rows L2
/-- the pairs of a display whose keys are tuples -/
abbrev PT (H : Hp) : List (V × V) → List (List Key × V) → Prop := Paired fun q kv => ∃ b : Addr, q = (.ref b, kv.2) ∧ H b = some (.tup (kv.1.map kV))
theorem carriesT {P : Program} {w : World} {H : Hp} {h : Heap} (hok : HOk P w H h) : ∀ {ps : List (V × V)} {kvs : List (List Key × V)} {ws : List (Value × Value)}, PT H ps kvs → VV ps ws → ∃ rs, CarriesH (tupleKind (mixKind P w)) h ws rs ∧ KT H kvs rs
  | _, _, _, .nil, r => by cases r; exact ⟨[], True.intro, .nil⟩
  | _, _, _, .cons (a := p) (b := kv) e t, r => by
    obtain ⟨b, rfl, hb⟩ := e
    cases r with
    | @cons _ q _ bs h t2 =>
      obtain ⟨rs, c, k⟩ := carriesT hok t t2
      obtain ⟨u1, u2⟩ := q
      obtain ⟨h1, h2⟩ := h
      have h1 : u1 = Value.ref b := h1
      subst h1
      exact ⟨(kv.1, b, u2) :: rs, ⟨rfl, rfl, key_of hok hb, c⟩, .cons ⟨rfl, hb, h2⟩ k⟩
def tDispT (trs : List (TE × TE)) : TE := fun σ H Q => ∀ p, H p = none → tPairs trs σ (upd H p (.dT [])) fun ps H2 => H2 p = some (.dT []) ∧ ∃ kvs : List (List Key × V), PT H2 ps kvs ∧ kvs.length ≤ 15 ∧ Q (.ref p) (upd H2 p (.dT (mergeT [] kvs)))
theorem pe_dispT {X : Cx} {pos : Pos} {keys : List (Option Expr)} {values : List Expr} {trs : List (TE × TE)} (hu : X.A.units + 1 < cLine) (h : PPs X pos keys values trs) (hall : keys.all (·.isSome) = true) (hl : keys.length = values.length) (h0 : keys ≠ [])
    (h15 : keys.length ≤ 15) : PE X (.Dict keys values pos) (tDispT trs) := by
  refine ⟨fun pins s σ H Q I q => ?_⟩
  have hn := I.hok.fresh (Nat.le_refl s.heap.objs.size)
  have I1 := I.laid (a := s.heap.objs.size) (o := .dT []) (h' := s.heap.push { cls := .type "dict", data := .dict #[] }) (t' := s.toks) (fun _ _ q => Heap.get?_push_of_some _ q) (Nat.le_refl _) (dt_empty s.heap I.big)
  have hp := pairTrees_length keys values X.env pos hall hl
  have hp0 : pairTrees keys values X.env pos ≠ [] := fun he => by
    rw [he] at hp
    exact h0 (List.length_eq_zero_iff.mp hp.symm)
  rw [arm_eval_Dict, zip_pairTrees keys values X.env pos hall hl, dictDisplay_pairs _ hp0 (by omega)]
  refine wpAny_bind (wpAny_standAt (wpAny_bind (wpAny_subDictH (knd := tupleKind (mixKind X.prog X.w)) (Q := fun d s' => wpAny (model X.prog X.w) X.A (pure (Value.ref d)) (EP X pins σ Q) X.xe s') (show X.A.units < cLine from Nat.lt_of_succ_lt hu) (by omega) ?_)))
  refine thn (h.run pins _ σ _ _ I1 (q _ hn)) fun ws s2 ⟨ps, H2, I2, rel, e, kvs, pt, lk, q2⟩ => ?_
  obtain ⟨rs, c, rk⟩ := carriesT I2.hok pt rel
  obtain ⟨z, hd, xs0, r0, dd⟩ := dt_of I2.hok e
  cases r0
  refine ⟨rs, c, dd, fun h' tk dd' hs => wpAny_pure ?_⟩
  have hz : (mergeT [] kvs).length ≤ sizeLine := by
    have h1 := mergeT_len kvs []
    rw [List.length_nil] at h1
    rw [sizeLine_eq]
    omega
  have he : ∃ q, h'.get? s.heap.objs.size = some q := let ⟨q, _, _, hq, _⟩ := dd'; ⟨q, hq⟩
  have nb : ∀ {b : Addr} {ys : List V}, H2 b = some (.tup ys) → (upd H2 s.heap.objs.size (.dT (mergeT [] kvs))) b = some (.tup ys) := fun {b ys} hb => by
    rw [upd_ne (fun z => by rw [z, e] at hb; cases hb)]
    exact hb
  obtain ⟨o, es, ep, h1, h2, h3, h4, _, h5⟩ := dd'
  have new : ObjOk X.prog X.w (upd H2 s.heap.objs.size (.dT (mergeT [] kvs))) h' s.heap.objs.size (.dT (mergeT [] kvs)) :=
    ⟨hz, hd, storedAllH [] rs, (KT.merge _ _ _ _ rk .nil).keeps fun b ys hb => nb hb, o, es, ep, h1, h2, h3, h4, h5⟩
  exact ⟨.ref s.heap.objs.size, _, d_write I2 (by rw [e]; exact True.intro) hs he new, rfl, q2⟩
theorem paired_get {α β : Type} {F : α → β → Prop} : ∀ {l : List α} {m : List β} {i : Nat} {x : α}, Paired F l m → l[i]? = some x → ∃ y, m[i]? = some y ∧ F x y
  | _, _, _, _, .nil, h => by simp at h
  | _, _, 0, _, .cons h _, e => by cases e; exact ⟨_, rfl, h⟩
  | _, _, i + 1, _, .cons _ t, e => by
    obtain ⟨y, h1, h2⟩ := paired_get t (by simpa using e)
    exact ⟨y, by simpa using h1, h2⟩
theorem zip_all {α β : Type} (f : α → β → Bool) (a0 : α) (b0 : β) : ∀ (ks : List α) (ls : List β), ks.length = ls.length → ((List.range ks.length).all fun j => f (ks.getD j a0) (ls.getD j b0)) = (ks.zip ls).all fun p => f p.1 p.2
  | [], [], _ => rfl
  | [], _ :: _, h => nomatch h
  | _ :: _, [], h => nomatch h
  | k :: r, l :: t, h => by
    have ih := zip_all f a0 b0 r t (Nat.succ.inj h)
    rw [List.length_cons, List.range_succ_eq_map, List.all_cons, List.all_map, List.zip_cons_cons, List.all_cons, ← ih]
    rfl
section
variable {X : Cx}
/-- == of two lists of dicts whose keys are tuples, their values whole numbers -/
def rEqLT (K : PySem.W.Frag) : R2 := fun x y H Q => ∃ (l1 l2 : Addr) (as bs : List Addr) (ks ls : List (List (List Key × Int))), x = .ref l1 ∧ y = .ref l2 ∧ SqL K H l1 (as.map V.ref) ∧ SqL K H l2 (bs.map V.ref) ∧ Paired (fun a k => H a = some (.dT (tabV k))) as ks ∧ Paired (fun b k => H b = some (.dT (tabV k))) bs ls ∧
  as.length = bs.length ∧ (∀ (i : Nat) (a b : Addr), as[i]? = some a → bs[i]? = some b → a ≠ b) ∧ Q (.bl ((ks.zip ls).all fun p => sameT p.1 p.2)) H
theorem op_eqLT (hu : X.A.units + 64 < cLine) : OpR X (compareOp .Eq) (rEqLT X.K) := by
  intro pins s σ H x y v u Q I rx ry h
  obtain ⟨l1, l2, as, bs, ks, ls, rfl, rfl, h1, h2, pa, pb, hlen, hne, q⟩ := h
  obtain rfl : v = Value.ref l1 := rx
  obtain rfl : u = Value.ref l2 := ry
  obtain ⟨its, rv, p1, _⟩ := I.list h1
  obtain ⟨its2, rv2, p2, _⟩ := I.list h2
  have ei := refs_at rv
  have ei2 := refs_at rv2
  subst ei ei2
  have hk : as.length = ks.length := Paired.length pa
  have hl : bs.length = ls.length := Paired.length pb
  refine SeqAt.rcP_lists (e := fun j => sameT (ks.getD j []) (ls.getD j [])) p1.isList p2.isList (by simp [hlen]) (by omega) (fun j j1 j2 => ?_) _ _ ?_
  · have j1' : j < as.length := by simpa using j1
    have j2' : j < bs.length := by simpa using j2
    obtain ⟨k, hkj, ha⟩ := paired_get pa (List.getElem?_eq_getElem j1')
    obtain ⟨l, hlj, hb⟩ := paired_get pb (List.getElem?_eq_getElem j2')
    have e1 : ks.getD j [] = k := by rw [List.getD_eq_getElem?_getD, hkj]; rfl
    have e2 : ls.getD j [] = l := by rw [List.getD_eq_getElem?_getD, hlj]; rfl
    have n := hne j _ _ (List.getElem?_eq_getElem j1') (List.getElem?_eq_getElem j2')
    show SeqAt.EqP X.prog X.w X.A.in1 s ((as.map Value.ref).toArray[j]) ((bs.map Value.ref).toArray[j]) (sameT (ks.getD j []) (ls.getD j []))
    rw [e1, e2]
    simp only [List.getElem_toArray, List.getElem_map]
    obtain ⟨_, ya, va, ra, da⟩ := dt_of I.hok ha
    obtain ⟨_, yb, vb, rb, db⟩ := dt_of I.hok hb
    have hl1 : va.length = k.length := by rw [← Paired.length ra]; exact tab_len k
    have hl2 : vb.length = l.length := by rw [← Paired.length rb]; exact tab_len l
    refine SeqAt.eqP_refs n fun E' Q' q' => ?_
    refine PySem.W.bk_eq (A := X.A.in1) (knd := tupleKind (mixKind X.prog X.w)) (show X.A.in1.in1.units < cLine from Nat.lt_of_le_of_lt (Nat.add_le_add_left (by decide : 2 ≤ 64) _) hu) ya yb da db (show X.A.in1.units < cLine from Nat.lt_of_le_of_lt (Nat.add_le_add_left (by decide : 1 ≤ 64) _) hu) (fun _ => hitsT rb ra) ?_
    rw [hl1, hl2]
    exact q'
  · have e : ((List.range (as.map Value.ref).toArray.size).all fun j => sameT (ks.getD j []) (ls.getD j [])) = (ks.zip ls).all fun p => sameT p.1 p.2 := by
      have hz : (as.map Value.ref).toArray.size = ks.length := by simp [hk]
      rw [hz]
      exact zip_all (fun k l => sameT k l) [] [] ks ls (by omega)
    rw [e]
    exact ⟨_, H, I, (show RelV (.bl _) _ from rfl), q⟩
end
section
variable {X : Cx} {T id : String} {name : Str} {o e : Expr} {es : List Expr} {to : TE} {t : TA} {r : V → List V → Hp → VK → Prop} {apos cpos : Pos}
/-- o.m(e, ..) of a builtin's method, K told -/
theorem kBm (K : PySem.W.Frag) (pa : PlainAttrs T) (slot : Slot T name id) (hty : typeOf (.builtin id) = pure (.type "method_descriptor")) (hm : MtR X id r) (ho : PE X o to) (ha : PA X (e :: es) t) (eK : X.K = K := by rfl)
    (hbase : attributeBase o name X.env (eval o X.env) = eval o X.env := by rfl)
    (hfew : ((backTo cpos (starEach (e :: es) X.env)).all (fun x => !x.1) && (backToKw cpos (keywordEach [] X.env)).all (fun x => x.1.isSome) && decide ((e :: es).length + ([] : List Keyword).length + (if ([] : List Keyword).isEmpty then 0 else 1) < 30)) = true := by rfl)
    (hline : (apos.endLine == cpos.line) = true := by rfl) (hs : starEach (e :: es) X.env = (false, eval e X.env) :: starEach es X.env := by rfl) (hplain : (backTo cpos (starEach es X.env)).any (·.1) = false := by rfl) :
    PE X (.Call (.Attribute o name apos) (e :: es) [] cpos) (tBM K T r to t) := eK ▸ pe_bm pa slot hty hm ho ha hbase hfew hline hs hplain
end
end Bk

namespace Bk
open PySem PySem.Spec PyProof.Rows L2
/-- _law_mixed(stream, some): the same things in a drawn order -/
def spMixed (K : PySem.W.Frag) : Sp := fun vs H Q _ => ∃ (st c a : Addr) (n : Nat) (xs : List V), vs = [.ref st, .ref a] ∧ Strm H st c n ∧ n ≤ 900000 ∧ (SqL K H a xs ∨ SqT K H a xs) ∧ xs.length ≤ 1000 ∧
  ∀ D ys H', H D = none → ys.Perm xs → H' D = some (.lst ys) → Strm H' st c (n + xs.length) → Kept st c H H' → Q (.ref D) H'
theorem perm_erase {xs : List V} {i : Nat} {v : V} (h : xs[i]? = some v) : xs.Perm (v :: xs.eraseIdx i) := by
  induction xs generalizing i with
  | nil => simp at h
  | cons x r ih =>
    cases i with
    | zero =>
      cases h
      exact List.Perm.refl _
    | succ i =>
      have h : r[i]? = some v := by simpa using h
      exact ((ih h).cons x).trans (List.Perm.swap _ _ _)
theorem seqIndex_at {n j : Nat} (h : j < n) : seqIndex? (j : Int) n = some j := by
  unfold seqIndex?
  simp
  omega
section
variable {P : Program} {w : World} {K : PySem.W.Frag} {mg : Str → Option Value} {base : Heap}
end
end Bk

/-! e[i] = v where e is an instance whose class says __setitem__ -/
namespace Bk
open PySem PySem.Spec PyProof.Rows L2
section
variable {X : Cx} {CX : CXT} {n : Nat} {C f : Addr} {fd : FuncData} {ps : List Str} {sp : Sp} {E : XK}
def sOwn (C : Addr) (sp : Sp) (E : XK) : TSet := fun o i v H Q => ∃ (a dx : Addr) (fs : List (Str × V)), o = .ref a ∧ H a = some (.ins C dx fs) ∧ sp [.ref a, i, v] H (fun _ H' => Q H') E
theorem set_own (F : FnOk X.prog X.w X.K X.mg X.base CX n f fd ps sp) (hb : Binds X.K fd ps []) (hx : Passes CX X E) (hr : Room n X.A) (m : Own X.K C "__setitem__" f) (nq : PySem.W.noSeq X.K C = true) : PSet X (sOwn C sp E) := by
  intro pins s σ H o i v ov iv u Q I ro ri rv h
  obtain ⟨a, dx, fs, rfl, ha, hs⟩ := h
  cases ro
  obtain ⟨mA, J, _⟩ := ins_get I.hok ha
  obtain ⟨od, J, _⟩ := J.look
  obtain ⟨_, hF⟩ := I.fr
  refine PySem.W.ksp_setItem hF I.ok.mod.kin J nq m.at_ m.fn (wpAny_mono (own_run (vs := [.ref a, i, v]) F hb hx ⟨hr, rfl⟩ I (.cons rfl (.cons ri (.cons rv .nil))) hs) (fun w s' hv => ?_) fun _ _ z => z)
  obtain ⟨z, H', I', _, q⟩ := hv
  exact ⟨H', I', q⟩
end
end Bk

/-! walks over an instance whose class says __iter__ as a new iterator over a list -/
namespace Bk
open PySem PySem.Spec PyProof.Rows L2 ItX
/-- a def whose promise knows how many objects there are when it is called -/
structure FnS (P : Program) (w : World) (K : PySem.W.Frag) (mg : Str → Option Value) (base : Heap) (k : Nat) (f : Addr) (fd : FuncData) (ps : List Str) (sp : Nat → Sp) : Prop where
  len : ∀ n vs H Q E, sp n vs H Q E → vs.length = ps.length
  run : ∀ (A : Around) (outer : List Env) (s : Shared) (H : Hp) (args : Args) (us : List Value) (vs : List V) (Q : VK) (E : XK), Room k A → Env0 P w K mg base A outer s H → BindsTo s fd args (ps.zip us) → Vals vs us → sp s.heap.objs.size vs H Q E →
    codeAny (model P w) A (.call (.ref f) args) (CR CX0 outer P w H s Q E) s
section
variable {P : Program} {w : World} {K : PySem.W.Frag} {mg : Str → Option Value} {base : Heap}
theorem Fun.okS {x qual : Str} {st : Stmt} {f : Addr} {fd : FuncData} {N ps : List Str} {k : Nat} {sp : Nat → Sp} (F : Fun K x qual st f fd) (S : FnScope N ps (defScope st)) (len : ∀ n vs H Q E, sp n vs H Q E → vs.length = ps.length)
    (hbody : ∀ (cdv : Value) (A : Around) (outer : List Env) (s : Shared) (H : Hp) (vs : List V) (Q : VK) (E : XK), Room k (A.deeper (envOfC qual (defScope st) s.heap.objs.size f cdv)) → sp s.heap.objs.size vs H Q E →
      ∃ t, PSs (cxOf CX0 P w K mg base N qual (defScope st) f cdv A outer s H E).nox (defBody st) t ∧ t { nx := fun _ H' => Q .non H', rt := Q } (start N vs) H) : FnS P w K mg base (k + 1) f fd ps sp := by
  obtain ⟨oc, od, kV, doc, pm, an, cdv, ct, osl, rfl, lk, hcd⟩ := F.ex
  refine ⟨len, fun A outer s H args us vs Q E hr e0 hb r hsp => ?_⟩
  have hl := len _ _ _ _ _ hsp
  have up : ∀ b o, base.get? b = some o → s.heap.get? b = some o := fun b o e => (e0.bs b o e).1
  have hk : ∀ y ∈ ps.zip us, (defScope st).names.lookup y.1 = some .local ∨ ((defScope st).names.lookup y.1 = some .cell ∧ ((cellsFrom (s.heap.objs.size + 1) (defScope st).names []).lookup y.1).isSome = true) := by
    rintro ⟨n, v⟩ hy
    rcases S.par n (List.of_mem_zip hy).1 with q | q
    · exact .inl q
    · exact .inr ⟨q, PySem.W.cellsFrom_some _ _ _ (.inl q)⟩
  refine codeAny_call_function hr.depth ((e0.mod.kin.keeps up) _ _ lk) rfl S.co S.gen rfl (PySem.W.codeRec_of (e0.mod.kin.keeps up) hcd) (hb _ _ _ _ (wpAny_newFunctionEnv_cells S.kind hk fun env he s1 x => ?_))
  subst he
  refine ⟨(e0.mod.nolimit.keeps up).keeps x.toInCall.keep, codeAny_func ?_⟩
  obtain ⟨t, ht, hq⟩ := hbody cdv A outer s H vs Q E (hr.deeper _) hsp
  have I : Inv (cxOf CX0 P w K mg base N qual (defScope st) f cdv A outer s H E) [] (start N vs) H s1 := inv_start S hr.hd e0 hl r x
  refine wpAny_mono (ht.nox.run [] s1 (start N vs) H _ I hq) (fun fl s' hs => ?_) fun e s' hs => hs
  cases fl with
  | ret u =>
    obtain ⟨v, σ', H', J, rv, q⟩ := hs
    exact ⟨v, H', J.os, J.bare, J.base, J.hok, rv, q⟩
  | next =>
    obtain ⟨σ', H', J, q⟩ := hs
    exact ⟨V.non, H', J.os, J.bare, J.base, J.hok, rfl, q⟩
  | brk => exact (show False from hs.choose_spec.choose_spec.2).elim
  | cont => exact (show False from hs.choose_spec.choose_spec.2).elim
end
section
variable {X : Cx} {n : Nat} {C f : Addr} {fd : FuncData} {ps : List Str} {sp : Nat → Sp} {tg e : Expr} {te : TE}
/-- the instance's own __iter__ says an iterator over the list at l, which is then forgotten -/
def iOwn (K : PySem.W.Frag) (C : Addr) (sp : Nat → Sp) (te : TE) : TI := fun σ H R => te σ H fun x H1 => ∃ (a dx : Addr) (fs : List (Str × V)), x = .ref a ∧ H1 a = some (.ins C dx fs) ∧
  ∀ m, sp m [.ref a] H1 (fun v H2 => ∃ it l, v = .ref it ∧ H2 it = some (ItO l it 0) ∧ m ≤ it ∧ R (ItlF K l 0) (dropH H2 it)) E0
theorem pi_own (F : FnS X.prog X.w X.K X.mg X.base n f fd ps sp) (hb : Binds X.K fd ps []) (hr : Room n X.A) (m : Own X.K C "__iter__" f) (he : PE X e te) : PI X tg e (iOwn X.K C sp te) := by
  refine ⟨fun pins s σ H R I h => ?_⟩
  refine thn (he.run pins s σ H _ I h) fun u s1 ⟨x, H1, I1, r1, q1⟩ => ?_
  obtain ⟨a, dx, fs, rfl, ha, hs⟩ := q1
  cases r1
  obtain ⟨mA, J, _⟩ := ins_get I1.hok ha
  obtain ⟨od, J, _⟩ := J.look
  obtain ⟨_, hF⟩ := I1.fr
  refine PySem.W.owit_iter hF I1.ok.mod.kin J m.at_ m.fn ?_
  have e0 : Env0 X.prog X.w X.K X.mg X.base X.A X.stack s1 H1 := I1.env0
  have hsp := hs s1.heap.objs.size
  have hl := F.len _ _ _ _ _ hsp
  have r2 : Vals [V.ref a] [Value.ref a] := .cons rfl .nil
  refine wpAny_call (codeAny_mono (F.run X.A X.stack s1 H1 ⟨[.ref a], []⟩ [.ref a] [.ref a] _ E0 hr e0 (by
    have := hb s1 [.ref a] I1.kIn (by simpa using hl)
    simpa using this) r2 hsp) fun r s' hq => ?_)
  cases r with
  | error er => exact (show False from hq).elim
  | ok fl =>
    cases fl with
    | ret v =>
      obtain ⟨z, H2, I2, rv, it, l, rfl, hi, hm, q⟩ := I1.after hq
      cases rv
      have eo := itO_get I2 hi
      have st : s'.heap.IsListIter it l (0 + 0) := ⟨_, eo, rfl, rfl⟩
      have LT : PySem.W.Looks (model X.prog X.w) s'.heap (typeOf (.ref it)) (.type "list_iterator") := (PySem.W.Looks.ld (part := none) eo).andThen .now
      have Li : PySem.W.Looks (model X.prog X.w) s'.heap (specialOf (.ref it) (Str.ofString "__next__")) (some (.builtin "list_iterator.__next__")) := LT.andThen (PySem.W.Looks.of_pure PySem.slot_listiter_next.lookup)
      have hi' := hi
      unfold ItO at hi'
      refine Li.here ?_
      refine ⟨it, [it], _, _, dropH H2 it, rfl, inv_drop I2 hi', turn_listF l it 0, st, fun b hb => ?_, q⟩
      have e : b = it := by simpa using hb
      rw [e]
      exact inv_fp I2 hi (Nat.le_trans I1.sz hm)
    | next => exact False.elim hq
    | brk => exact False.elim hq
    | cont => exact False.elim hq
end
theorem walk_listF {K : PySem.W.Frag} {a : Addr} {xs : List V} : Walk (ItlF K a 0) xs.length (fun H => SqL K H a xs) (YAt xs) := by
  have e : ItlF K a 0 = Itl K a := by
    unfold ItlF
    simp only [Nat.zero_add]
  rw [e]
  exact walk_list
end Bk

/-! books: questions and their ends -/
namespace Bk
open PySem PySem.Spec PyProof.Rows L2
/-- questions about the same folders, in a list -/
def QtsAt (C CQ : Addr) (H : Hp) (zs : List Str) (ch : Bool) (us : List V) (wts : List (List Str → Int)) : Prop := us.length = wts.length ∧ ∀ (i : Nat) (u : V) (wt : List Str → Int), us[i]? = some u → wts[i]? = some wt → ∃ q x, u = .ref q ∧ QuestAt C CQ H q x zs ch wt
theorem QtsAt.same {C CQ : Addr} {H H' : Hp} {zs : List Str} {ch : Bool} {us : List V} {wts : List (List Str → Int)} (h : QtsAt C CQ H zs ch us wts) (e : Same H H') : QtsAt C CQ H' zs ch us wts := ⟨h.1, fun i u wt h1 h2 => let ⟨q, x, a, b⟩ := h.2 i u wt h1 h2; ⟨q, x, a, b.same e⟩⟩
/-- whether two questions are the same -/
def eqQ (zs : List Str) (ch : Bool) (wt : List Str → Int) (zs' : List Str) (ch' : Bool) (wt' : List Str → Int) : Bool := decide (zs = zs') && decide (ch = ch') && sameT (tableOf ch zs wt) (tableOf ch' zs' wt')
def atV : Option Nat → V
  | none => .non
  | some i => .int (i : Int)
/-- lo and hi are ends -/
def EndOk (lo hi : V) : Prop := (lo = .non ∧ ∃ j, hi = .int j) ∨ (hi = .non ∧ ∃ i, lo = .int i) ∨ ∃ i j, lo = .int i ∧ hi = .int j ∧ i ≤ j
/-- a pair of ends -/
def EndAt (H : Hp) (u : V) (p : V × V) : Prop := ∃ T, u = .ref T ∧ H T = some (.tup [p.1, p.2])
theorem stays_end : Stays EndAt := ⟨fun H1 H2 u l e ⟨T, h1, h2⟩ => ⟨T, h1, e _ _ h2⟩, fun H1 D as bs u l hD ⟨T, h1, h2⟩ => ⟨T, h1, by rw [upd_ne (ne_of h2 hD (fun z => nomatch z))]; exact h2⟩⟩
/-- what is told as ends: a whole number, or a pair in a list or a tuple -/
def EndsIn (K : PySem.W.Frag) (H : Hp) (v lo hi : V) : Prop := (∃ n, v = .int n ∧ lo = .int n ∧ hi = .int n) ∨ ∃ a, v = .ref a ∧ (SqL K H a [lo, hi] ∨ SqT K H a [lo, hi]) ∧ EndOk lo hi
def bookF (x lq le : Addr) : List (Str × V) := [("folders", .ref x), ("questions", .ref lq), ("ends", .ref le)]
theorem look_bf (x lq le : Addr) : (bookF x lq le).lookup ("folders" : Str) = some (.ref x) := by
  unfold bookF
  rw [List.lookup_cons, beq_self_eq_true]
theorem look_bq (x lq le : Addr) : (bookF x lq le).lookup ("questions" : Str) = some (.ref lq) := by
  unfold bookF
  have h1 : (("questions" : Str) == ("folders" : Str)) = false := by decide +kernel
  rw [List.lookup_cons, h1]
  show List.lookup ("questions" : Str) [(("questions" : Str), V.ref lq), ("ends", .ref le)] = _
  rw [List.lookup_cons, beq_self_eq_true]
theorem look_be (x lq le : Addr) : (bookF x lq le).lookup ("ends" : Str) = some (.ref le) := by
  unfold bookF
  have h1 : (("ends" : Str) == ("folders" : Str)) = false := by decide +kernel
  have h2 : (("ends" : Str) == ("questions" : Str)) = false := by decide +kernel
  rw [List.lookup_cons, h1]
  show List.lookup ("ends" : Str) [(("questions" : Str), V.ref lq), ("ends", .ref le)] = _
  rw [List.lookup_cons, h2]
  show List.lookup ("ends" : Str) [(("ends" : Str), V.ref le)] = _
  rw [List.lookup_cons, beq_self_eq_true]
/-- a book's lists -/
structure ListsAt (C CQ : Addr) (H : Hp) (lq le : Addr) (zs : List Str) (ch : Bool) (wts : List (List Str → Int)) (ps : List (V × V)) : Prop where
  ex : ∃ qs es, H lq = some (.lst qs) ∧ H le = some (.lst es) ∧ QtsAt C CQ H zs ch qs wts ∧ Told EndAt H es ps
  len : wts.length = ps.length
/-- a book -/
def BookAt (C CQ CB : Addr) (H : Hp) (b x : Addr) (zs : List Str) (ch : Bool) (wts : List (List Str → Int)) (ps : List (V × V)) : Prop := ∃ db lq le, H b = some (.ins CB db (bookF x lq le)) ∧ FoldersAt C H x zs ch ∧ ListsAt C CQ H lq le zs ch wts ps
theorem ListsAt.same {C CQ lq le : Addr} {H H' : Hp} {zs : List Str} {ch : Bool} {wts : List (List Str → Int)} {ps : List (V × V)} (h : ListsAt C CQ H lq le zs ch wts ps) (e : Same H H') : ListsAt C CQ H' lq le zs ch wts ps := by
  obtain ⟨⟨qs, es, a1, a2, a3, a4⟩, l⟩ := h
  exact ⟨⟨qs, es, e _ _ a1, e _ _ a2, a3.same e, a4.same stays_end e⟩, l⟩
theorem BookAt.same {C CQ CB b x : Addr} {H H' : Hp} {zs : List Str} {ch : Bool} {wts : List (List Str → Int)} {ps : List (V × V)} (h : BookAt C CQ CB H b x zs ch wts ps) (e : Same H H') : BookAt C CQ CB H' b x zs ch wts ps := by
  obtain ⟨db, lq, le, a1, a2, a3⟩ := h
  exact ⟨db, lq, le, e _ _ a1, a2.same e, a3.same e⟩
/-- what the top has written of Book -/
structure BooT (K : PySem.W.Frag) (mg : Str → Option Value) (C fI : Addr) : Prop where
  g : mg "Book" = some (.ref C)
  cl : Cls K C
  nF : NoAttr K C "folders"
  nQ : NoAttr K C "questions"
  nE : NoAttr K C "ends"
  make : Mk K C fI
/-- what place_in says: the first that is the same -/
def placeQ (zs : List Str) (ch : Bool) (wts : List (List Str → Int)) (zs' : List Str) (ch' : Bool) (wt' : List Str → Int) : Option Nat := wts.findIdx? fun w => eqQ zs ch w zs' ch' wt'
theorem place_none {zs zs' : List Str} {ch ch' : Bool} {wts : List (List Str → Int)} {wt' : List Str → Int} (h : ∀ w ∈ wts, eqQ zs ch w zs' ch' wt' = false) : placeQ zs ch wts zs' ch' wt' = none := by
  unfold placeQ
  rw [List.findIdx?_eq_none_iff]
  exact h
theorem place_some {zs zs' : List Str} {ch ch' : Bool} {wts : List (List Str → Int)} {w wt' : List Str → Int} {i : Nat} (hw : wts[i]? = some w) (h : eqQ zs ch w zs' ch' wt' = true) (n : ∀ j u, j < i → wts[j]? = some u → eqQ zs ch u zs' ch' wt' = false) : placeQ zs ch wts zs' ch' wt' = some i := by
  unfold placeQ
  rw [List.findIdx?_eq_some_iff_getElem]
  obtain ⟨hi, e⟩ := List.getElem?_eq_some_iff.mp hw
  refine ⟨hi, by rw [e]; exact h, fun j hj => ?_⟩
  rw [n j _ hj (List.getElem?_eq_getElem (by omega))]
  exact Bool.false_ne_true
end Bk

namespace Bk
open PySem PySem.Spec PyProof.Rows L2
end Bk

namespace Bk
open PySem PySem.Spec PyProof.Rows L2
theorem exAll_at {K : PySem.W.Frag} {cs : List Addr} (h : exAll K cs = true) (i j : Nat) (hj : j < cs.length) (hi : i < j) : PySem.W.exmOne K (.ref (cs.getD j 0)) (.ref (cs.getD i 0)) = some false := by
  unfold exAll at h
  have h1 := List.all_eq_true.mp h j (List.mem_range.mpr hj)
  exact of_decide_eq_true (List.all_eq_true.mp h1 i (List.mem_range.mpr hi))
end Bk

namespace Bk
open PySem PySem.Spec PyProof.Rows L2
/-! ### what stays while the stream moves; pairs of a lot and a thing; dicts of them -/
section
variable {K : PySem.W.Frag} {H H' : Hp} {st c : Addr} {n : Nat}
theorem FrV.kept {v : V} {q : Rat} (h : FrV K H v q) (S : Strm H st c n) (k : Kept st c H H') : FrV K H' v q := by
  obtain ⟨a, rfl, (h | ⟨o, h⟩) | h⟩ := h
  · exact ⟨a, rfl, .inl (.inl (S.hold k h (fun _ z => nomatch z)))⟩
  · exact ⟨a, rfl, .inl (.inr ⟨o, S.hold k h (fun _ z => nomatch z)⟩)⟩
  · exact ⟨a, rfl, .inr h⟩
theorem FrTab.kept {ks : List (List Key × V)} {qs : List (List Key × Rat)} (h : FrTab K H ks qs) (S : Strm H st c n) (k : Kept st c H H') : FrTab K H' ks qs := Paired.mono (fun _ _ ⟨a, b⟩ => ⟨a, b.kept S k⟩) h
theorem StoreAt.kept {CF CS s x : Addr} {zs : List Str} {ch : Bool} {sz : List Str → Rat} (h : StoreAt K CF CS H s x zs ch sz) (S : Strm H st c n) (k : Kept st c H H') : StoreAt K CF CS H' s x zs ch sz := by
  obtain ⟨ds, td, tb, h1, h2, h3, h4⟩ := h
  exact ⟨ds, td, tb, S.hold k h1 (fun _ z => nomatch z), h2.kept S k, S.hold k h3 (fun _ z => nomatch z), h4.kept S k⟩
theorem Told.imp {α : Type} {Rel : Hp → V → α → Prop} {us : List V} {ls : List α} (t : Told Rel H us ls) (h : ∀ u l, Rel H u l → Rel H' u l) : Told Rel H' us ls := ⟨t.1, fun k u l h1 h2 => h u l (t.2 k u l h1 h2)⟩
theorem told_fr {us : List V} {qs : List Rat} (t : Told (FrV K) H us qs) (S : Strm H st c n) (k : Kept st c H H') : Told (FrV K) H' us qs := t.imp fun _ _ h => h.kept S k
end
theorem paired_of {α : Type} {Rel : Hp → V → α → Prop} {H : Hp} : ∀ {us : List V} {ls : List α}, Told Rel H us ls → Paired (Rel H) us ls
  | [], [], _ => .nil
  | [], _ :: _, t => by cases t.1
  | _ :: _, [], t => by cases t.1
  | u :: r, l :: s, t => .cons (t.2 0 u l rfl rfl) (paired_of ⟨Nat.succ.inj t.1, fun k u l a b => t.2 (k + 1) u l a b⟩)
theorem told_of {α : Type} {Rel : Hp → V → α → Prop} {H : Hp} {us : List V} {ls : List α} (p : Paired (Rel H) us ls) : Told Rel H us ls := by
  induction p with
  | nil => exact .nil
  | @cons a b l1 l2 h t ih =>
    refine ⟨by rw [List.length_cons, List.length_cons, ih.1], fun k u l h1 h2 => ?_⟩
    cases k with
    | zero =>
      cases h1
      cases h2
      exact h
    | succ k => exact ih.2 k u l h1 h2
theorem paired_perm {α β : Type} {F : α → β → Prop} {l1 l1' : List α} (h : l1'.Perm l1) : ∀ {l2 : List β}, Paired F l1 l2 → ∃ l2', l2'.Perm l2 ∧ Paired F l1' l2' := by
  induction h with
  | nil => intro l2 p; exact ⟨l2, .refl _, p⟩
  | cons x _ ih =>
    intro l2 p
    cases p with
    | cons a t =>
      obtain ⟨l, h1, h2⟩ := ih t
      exact ⟨_, h1.cons _, .cons a h2⟩
  | swap x y l =>
    intro l2 p
    cases p with
    | cons a t =>
      cases t with
      | cons b t => exact ⟨_, .swap _ _ _, .cons b (.cons a t)⟩
  | trans _ _ ih1 ih2 =>
    intro l2 p
    obtain ⟨l, h1, h2⟩ := ih2 p
    obtain ⟨m, g1, g2⟩ := ih1 h2
    exact ⟨m, g1.trans h1, g2⟩
theorem told_perm {α : Type} {Rel : Hp → V → α → Prop} {H : Hp} {us ys : List V} {ls : List α} (t : Told Rel H us ls) (h : ys.Perm us) : ∃ ls', ls'.Perm ls ∧ Told Rel H ys ls' := by
  obtain ⟨l, h1, h2⟩ := paired_perm h (paired_of t)
  exact ⟨l, h1, told_of h2⟩
/-- a pair of a lot's tuple and a thing -/
def PairV (H : Hp) (u : V) (e : List Str × V) : Prop := ∃ p b : Addr, u = .ref p ∧ H p = some (.tup [.ref b, e.2]) ∧ H b = some (.tup (e.1.map V.str))
theorem stays_pairV : Stays PairV := ⟨fun H1 H2 u l e => by
  rintro ⟨p, b, rfl, h1, h2⟩
  exact ⟨p, b, rfl, e _ _ h1, e _ _ h2⟩, fun H1 D as bs u l hD => by
  rintro ⟨p, b, rfl, h1, h2⟩
  exact ⟨p, b, rfl, by rw [upd_ne (ne_of h1 hD (fun z => nomatch z))]; exact h1, by rw [upd_ne (ne_of h2 hD (fun z => nomatch z))]; exact h2⟩⟩
theorem PairV.kept {H H' : Hp} {st c : Addr} {n : Nat} {u : V} {e : List Str × V} (h : PairV H u e) (S : Strm H st c n) (k : Kept st c H H') : PairV H' u e := by
  obtain ⟨p, b, rfl, h1, h2⟩ := h
  exact ⟨p, b, rfl, S.hold k h1 (fun _ z => nomatch z), S.hold k h2 (fun _ z => nomatch z)⟩
theorem told_pairsV {H : Hp} : ∀ {es : List (List Str × V)} {us : List V}, Told PairV H us es → ∃ ps : List Addr, us = ps.map V.ref ∧ Paired (fun p kv => ∃ b, H p = some (.tup [.ref b, kv.2]) ∧ H b = some (.tup (kv.1.map kV))) ps (es.map fun e => ((e.1.map Sum.inr : List Key), e.2))
  | [], [], _ => ⟨[], rfl, .nil⟩
  | [], _ :: _, t => by cases t.1
  | _ :: _, [], t => by cases t.1
  | e :: r, u :: us, t => by
    obtain ⟨p, b, rfl, h1, h2⟩ := t.2 0 u e rfl rfl
    obtain ⟨ps, rfl, hp⟩ := told_pairsV (es := r) (us := us) ⟨Nat.succ.inj t.1, fun k u l a b => t.2 (k + 1) u l a b⟩
    exact ⟨p :: ps, rfl, .cons ⟨b, h1, by rw [str_key]; exact h2⟩ hp⟩
theorem merge_fresh : ∀ (kvs done : List (List Key × V)), ((done ++ kvs).map (·.1)).Nodup → mergeT done kvs = done ++ kvs
  | [], done, _ => by rw [List.append_nil]; rfl
  | p :: r, done, h => by
    have h2 : (((done ++ [p]) ++ r).map (·.1)).Nodup := by rw [List.append_assoc]; exact h
    have hl : p.1 ∉ done.map (·.1) := fun m => by
      rw [List.map_append, List.nodup_append] at h
      exact h.2.2 _ m _ List.mem_cons_self rfl
    have e := merge_fresh r _ h2
    rw [List.append_assoc] at e
    show mergeT (putK done p.1 p.2) r = _
    rw [putK_fresh hl]
    exact e
theorem ex_fun {α : Type} (z : α) : ∀ {ls : List (List Str)} {ns : List α}, ls.Nodup → ns.length = ls.length → ∃ f : List Str → α, ls.map f = ns ∧ ∀ l, f l = z ∨ f l ∈ ns
  | [], [], _, _ => ⟨fun _ => z, rfl, fun _ => .inl rfl⟩
  | [], _ :: _, _, h => nomatch h
  | _ :: _, [], _, h => nomatch h
  | l :: r, n :: t, nd, h => by
    obtain ⟨h1, h2⟩ := List.nodup_cons.mp nd
    obtain ⟨f, hf, hb⟩ := ex_fun z (ls := r) (ns := t) h2 (Nat.succ.inj h)
    refine ⟨fun m => if m = l then n else f m, ?_, fun m => ?_⟩
    · rw [List.map_cons, if_pos rfl, ← hf]
      congr 1
      exact List.map_congr_left fun m hm => if_neg fun (y : m = l) => h1 (y ▸ hm)
    · show (if m = l then n else f m) = z ∨ (if m = l then n else f m) ∈ n :: t
      by_cases c : m = l
      · rw [if_pos c]
        exact .inr List.mem_cons_self
      · rw [if_neg c]
        exact (hb m).imp id fun y => List.mem_cons_of_mem _ y
/-- a comprehension over zip of two lists, whatever its tests do to others -/
theorem lcZL {K : PySem.W.Frag} {i j : Nat} {a b : Addr} {xs ys : List V} {g : TG} {tt : TT} {te : TE} {vs : List Nat} {σ : L2.St} {H : Hp} {Q : VK} (hv1 : σ[i]? = some (some (.ref a))) (hv2 : σ[j]? = some (some (.ref b)))
    (h1 : SqL K H a xs) (h2 : SqL K H b ys) (hl : xs.length = ys.length)
    (h : ∀ D, H D = none → ∃ Pv : Nat → Hp → Prop, Pv 0 (upd H D (.lst [])) ∧ (∀ k H', Pv k H' → SqL K H' a xs ∧ SqL K H' b ys) ∧
      (∀ k v H' H2, k < xs.length → Pv k H' → YPair (fun i => xs[i]?) (fun i => ys[i]?) k H' v H2 → g v (wipe σ vs) H2 fun σ2 H3 => wipe σ2 vs = wipe σ vs ∧ tt σ2 H3 fun b H4 =>
        if b = true then te σ2 H4 fun y H5 => ∃ acc, H5 D = some (.lst acc) ∧ acc.length < sizeLine ∧ Pv (k + 1) (upd H5 D (.lst (acc ++ [y]))) else Pv (k + 1) H4) ∧
      ∀ H', Pv xs.length H' → Q (.ref D) H') : tLc (RZ.iZipA K (tCons (tVar i) (tCons (tVar j) tNil))) g tt te vs σ H Q := by
  have hm : xs.length = min xs.length ys.length := by omega
  refine ⟨_, hv1, _, hv2, a, b, xs, ys, rfl, .inl ⟨h1, h2, fun D nD => ?_⟩⟩
  obtain ⟨Pv, p0, ps, pt, pd⟩ := h D nD
  exact lc_it (walk_zip hm) Pv p0 (fun k H' _ p => ps k H' p) pt pd
theorem lots_144 {ch : Bool} {zs : List Str} (h : zs.length ≤ mostFor ch) : (lotsFor ch zs).length ≤ 144 := by
  cases ch with
  | true =>
    have h : zs.length ≤ 12 := h
    have := flatMap_len (f := longRows zs) (m := 12) (l := List.range zs.length) fun x _ => by rw [longRows_len]; omega
    rw [List.length_range] at this
    show (chainLots zs).length ≤ 144
    unfold chainLots
    omega
  | false =>
    have h : zs.length ≤ 5 := h
    have := rows_few zs.length (by omega)
    show (lotsOf zs).length ≤ 144
    unfold lotsOf
    rw [List.length_map]
    omega
theorem rows_16 : ∀ n, n < 5 → (lotRows n).length ≤ 16 := by decide +kernel
theorem lots_16 {ch : Bool} {zs : List Str} (h : zs.length ≤ 4) : (lotsFor ch zs).length ≤ 16 := by
  cases ch with
  | true =>
    have := flatMap_len (f := longRows zs) (m := 4) (l := List.range zs.length) fun x _ => by rw [longRows_len]; omega
    rw [List.length_range] at this
    show (chainLots zs).length ≤ 16
    unfold chainLots
    omega
  | false =>
    have := rows_16 zs.length (by omega)
    show (lotsOf zs).length ≤ 16
    unfold lotsOf
    rw [List.length_map]
    omega
theorem pairB_ok {K : PySem.W.Frag} {a : Addr} (h : pairB K a = true) (H : Hp) : SqT K H a (pairQ 0) := by
  unfold pairB at h
  split at h
  · rename_i c dd its n sl e
    obtain ⟨h1, h2⟩ := Bool.and_eq_true_iff.mp h
    have h1 := of_decide_eq_true h1
    subst h1
    split at h2
    · rename_i i t j u e2
      obtain ⟨h3, h4⟩ := Bool.and_eq_true_iff.mp h2
      have h3 := of_decide_eq_true h3
      have h4 := of_decide_eq_true h4
      subst h3 h4
      have hl : its.size = 2 := by
        have := congrArg List.length e2
        simpa using this
      refine .inr ⟨_, its, n, e, rfl, rfl, by rw [hl, sizeLine_eq]; omega, ?_⟩
      rw [e2]
      exact .cons ⟨_, rfl⟩ (.cons ⟨_, rfl⟩ .nil)
    · cases h2
  · cases h
end Bk

/-! a lambda without parameters handed to a def that calls it where errors are caught, their context told -/
namespace Bk
open PySem PySem.Spec PyProof.Rows L2 LamX
/-- the lambda's context: errors leave it with their context told -/
def lamN (X : Cx) (A : Around) (outer : List Env) (s : Shared) (H : Hp) (E : XK) (scope : Scope) (f c' : Addr) : Cx :=
  (lamCx X A outer s H E0 scope f c').tr [] fun e s' => wpAny (model X.prog X.w) (A.deeper (lamEnv X scope s.heap.objs.size f c')) (leaving (lamEnv X scope s.heap.objs.size f c') e)
    (fun _ t => L2N.CX X.prog X.w outer H s E e t) (fun u t => L2N.CX X.prog X.w outer H s E u t) s'
section
variable {X : Cx} {pins : List (Addr × Obj)} {σ : L2.St} {H : Hp} {s : Shared}
/-- the call of the parameter that holds the lambda -/
theorem act_n {Z : Cx} {f c' : Addr} {pm ctv : Value} {params : Arguments} {body : Expr} {scope : Scope} {k i : Nat} {a : Str} {E : L2.St → XK} {tb : XK → TE} {p1 p2 : Pos} {N' : List Str} {x' : Str} {sg : Scope} {g : Addr} {cdg : Value} {pn : List (Addr × Obj)} {xe : Value → Shared → Prop}
    (hZ : Z = (cxOf CX0 X.prog X.w X.K X.mg X.base N' x' sg g cdg X.A X.stack s H E0).tr pn xe)
    (I : Inv X pins σ H s) (L : LamS X.env.scope scope) (hf : s.heap.get? f = some (PySem.W.kla_obj "<lambda>" (X.env.qual ++ "<lambda>") params body scope (cloFrom X.env.cells scope.names []) pm c' ctv)) (hfn : H f = none) (hfr : f ∉ frs X.stack)
    (hbind : bindArgs (PySem.W.kla_fn "<lambda>" (X.env.qual ++ "<lambda>") params body scope (cloFrom X.env.cells scope.names []) pm (.ref c') ctv) ⟨[], []⟩ = pure [])
    (hx : ∀ τ, PassesAt (L2N.CX X.prog X.w) Z τ (E τ)) (hr : Room (k + 1) (X.A.deeper (envOfC x' sg s.heap.objs.size g cdg)))
    (hbody : ∀ (A : Around) (outer : List Env) (s : Shared) (H : Hp) (E : XK), Room k (A.deeper (lamEnv X scope s.heap.objs.size f c')) → PE (lamN X A outer s H E scope f c') body (tb E))
    (hN : N'[i]? = some a) (hv : Vis sg a) (hd : (a == ("__debug__" : Str)) = false) (hcd : (a == ("__classdict__" : Str)) = false) :
    PE Z (.Call (.Name a p1) [] [] p2) (fun σZ HZ Q => σZ[i]? = some (some (.ref f)) ∧ HZ c' = some (CodeO c' (X.env.qual ++ "<lambda>")) ∧ tb (E σZ) σ HZ Q) := by
  subst hZ
  constructor
  rintro pinsZ sZ σZ HZ Q IZ ⟨hs, hc, ht⟩
  refine wpAny_Call_Name_kw (thn ((pe_var (pos := p1) (i := i) hN hv hd hcd).run pinsZ sZ σZ HZ (fun v H1 => v = .ref f ∧ H1 = HZ) IZ ⟨.ref f, hs, rfl, rfl⟩) ?_)
  rintro u t ⟨v, H1, I1, r1, ev, eH⟩
  subst ev
  rw [eH] at I1
  obtain rfl : u = Value.ref f := r1
  have at1 : t.heap.get? f = some (PySem.W.kla_obj "<lambda>" (X.env.qual ++ "<lambda>") params body scope (cloFrom X.env.cells scope.names []) pm c' ctv) :=
    I1.base.keep f _ hf hfn hfr (fun z => nomatch (show f ∈ ([] : List Addr) from z))
  refine PySem.W.callWith_F0 ⟨_, _, _, _, at1⟩ ?_
  have un : Un (frs X.stack) [] H HZ s.heap t.heap := I1.base
  obtain ⟨⟨oc, vs, tt, hoc, hdc, hvc⟩, _, _⟩ := I1.hok c' _ hc
  have code : codeAny (model X.prog X.w) (X.A.deeper (envOfC x' sg s.heap.objs.size g cdg)) (.call (.ref f) ⟨[], []⟩) (CR (L2N.CX X.prog X.w) (envOfC x' sg s.heap.objs.size g cdg :: X.stack) X.prog X.w HZ t Q (E σZ)) t := by
    refine PySem.W.kla_callFunE hr.depth at1 rfl L.co L.gen rfl ⟨c', oc, vs, tt, rfl, hoc, hdc, hvc⟩ ?_
    rw [hbind]
    refine wpAny_pure (wpAny_newFunctionEnv (fun y hy => (L.own y hy).2) (fun y hy => absurd hy (by simp)) (fun h₁ hns hsb => ⟨I1.nolimit.fresh _ hsb, ?_⟩) L.kind)
    show codeAny _ _ (.expr body (lamEnv X scope t.heap.objs.size f c')) _ _
    have kp : ∀ b o, t.heap.get? b = some o → h₁.get? b = some o := fun b o e => hsb.extBut b o (Nat.ne_of_lt (Heap.lt_size e)) (Heap.get?_push_of_some _ e)
    have J0 := lam_start2 (f := f) (c' := c') (E := E0) (tk := t.toks + ([] : List (Str × Value)).length) I L I1.env0 hr.hd un hns kp
    have J : Inv (lamN X (X.A.deeper (envOfC x' sg s.heap.objs.size g cdg)) (envOfC x' sg s.heap.objs.size g cdg :: X.stack) t HZ (E σZ) scope f c') [] σ HZ { t with heap := h₁, toks := t.toks + ([] : List (Str × Value)).length } := J0.toTry _
    refine PySem.W.kla_codeExpr (wpAny_mono ((hbody _ _ t HZ (E σZ) (hr.deeper _)).run [] _ _ HZ Q J ht) ?_ fun e s' hq => hq)
    rintro v s' ⟨w', H', J', rv, q⟩
    exact ⟨w', H', J'.os, J'.bare, J'.base, J'.hok, rv, q⟩
  refine wpAny_call (codeAny_mono code fun r s' hq => ?_)
  match r, hq with
  | .error e, hq => exact hx σZ pinsZ HZ t e s' I1 hq
  | .ok (.ret u), hq => exact I1.after hq
  | .ok .next, hq => exact hq.elim
  | .ok .brk, hq => exact hq.elim
  | .ok .cont, hq => exact hq.elim
end
/-- what the def that got the lambda at its first place makes of it -/
def GivesN (X : Cx) (N' : List Str) (x : Str) (sg : Scope) (g : Addr) (cdg : Value) (bg : List Stmt) (a q : Str) (k : Nat) (TT : (XK → Hp → VK → Prop) → Hp → VK → Prop) : Prop :=
  ∀ (f c' : Addr) (s : Shared) (H : Hp) (Q : VK) (tl : XK → Hp → VK → Prop), Room (k + 1) (X.A.deeper (envOfC x sg s.heap.objs.size g cdg)) →
    (∀ (W : WX) (pn : List (Addr × Obj)) (xe : Value → Shared → Prop) (p1 p2 : Pos), L2N.Takes ((cxOf CX0 X.prog X.w X.K X.mg X.base N' x sg g cdg X.A X.stack s H E0).tr pn xe) W →
      PE ((cxOf CX0 X.prog X.w X.K X.mg X.base N' x sg g cdg X.A X.stack s H E0).tr pn xe) (.Call (.Name a p1) [] [] p2) (fun σZ HZ Q => σZ[0]? = some (some (.ref f)) ∧ HZ c' = some (CodeO c' q) ∧ tl (WE W σZ) HZ Q)) →
    H c' = some (CodeO c' q) → TT tl H Q →
    ∃ t, PSs (cxOf CX0 X.prog X.w X.K X.mg X.base N' x sg g cdg X.A X.stack s H E0).nox bg t ∧ t { nx := fun _ H' => Q .non H', rt := Q } (L2.start N' [.ref f]) H
section
variable {X : Cx}
/-- x(lambda: body) -/
theorem pe_giveN {T : List (Addr × Str)} {TT : (XK → Hp → VK → Prop) → Hp → VK → Prop} {x a : Str} {g c P0 : Addr} {k : Nat} {st : Stmt} {fd : FuncData} {N' : List Str}
    {params : Arguments} {body : Expr} {scope : Scope} {t : XK → TE} {p lpos pos : Pos} (F : Fun X.K x x st g fd) (hg : Gl X x) (hm : X.mg x = some (.ref g)) (hb : Binds X.K fd [a] []) (Sg : FnScope N' [a] (defScope st)) (hN : N'[0]? = some a) (hva : Vis (defScope st) a)
    (hG : ∀ cdv, GivesN X N' x (defScope st) g cdv (defBody st) a (X.env.qual ++ "<lambda>") k TT)
    (TB : TabB X.base X.mg c P0) (hcode : X.env.code = .ref c) (hmT : (P0, X.env.qual ++ "<lambda>") ∈ T) (hu : ∀ p ∈ T, p.1 = P0 → p.2 = X.env.qual ++ "<lambda>") (hr : Room (k + 2) X.A) (L : LamS X.env.scope scope) (hdef : defaultsOf params X.env = ([], []))
    (hbind : ∀ (q : Str) (cl : List (Str × Addr)) (pm cv ctv : Value), bindArgs (PySem.W.kla_fn "<lambda>" q params body scope cl pm cv ctv) ⟨[], []⟩ = pure [])
    (hbody : ∀ (A : Around) (outer : List Env) (s : Shared) (H : Hp) (E : XK) (f c' : Addr), Room k (A.deeper (lamEnv X scope s.heap.objs.size f c')) → PE (lamN X A outer s H E scope f c') body (t E))
    (hdb : (x == ("__debug__" : Str)) = false := by decide) (hd : (a == ("__debug__" : Str)) = false := by decide) (hcd : (a == ("__classdict__" : Str)) = false := by decide) :
    PE X (.Call (.Name x p) [.Lambda params body scope lpos] [] pos) (tLam T TT t) := by
  constructor
  rintro pins s σ H Q I ⟨hT, h⟩
  have kp := F.kp
  obtain ⟨_, _, _, _, _, _, cdv, _, _, rfl, lk, hcg⟩ := F.ex
  refine wpAny_Call_Name_kw (ld_glob I hg hm ?_ hdb)
  refine PySem.W.callWith_K (h₀ := X.base) I.ok.mod.kin kp ?_ (by rfl) (by rfl)
  show wpAny _ _ (spliced ((false, eval (.Lambda params body scope lpos) X.env) :: backTo pos (starEach [] X.env))) _ _ s
  refine Calls.spliced_cons (lam_make2 I TB hcode hmT hu hT hdef (L.has I.ok) ?_)
  intro f c' pm' ctv H1 s' I1 eN T1 hf hfn hfr hco
  refine Calls.spliced_nil ⟨I1.kIn, ?_⟩
  have code : codeAny (model X.prog X.w) X.A (.call (.ref g) ⟨[.ref f], []⟩) (CR CX0 X.stack X.prog X.w H1 s' Q E0) s' := by
    refine run_ofS (N := N') (ps := [a]) (us := [.ref f]) (vs := [.ref f]) lk hcg Sg hr I1.env0 (hb s' [.ref f] I1.kIn rfl) (.cons rfl .nil) rfl fun hr' => ?_
    obtain ⟨t', ht', hq'⟩ := hG cdv f c' s' H1 Q (fun E H' Q' => t E σ H' Q') hr' (fun W pn xe p1 p2 tk => act_n (i := 0) (E := fun τ => WE W τ) (tb := t) rfl I1 L hf hfn hfr (hbind _ _ _ _ _) (fun τ => L2N.passAt tk τ) hr' (fun A outer s H E hr2 => hbody A outer s H E f c' hr2) hN hva hd hcd) hco (h H1 eN T1)
    exact ⟨t', ht'.nox, hq'⟩
  refine wpAny_call (codeAny_mono code fun r s2 hq => ?_)
  match r, hq with
  | .error e, hq => exact (show False from hq).elim
  | .ok (.ret u), hq => exact I1.after hq
  | .ok .next, hq => exact hq.elim
  | .ok .brk, hq => exact hq.elim
  | .ok .cont, hq => exact hq.elim
end
end Bk

/-! try: .. / except A: .. / except B as n: .. , the errors' context told; each error is of A or of B -/
namespace Bk
open PySem PySem.Spec PyProof.Rows L2
/-- what such a try asks of an error that reaches it -/
def wTwo (K : PySem.W.Frag) (c1 c2 : Value) (i : Nat) (t1 t2 : Addr → Value → Option Addr → TS) (D : Ends) : WX := fun cls d σ H =>
  (PySem.W.exmOne K cls c1 = some true ∧ ∀ a, H a = none → t1 a cls d D σ H) ∨
  (PySem.W.exmOne K cls c1 = some false ∧ PySem.W.exmOne K cls c2 = some true ∧ ∀ a, H a = none →
    t2 a cls d { nx := fun τ G => D.nx (τ.set i none) G, rt := D.rt, bk := fun τ G => D.bk (τ.set i none) G, ct := fun τ G => D.ct (τ.set i none) G } (σ.set i (some (.ref a))) H)
section
variable {X : Cx} {body s1 s2 : List Stmt} {b1 b2 : Stmt} {x1 x2 n : Str} {c1 c2 : Value} {i : Nat} {p1 p2 q1 q2 pos : Pos} {tb : WX → TS} {t1 t2 : Addr → Value → Option Addr → TS}
theorem ps_try_two (hst : X.stack = X.env :: X.outer) (hfm : X.env.frame = some X.env.locals) (hN : X.N.Nodup) (hi : X.N[i]? = some n) (hln : X.env.kindOf n = some .local) (hc1 : Names X x1 c1) (hc2 : Names X x2 c2)
    (hb : ∀ (W : WX) (pn : List (Addr × Obj)) (xe : Value → Shared → Prop), L2N.Takes (X.tr pn xe) W → PassesOwn (model X.prog X.w) X.A X.env xe → PSs (X.tr pn xe) body (tb W))
    (h1 : ∀ (a : Addr) (oe : Obj) (cls : Value) (d : Option Addr) (pn : List (Addr × Obj)), L2N.Zn cls d oe → (∃ vs, oe.data = .fields vs) → PSs (X.suite a ((a, oe) :: pn)) (b1 :: s1) (t1 a cls d))
    (h2 : ∀ (a : Addr) (oe : Obj) (cls : Value) (d : Option Addr) (pn : List (Addr × Obj)), L2N.Zn cls d oe → (∃ vs, oe.data = .fields vs) → PSs (X.suite a ((a, oe) :: pn)) (b2 :: s2) (t2 a cls d)) :
    PS X (.Try body [.ExceptHandler (some (.Name x1 p1)) none (b1 :: s1) q1, .ExceptHandler (some (.Name x2 p2)) (some n) (b2 :: s2) q2] [] [] pos) (fun D σ H => tb (wTwo X.K c1 c2 i t1 t2 D) D σ H) := by
  constructor
  intro pins s σ H D I h
  have ok := I.ok
  have frm : X.A.frames = some (X.env :: X.outer) := by rw [ok.frames, hst]
  have loc : Loc X.env.scope n := .inl hln
  refine wpAny_Try_except ?_
  have run := (hb (wTwo X.K c1 c2 i t1 t2 D) (X.pn ++ pins) (fun e z => wpAny (model X.prog X.w) X.A (noteFrame e X.env) (fun _ z => wpAny (model X.prog X.w) X.A (setFlight e none)
    (fun _ z => wpAny (model X.prog X.w) X.A (handleBy e X.env [.ExceptHandler (some (.Name x1 p1)) none (b1 :: s1) q1, .ExceptHandler (some (.Name x2 p2)) (some n) (b2 :: s2) q2]) (SP X pins D) X.xe z) X.xe z) X.xe z) ?_ PassesOwn.looking).run [] s σ H D (I.toTry _) h
  · refine wpAny_mono run (fun f z hz => ?_) fun e z hz => hz
    match f, hz with
    | .next, ⟨τ, G, J, k⟩ => exact wpAny_execs_nil ⟨τ, G, J.ofTry ok, k⟩
    | .brk, ⟨τ, G, J, k⟩ => exact ⟨τ, G, J.ofTry ok, k⟩
    | .cont, ⟨τ, G, J, k⟩ => exact ⟨τ, G, J.ofTry ok, k⟩
    | .ret u, ⟨v, τ, G, J, r, k⟩ => exact ⟨v, τ, G, J.ofTry ok, r, k⟩
  rintro u z ⟨a, B, sI, pins', τ, G, cls, d, rfl, J0, nb, up, sky, na, os, ag, hw⟩
  have J := J0.ofTry ok
  show wpAny (model X.prog X.w) X.A (noteFrame (.ref a) X.env) _ _ _
  refine L2N.Sky.land L2N.Zn.steady frm hfm (hst ▸ sky) fun g fl ug => ?_
  have J1 : Inv X pins τ G { z with heap := g } := J.landed nb fl.1 (up.trans ug) os ag
  obtain ⟨oe, vs, hoe, hzn, hdt⟩ := fl.there
  have away : a ∉ frs (X.env :: X.outer) := fun hm => by
    obtain ⟨_, o', e', hnf⟩ := fl.2.2.1.mem hm
    rw [hoe] at e'
    cases e'
    exact hnf _ hdt
  have nL : a ≠ X.env.locals := fun k => away (List.mem_filterMap.mpr ⟨X.env, List.mem_cons_self, by rw [hfm, k]⟩)
  have nF : a ∉ X.fs := fun hm => by
    obtain ⟨w0, m0, k0⟩ := List.mem_filterMap.mp hm
    exact away (List.mem_filterMap.mpr ⟨w0, List.mem_cons_of_mem _ m0, k0⟩)
  have S1 := J1.suite hoe hdt na nL nF
  have ty : PySem.W.Looks (model X.prog X.w) g (typeOf (.ref a)) cls := fun A Q E s k q => wpAny_typeOf_ref (k _ _ hoe) (hzn.1.symm ▸ q)
  -- the name of a clause
  have nam : ∀ {x : Str} {c : Value} {p : Pos} (_ : Names X x c) {Q E : Value → Shared → Prop}, Q c { z with heap := g } → wpAny (model X.prog X.w) (X.A.mark (some (.ref a))) (eval (.Name x p) X.env) Q E { z with heap := g } := fun {x c p} hc {Q E} k => by
    obtain ⟨g0, db, hm | ⟨hm, hv, hnn⟩⟩ := hc
    · exact ld_glob (X := X.suite a ((a, oe) :: (X.pn ++ pins))) S1 g0 hm k db
    · exact ld_blt (X := X.suite a ((a, oe) :: (X.pn ++ pins))) S1 g0 hm hv k hnn db
  refine wpAny_handleBy_cons (codeAny_handlers_test ?_) (by intro k; cases k)
  rcases hw with ⟨m1, hq⟩ | ⟨m1, m2, hq⟩
  · have M1 := PySem.W.exm_one (M := model X.prog X.w) J1.kIn ty m1
    refine nam hc1 (M1.here ?_)
    refine codeAny_handlers_suite ?_
    refine HandSPX.lands_againZ fl fun g2 fl2 ug2 => ?_
    have J2 : Inv X pins τ G { z with heap := g2 } := J.landed nb fl2.1 ((up.trans ug).trans ug2) os ag
    obtain ⟨oe2, vs2, hoe2, hzn2, hdt2⟩ := fl2.there
    refine wpAny_mono ((h1 a oe2 cls d (X.pn ++ pins) hzn2 ⟨_, hdt2⟩).run [] _ _ G _ (J2.suite hoe2 hdt2 na nL nF) (hq a na)) (fun f t ht => ?_) (fun _ _ k => k.elim)
    match f, ht with
    | .next, ⟨τ2, G2, S2, k⟩ => exact ⟨_, _, S2.unsuite ok, k⟩
    | .brk, ⟨τ2, G2, S2, k⟩ => exact ⟨_, _, S2.unsuite ok, k⟩
    | .cont, ⟨τ2, G2, S2, k⟩ => exact ⟨_, _, S2.unsuite ok, k⟩
    | .ret u, ⟨v2, τ2, G2, S2, r2, k⟩ => exact ⟨_, _, _, S2.unsuite ok, r2, k⟩
  · have M1 := PySem.W.exm_one (M := model X.prog X.w) J1.kIn ty m1
    have M2 := PySem.W.exm_one (M := model X.prog X.w) J1.kIn ty m2
    refine nam hc1 (M1.here ?_)
    show wpAny _ X.A (handleBy (.ref a) X.env [.ExceptHandler (some (.Name x2 p2)) (some n) (b2 :: s2) q2]) _ _ _
    refine wpAny_handleBy_cons (codeAny_handlers_test ?_) (by intro k; cases k)
    refine nam hc2 (M2.here ?_)
    refine codeAny_handlers_suite_as ?_
    refine HandSPX.lands_againZ fl fun g2 fl2 ug2 => ?_
    have J2 : Inv X pins τ G { z with heap := g2 } := J.landed nb fl2.1 ((up.trans ug).trans ug2) os ag
    obtain ⟨oe2, vs2, hoe2, hzn2, hdt2⟩ := fl2.there
    have S2 := J2.suite hoe2 hdt2 na nL nF
    refine store_ok (X := X.suite a ((a, oe2) :: (X.pn ++ pins))) (v := .ref a) S2 hN hi loc rfl (fun t T2 => ?_) (.inr hln)
    refine wpAny_mono ((h2 a oe2 cls d (X.pn ++ pins) hzn2 ⟨_, hdt2⟩).run [] t _ G _ T2 (hq a na)) (fun f t ht => ?_) (fun _ _ k => k.elim)
    have ends : ∀ {τ2 : L2.St} {G2 : Hp} {Q : Shared → Prop}, Inv (X.suite a ((a, oe2) :: (X.pn ++ pins))) [] τ2 G2 t → (∀ t3, Inv X pins (τ2.set i none) G2 t3 → Q t3) → wpAny (model X.prog X.w) X.A (do bindName X.env n .none; unbindBehindTheSuite X.env n q2) (fun _ t3 => Q t3) X.xe t :=
      fun T3 k => gone_ok (T3.unsuite ok) hN hi hln k
    match f, ht with
    | .next, ⟨τ2, G2, T3, k⟩ => exact ends T3 fun t3 J3 => ⟨_, _, J3, k⟩
    | .brk, ⟨τ2, G2, T3, k⟩ => exact ends T3 fun t3 J3 => ⟨_, _, J3, k⟩
    | .cont, ⟨τ2, G2, T3, k⟩ => exact ends T3 fun t3 J3 => ⟨_, _, J3, k⟩
    | .ret u, ⟨v2, τ2, G2, T3, r2, k⟩ => exact ends T3 fun t3 J3 => ⟨_, _, _, J3, r2, k⟩
end
end Bk

/-! try: .. / except A as n: .. / except B: .. , the errors' context told; each error is of A or of B -/
namespace Bk
open PySem PySem.Spec PyProof.Rows L2
/-- what such a try asks of an error that reaches it -/
def wOwn (K : PySem.W.Frag) (c1 c2 : Value) (i : Nat) (t1 t2 : Addr → Value → Option Addr → TS) (D : Ends) : WX := fun cls d σ H =>
  (PySem.W.exmOne K cls c1 = some true ∧ ∀ a, H a = none →
    t1 a cls d { nx := fun τ G => D.nx (τ.set i none) G, rt := D.rt, bk := fun τ G => D.bk (τ.set i none) G, ct := fun τ G => D.ct (τ.set i none) G } (σ.set i (some (.ref a))) H) ∨
  (PySem.W.exmOne K cls c1 = some false ∧ PySem.W.exmOne K cls c2 = some true ∧ ∀ a, H a = none → t2 a cls d D σ H)
section
variable {X : Cx} {body s1 s2 : List Stmt} {b1 b2 : Stmt} {x1 x2 n : Str} {c1 c2 : Value} {i : Nat} {p1 p2 q1 q2 pos : Pos} {tb : WX → TS} {t1 t2 : Addr → Value → Option Addr → TS}
theorem ps_try_own (hst : X.stack = X.env :: X.outer) (hfm : X.env.frame = some X.env.locals) (hN : X.N.Nodup) (hi : X.N[i]? = some n) (hln : X.env.kindOf n = some .local) (hc1 : Names X x1 c1) (hc2 : Names X x2 c2)
    (hb : ∀ (W : WX) (pn : List (Addr × Obj)) (xe : Value → Shared → Prop), L2N.Takes (X.tr pn xe) W → PassesOwn (model X.prog X.w) X.A X.env xe → PSs (X.tr pn xe) body (tb W))
    (h1 : ∀ (a : Addr) (oe : Obj) (cls : Value) (d : Option Addr) (pn : List (Addr × Obj)), L2N.Zn cls d oe → (∃ vs, oe.data = .fields vs) → PSs (X.suite a ((a, oe) :: pn)) (b1 :: s1) (t1 a cls d))
    (h2 : ∀ (a : Addr) (oe : Obj) (cls : Value) (d : Option Addr) (pn : List (Addr × Obj)), L2N.Zn cls d oe → (∃ vs, oe.data = .fields vs) → PSs (X.suite a ((a, oe) :: pn)) (b2 :: s2) (t2 a cls d)) :
    PS X (.Try body [.ExceptHandler (some (.Name x1 p1)) (some n) (b1 :: s1) q1, .ExceptHandler (some (.Name x2 p2)) none (b2 :: s2) q2] [] [] pos) (fun D σ H => tb (wOwn X.K c1 c2 i t1 t2 D) D σ H) := by
  constructor
  intro pins s σ H D I h
  have ok := I.ok
  have frm : X.A.frames = some (X.env :: X.outer) := by rw [ok.frames, hst]
  have loc : Loc X.env.scope n := .inl hln
  refine wpAny_Try_except ?_
  have run := (hb (wOwn X.K c1 c2 i t1 t2 D) (X.pn ++ pins) (fun e z => wpAny (model X.prog X.w) X.A (noteFrame e X.env) (fun _ z => wpAny (model X.prog X.w) X.A (setFlight e none)
    (fun _ z => wpAny (model X.prog X.w) X.A (handleBy e X.env [.ExceptHandler (some (.Name x1 p1)) (some n) (b1 :: s1) q1, .ExceptHandler (some (.Name x2 p2)) none (b2 :: s2) q2]) (SP X pins D) X.xe z) X.xe z) X.xe z) ?_ PassesOwn.looking).run [] s σ H D (I.toTry _) h
  · refine wpAny_mono run (fun f z hz => ?_) fun e z hz => hz
    match f, hz with
    | .next, ⟨τ, G, J, k⟩ => exact wpAny_execs_nil ⟨τ, G, J.ofTry ok, k⟩
    | .brk, ⟨τ, G, J, k⟩ => exact ⟨τ, G, J.ofTry ok, k⟩
    | .cont, ⟨τ, G, J, k⟩ => exact ⟨τ, G, J.ofTry ok, k⟩
    | .ret u, ⟨v, τ, G, J, r, k⟩ => exact ⟨v, τ, G, J.ofTry ok, r, k⟩
  rintro u z ⟨a, B, sI, pins', τ, G, cls, d, rfl, J0, nb, up, sky, na, os, ag, hw⟩
  have J := J0.ofTry ok
  show wpAny (model X.prog X.w) X.A (noteFrame (.ref a) X.env) _ _ _
  refine L2N.Sky.land L2N.Zn.steady frm hfm (hst ▸ sky) fun g fl ug => ?_
  have J1 : Inv X pins τ G { z with heap := g } := J.landed nb fl.1 (up.trans ug) os ag
  obtain ⟨oe, vs, hoe, hzn, hdt⟩ := fl.there
  have away : a ∉ frs (X.env :: X.outer) := fun hm => by
    obtain ⟨_, o', e', hnf⟩ := fl.2.2.1.mem hm
    rw [hoe] at e'
    cases e'
    exact hnf _ hdt
  have nL : a ≠ X.env.locals := fun k => away (List.mem_filterMap.mpr ⟨X.env, List.mem_cons_self, by rw [hfm, k]⟩)
  have nF : a ∉ X.fs := fun hm => by
    obtain ⟨w0, m0, k0⟩ := List.mem_filterMap.mp hm
    exact away (List.mem_filterMap.mpr ⟨w0, List.mem_cons_of_mem _ m0, k0⟩)
  have S1 := J1.suite hoe hdt na nL nF
  have ty : PySem.W.Looks (model X.prog X.w) g (typeOf (.ref a)) cls := fun A Q E s k q => wpAny_typeOf_ref (k _ _ hoe) (hzn.1.symm ▸ q)
  -- the name of a clause
  have nam : ∀ {x : Str} {c : Value} {p : Pos} (_ : Names X x c) {Q E : Value → Shared → Prop}, Q c { z with heap := g } → wpAny (model X.prog X.w) (X.A.mark (some (.ref a))) (eval (.Name x p) X.env) Q E { z with heap := g } := fun {x c p} hc {Q E} k => by
    obtain ⟨g0, db, hm | ⟨hm, hv, hnn⟩⟩ := hc
    · exact ld_glob (X := X.suite a ((a, oe) :: (X.pn ++ pins))) S1 g0 hm k db
    · exact ld_blt (X := X.suite a ((a, oe) :: (X.pn ++ pins))) S1 g0 hm hv k hnn db
  refine wpAny_handleBy_cons (codeAny_handlers_test ?_) (by intro k; cases k)
  rcases hw with ⟨m1, hq⟩ | ⟨m1, m2, hq⟩
  · have M1 := PySem.W.exm_one (M := model X.prog X.w) J1.kIn ty m1
    refine nam hc1 (M1.here ?_)
    refine codeAny_handlers_suite_as ?_
    refine HandSPX.lands_againZ fl fun g2 fl2 ug2 => ?_
    have J2 : Inv X pins τ G { z with heap := g2 } := J.landed nb fl2.1 ((up.trans ug).trans ug2) os ag
    obtain ⟨oe2, vs2, hoe2, hzn2, hdt2⟩ := fl2.there
    have S2 := J2.suite hoe2 hdt2 na nL nF
    refine store_ok (X := X.suite a ((a, oe2) :: (X.pn ++ pins))) (v := .ref a) S2 hN hi loc rfl (fun t T2 => ?_) (.inr hln)
    refine wpAny_mono ((h1 a oe2 cls d (X.pn ++ pins) hzn2 ⟨_, hdt2⟩).run [] t _ G _ T2 (hq a na)) (fun f t ht => ?_) (fun _ _ k => k.elim)
    have ends : ∀ {τ2 : L2.St} {G2 : Hp} {Q : Shared → Prop}, Inv (X.suite a ((a, oe2) :: (X.pn ++ pins))) [] τ2 G2 t → (∀ t3, Inv X pins (τ2.set i none) G2 t3 → Q t3) → wpAny (model X.prog X.w) X.A (do bindName X.env n .none; unbindBehindTheSuite X.env n q1) (fun _ t3 => Q t3) X.xe t :=
      fun T3 k => gone_ok (T3.unsuite ok) hN hi hln k
    match f, ht with
    | .next, ⟨τ2, G2, T3, k⟩ => exact ends T3 fun t3 J3 => ⟨_, _, J3, k⟩
    | .brk, ⟨τ2, G2, T3, k⟩ => exact ends T3 fun t3 J3 => ⟨_, _, J3, k⟩
    | .cont, ⟨τ2, G2, T3, k⟩ => exact ends T3 fun t3 J3 => ⟨_, _, J3, k⟩
    | .ret u, ⟨v2, τ2, G2, T3, r2, k⟩ => exact ends T3 fun t3 J3 => ⟨_, _, _, J3, r2, k⟩
  · have M1 := PySem.W.exm_one (M := model X.prog X.w) J1.kIn ty m1
    have M2 := PySem.W.exm_one (M := model X.prog X.w) J1.kIn ty m2
    refine nam hc1 (M1.here ?_)
    show wpAny _ X.A (handleBy (.ref a) X.env [.ExceptHandler (some (.Name x2 p2)) none (b2 :: s2) q2]) _ _ _
    refine wpAny_handleBy_cons (codeAny_handlers_test ?_) (by intro k; cases k)
    refine nam hc2 (M2.here ?_)
    refine codeAny_handlers_suite ?_
    refine HandSPX.lands_againZ fl fun g2 fl2 ug2 => ?_
    have J2 : Inv X pins τ G { z with heap := g2 } := J.landed nb fl2.1 ((up.trans ug).trans ug2) os ag
    obtain ⟨oe2, vs2, hoe2, hzn2, hdt2⟩ := fl2.there
    refine wpAny_mono ((h2 a oe2 cls d (X.pn ++ pins) hzn2 ⟨_, hdt2⟩).run [] _ _ G _ (J2.suite hoe2 hdt2 na nL nF) (hq a na)) (fun f t ht => ?_) (fun _ _ k => k.elim)
    match f, ht with
    | .next, ⟨τ2, G2, S2, k⟩ => exact ⟨_, _, S2.unsuite ok, k⟩
    | .brk, ⟨τ2, G2, S2, k⟩ => exact ⟨_, _, S2.unsuite ok, k⟩
    | .cont, ⟨τ2, G2, S2, k⟩ => exact ⟨_, _, S2.unsuite ok, k⟩
    | .ret u, ⟨v2, τ2, G2, S2, r2, k⟩ => exact ⟨_, _, _, S2.unsuite ok, r2, k⟩
end
end Bk

/-! e[i] where e is an instance whose class says __getitem__; try with any list of clauses, named or bare -/
namespace Bk
open PySem PySem.Spec PyProof.Rows L2
section
variable {X : Cx} {CX : CXT} {n : Nat} {C f : Addr} {fd : FuncData} {ps : List Str} {sp : Sp} {E : XK} {o i : Expr} {pos : Pos} {to ti : TE}
def tGetOwn (C : Addr) (sp : Sp) (E : XK) (to ti : TE) : TE := fun σ H Q => to σ H fun x H1 => ti σ H1 fun y H2 => ∃ (a dx : Addr) (fs : List (Str × V)), x = .ref a ∧ H2 a = some (.ins C dx fs) ∧ sp [.ref a, y] H2 Q E
theorem pe_getOwn (F : FnOk X.prog X.w X.K X.mg X.base CX n f fd ps sp) (hb : Binds X.K fd ps []) (hx : Passes CX X E) (hr : Room (n + 1) X.A) (m : Own X.K C "__getitem__" f) (fi : PySem.W.fnIn X.K f = true) (ho : PE X o to) (hi : PE X i ti)
    (hsl : ∀ (a : Addr) (y : Value), subscripted i true (.ref a) y = runValue (.builtin "lifetime.subscript" ⟨[.ref a, y], []⟩) := by intro _ _; rfl) : PE X (.Subscript o i pos) (tGetOwn C sp E to ti) := by
  refine ⟨fun pins s σ H Q I h => ?_⟩
  refine Subscript_ (wpAny_mono (ho.run pins s σ H _ I h) (fun u s1 h1 => ?_) fun _ _ z => z)
  obtain ⟨x, H1, I1, rx, q1⟩ := h1
  refine wpAny_mono (hi.run pins s1 σ H1 _ I1 q1) (fun v s2 h2 => ?_) fun _ _ z => z
  obtain ⟨y, H2, I2, ry, a, dx, fs, rfl, ha, hs⟩ := h2
  obtain rfl : u = Value.ref a := rx
  have sb : Sub X (n + 1) X.A := ⟨hr, rfl⟩
  obtain ⟨mA, J, _⟩ := ins_get I2.hok ha
  obtain ⟨od, J, _⟩ := J.look
  obtain ⟨_, hF⟩ := I2.fr
  exact PySem.W.sub_K hF I2.ok.mod.kin J m.at_ fi m.fn (own_run (vs := [.ref a, y]) F hb hx sb.in1 I2 (.cons rfl (.cons ry .nil)) hs) (hsl a v)
end
/-- what such a try asks of an error that reaches it -/
def wList (K : PySem.W.Frag) (D : Ends) : List (Value × Option Nat × (Addr → Value → Option Addr → TS)) → WX
  | [] => fun _ _ _ _ => False
  | (c, oi, ts) :: r => fun cls d σ H =>
    (PySem.W.exmOne K cls c = some true ∧ ∀ a, H a = none → match oi with
      | none => ts a cls d D σ H
      | some i => ts a cls d { nx := fun τ G => D.nx (τ.set i none) G, rt := D.rt, bk := fun τ G => D.bk (τ.set i none) G, ct := fun τ G => D.ct (τ.set i none) G } (σ.set i (some (.ref a))) H) ∨
    (PySem.W.exmOne K cls c = some false ∧ wList K D r cls d σ H)
inductive HdsN (X : Cx) : List ExceptHandler → List (Value × Option Nat × (Addr → Value → Option Addr → TS)) → Prop
  | nil : HdsN X [] []
  | bare {x : Str} {c : Value} {np pos' : Pos} {b₀ : Stmt} {suite : List Stmt} {ts : Addr → Value → Option Addr → TS} {hds : List ExceptHandler} {l : List (Value × Option Nat × (Addr → Value → Option Addr → TS))} (hc : Names X x c)
      (hs : ∀ (a : Addr) (oe : Obj) (cls : Value) (d : Option Addr) (pn : List (Addr × Obj)), L2N.Zn cls d oe → (∃ vs, oe.data = .fields vs) → PSs (X.suite a ((a, oe) :: pn)) (b₀ :: suite) (ts a cls d)) (r : HdsN X hds l) :
      HdsN X (.ExceptHandler (some (.Name x np)) none (b₀ :: suite) pos' :: hds) ((c, none, ts) :: l)
  | named {x n : Str} {c : Value} {i : Nat} {np pos' : Pos} {b₀ : Stmt} {suite : List Stmt} {ts : Addr → Value → Option Addr → TS} {hds : List ExceptHandler} {l : List (Value × Option Nat × (Addr → Value → Option Addr → TS))} (hi : X.N[i]? = some n) (hln : X.env.kindOf n = some .local) (hc : Names X x c)
      (hs : ∀ (a : Addr) (oe : Obj) (cls : Value) (d : Option Addr) (pn : List (Addr × Obj)), L2N.Zn cls d oe → (∃ vs, oe.data = .fields vs) → PSs (X.suite a ((a, oe) :: pn)) (b₀ :: suite) (ts a cls d)) (r : HdsN X hds l) :
      HdsN X (.ExceptHandler (some (.Name x np)) (some n) (b₀ :: suite) pos' :: hds) ((c, some i, ts) :: l)
section
variable {X : Cx} {body : List Stmt} {h₀ : ExceptHandler} {hds : List ExceptHandler} {pos : Pos} {tb : WX → TS} {l : List (Value × Option Nat × (Addr → Value → Option Addr → TS))}
theorem ps_try_list (hst : X.stack = X.env :: X.outer) (hfm : X.env.frame = some X.env.locals) (hN : X.N.Nodup)
    (hb : ∀ (W : WX) (pn : List (Addr × Obj)) (xe : Value → Shared → Prop), L2N.Takes (X.tr pn xe) W → PassesOwn (model X.prog X.w) X.A X.env xe → PSs (X.tr pn xe) body (tb W))
    (hh : HdsN X (h₀ :: hds) l) : PS X (.Try body (h₀ :: hds) [] [] pos) (fun D σ H => tb (wList X.K D l) D σ H) := by
  constructor
  intro pins s σ H D I h
  have ok := I.ok
  have frm : X.A.frames = some (X.env :: X.outer) := by rw [ok.frames, hst]
  refine wpAny_Try_except ?_
  have run := (hb (wList X.K D l) (X.pn ++ pins) (fun e z => wpAny (model X.prog X.w) X.A (noteFrame e X.env) (fun _ z => wpAny (model X.prog X.w) X.A (setFlight e none)
    (fun _ z => wpAny (model X.prog X.w) X.A (handleBy e X.env (h₀ :: hds)) (SP X pins D) X.xe z) X.xe z) X.xe z) ?_ PassesOwn.looking).run [] s σ H D (I.toTry _) h
  · refine wpAny_mono run (fun f z hz => ?_) fun e z hz => hz
    match f, hz with
    | .next, ⟨τ, G, J, k⟩ => exact wpAny_execs_nil ⟨τ, G, J.ofTry ok, k⟩
    | .brk, ⟨τ, G, J, k⟩ => exact ⟨τ, G, J.ofTry ok, k⟩
    | .cont, ⟨τ, G, J, k⟩ => exact ⟨τ, G, J.ofTry ok, k⟩
    | .ret u, ⟨v, τ, G, J, r, k⟩ => exact ⟨v, τ, G, J.ofTry ok, r, k⟩
  rintro u z ⟨a, B, sI, pins', τ, G, cls, d, rfl, J0, nb, up, sky, na, os, ag, hw⟩
  have J := J0.ofTry ok
  show wpAny (model X.prog X.w) X.A (noteFrame (.ref a) X.env) _ _ _
  refine L2N.Sky.land L2N.Zn.steady frm hfm (hst ▸ sky) fun g fl ug => ?_
  have J1 : Inv X pins τ G { z with heap := g } := J.landed nb fl.1 (up.trans ug) os ag
  obtain ⟨oe, vs, hoe, hzn, hdt⟩ := fl.there
  have away : a ∉ frs (X.env :: X.outer) := fun hm => by
    obtain ⟨_, o', e', hnf⟩ := fl.2.2.1.mem hm
    rw [hoe] at e'
    cases e'
    exact hnf _ hdt
  have nL : a ≠ X.env.locals := fun k => away (List.mem_filterMap.mpr ⟨X.env, List.mem_cons_self, by rw [hfm, k]⟩)
  have nF : a ∉ X.fs := fun hm => by
    obtain ⟨w0, m0, k0⟩ := List.mem_filterMap.mp hm
    exact away (List.mem_filterMap.mpr ⟨w0, List.mem_cons_of_mem _ m0, k0⟩)
  have S1 := J1.suite hoe hdt na nL nF
  have ty : PySem.W.Looks (model X.prog X.w) g (typeOf (.ref a)) cls := fun A Q E s k q => wpAny_typeOf_ref (k _ _ hoe) (hzn.1.symm ▸ q)
  -- the name of a clause
  have nam : ∀ {x : Str} {c : Value} {p : Pos} (_ : Names X x c) {Q E : Value → Shared → Prop}, Q c { z with heap := g } → wpAny (model X.prog X.w) (X.A.mark (some (.ref a))) (eval (.Name x p) X.env) Q E { z with heap := g } := fun {x c p} hc {Q E} k => by
    obtain ⟨g0, db, hm | ⟨hm, hv, hnn⟩⟩ := hc
    · exact ld_glob (X := X.suite a ((a, oe) :: (X.pn ++ pins))) S1 g0 hm k db
    · exact ld_blt (X := X.suite a ((a, oe) :: (X.pn ++ pins))) S1 g0 hm hv k hnn db
  have go : ∀ {hs : List ExceptHandler} {l : List (Value × Option Nat × (Addr → Value → Option Addr → TS))}, HdsN X hs l → wList X.K D l cls d τ G → wpAny (model X.prog X.w) X.A (handleBy (.ref a) X.env hs) (SP X pins D) X.xe { z with heap := g } := by
    intro hs l hh
    induction hh with
    | nil => intro hw; exact hw.elim
    | bare hc hsu r ih =>
      intro hw
      refine wpAny_handleBy_cons (codeAny_handlers_test ?_) (by intro k; cases k)
      rcases hw with ⟨m1, hq⟩ | ⟨m1, hq⟩
      · have M1 := PySem.W.exm_one (M := model X.prog X.w) J1.kIn ty m1
        refine nam hc (M1.here ?_)
        refine codeAny_handlers_suite ?_
        refine HandSPX.lands_againZ fl fun g2 fl2 ug2 => ?_
        have J2 : Inv X pins τ G { z with heap := g2 } := J.landed nb fl2.1 ((up.trans ug).trans ug2) os ag
        obtain ⟨oe2, vs2, hoe2, hzn2, hdt2⟩ := fl2.there
        refine wpAny_mono ((hsu a oe2 cls d (X.pn ++ pins) hzn2 ⟨_, hdt2⟩).run [] _ _ G _ (J2.suite hoe2 hdt2 na nL nF) (hq a na)) (fun f t ht => ?_) (fun _ _ k => k.elim)
        match f, ht with
        | .next, ⟨τ2, G2, S2, k⟩ => exact ⟨_, _, S2.unsuite ok, k⟩
        | .brk, ⟨τ2, G2, S2, k⟩ => exact ⟨_, _, S2.unsuite ok, k⟩
        | .cont, ⟨τ2, G2, S2, k⟩ => exact ⟨_, _, S2.unsuite ok, k⟩
        | .ret u, ⟨v2, τ2, G2, S2, r2, k⟩ => exact ⟨_, _, _, S2.unsuite ok, r2, k⟩
      · have M1 := PySem.W.exm_one (M := model X.prog X.w) J1.kIn ty m1
        exact nam hc (M1.here (ih hq))
    | @named x n c i np pos' b₀ suite ts hds l hi hln hc hsu r ih =>
      intro hw
      have loc : Loc X.env.scope n := .inl hln
      refine wpAny_handleBy_cons (codeAny_handlers_test ?_) (by intro k; cases k)
      rcases hw with ⟨m1, hq⟩ | ⟨m1, hq⟩
      · have M1 := PySem.W.exm_one (M := model X.prog X.w) J1.kIn ty m1
        refine nam hc (M1.here ?_)
        refine codeAny_handlers_suite_as ?_
        refine HandSPX.lands_againZ fl fun g2 fl2 ug2 => ?_
        have J2 : Inv X pins τ G { z with heap := g2 } := J.landed nb fl2.1 ((up.trans ug).trans ug2) os ag
        obtain ⟨oe2, vs2, hoe2, hzn2, hdt2⟩ := fl2.there
        have S2 := J2.suite hoe2 hdt2 na nL nF
        refine store_ok (X := X.suite a ((a, oe2) :: (X.pn ++ pins))) (v := .ref a) S2 hN hi loc rfl (fun t T2 => ?_) (.inr hln)
        refine wpAny_mono ((hsu a oe2 cls d (X.pn ++ pins) hzn2 ⟨_, hdt2⟩).run [] t _ G _ T2 (hq a na)) (fun f t ht => ?_) (fun _ _ k => k.elim)
        have ends : ∀ {τ2 : L2.St} {G2 : Hp} {Q : Shared → Prop}, Inv (X.suite a ((a, oe2) :: (X.pn ++ pins))) [] τ2 G2 t → (∀ t3, Inv X pins (τ2.set i none) G2 t3 → Q t3) → wpAny (model X.prog X.w) X.A (do bindName X.env n .none; unbindBehindTheSuite X.env n pos') (fun _ t3 => Q t3) X.xe t :=
          fun T3 k => gone_ok (T3.unsuite ok) hN hi hln k
        match f, ht with
        | .next, ⟨τ2, G2, T3, k⟩ => exact ends T3 fun t3 J3 => ⟨_, _, J3, k⟩
        | .brk, ⟨τ2, G2, T3, k⟩ => exact ends T3 fun t3 J3 => ⟨_, _, J3, k⟩
        | .cont, ⟨τ2, G2, T3, k⟩ => exact ends T3 fun t3 J3 => ⟨_, _, J3, k⟩
        | .ret u, ⟨v2, τ2, G2, T3, r2, k⟩ => exact ends T3 fun t3 J3 => ⟨_, _, _, J3, r2, k⟩
      · have M1 := PySem.W.exm_one (M := model X.prog X.w) J1.kIn ty m1
        exact nam hc (M1.here (ih hq))
  exact go hh hw
end
end Bk

/-! t[::-1] of a tuple -/
namespace HT
open PySem PySem.Spec PyProof.Rows
section
variable {prog : Program} {w : World} {A : Around} {E : Value → Shared → Prop} {s : Shared}
theorem places_rev (n : Nat) : Builtin.Slice.slicePlaces ((n : Int) - 1) (-1) (-1) = n := by
  unfold Builtin.Slice.slicePlaces
  have h1 : ¬ ((-1 : Int) > 0) := by omega
  simp only [h1, if_false]
  by_cases h : (n : Int) - 1 > -1
  · have e : ((n : Int) - 1 - -1 - 1) / (- -1) = (n : Int) - 1 := by
      rw [show (- -1 : Int) = 1 by decide, Int.ediv_one]
      omega
    simp only [h, if_true, e]
    omega
  · simp only [h, if_false]
    omega
theorem adjust_rev (n : Nat) : Builtin.Slice.sliceAdjust none none (-1) (n : Int) = ((n : Int) - 1, -1) := by
  unfold Builtin.Slice.sliceAdjust
  rfl
theorem sliceApplied_rev {sl : Addr} {vs : Value} {n : Nat} {Q : Int × Int × Nat → Shared → Prop} (hs : s.heap.IsSliceOf sl .none .none vs) (ps : IsPart vs (some (-1)))
    (h : Q ((n : Int) - 1, -1, n) s) : wpAny (model prog w) A (Builtin.Slice.sliceApplied (.ref sl) (pure (n : Int))) Q E s := by
  obtain ⟨os, hos, hcs, hds⟩ := id hs
  unfold Builtin.Slice.sliceApplied Builtin.Slice.sliceFields
  refine wpAny_bind (wpAny_bind (wpAny_field hos hds (x := .none) rfl (wpAny_bind (wpAny_field hos hds (x := .none) rfl (wpAny_bind (wpAny_field hos hds (x := vs) rfl (wpAny_pure ?_)))))))
  refine wpAny_bind (slicePart_ ps ?_)
  show wpAny _ _ (if (((-1) : Int) == 0) = true then _ else _) _ _ s
  rw [if_neg (by decide)]
  refine wpAny_bind (slicePart_ .none (wpAny_bind (slicePart_ .none (wpAny_bind (wpAny_pure ?_)))))
  show wpAny _ _ (match Builtin.Slice.sliceAdjust none none (-1) (n : Int) with | (lo, hi) => pure (lo, (-1 : Int), Builtin.Slice.slicePlaces lo hi (-1))) _ _ s
  rw [adjust_rev]
  show wpAny _ _ (pure ((n : Int) - 1, (-1 : Int), Builtin.Slice.slicePlaces ((n : Int) - 1) (-1) (-1))) _ _ s
  rw [places_rev]
  exact wpAny_pure h
theorem pick_rev (xs : Array Value) : ((List.range xs.size).filterMap fun (m : Nat) => xs[((xs.size : Int) - 1 + (m : Int) * -1).toNat]?).toArray = xs.toList.reverse.toArray := by
  have e : (List.range xs.size).filterMap (fun (m : Nat) => xs[((xs.size : Int) - 1 + (m : Int) * -1).toNat]?) = ((List.range xs.size).map fun k => xs.size - 1 - k).filterMap (xs[·]?) := by
    rw [List.filterMap_map]
    congr 1
    funext m
    show xs[((xs.size : Int) - 1 + (m : Int) * -1).toNat]? = xs[xs.size - 1 - m]?
    congr 1
    omega
  rw [e, PySem.W.krv_range, List.filterMap_reverse, PySem.W.krv_all]
theorem getItem_tuple_rev {t sl : Addr} {items : Array Value} {vs : Value} {Q : Value → Shared → Prop} (ht : IsTup s.heap t items) (hs : s.heap.IsSliceOf sl .none .none vs) (ps : IsPart vs (some (-1)))
    (h : Q (.ref s.heap.objs.size) { s with heap := s.heap.push { cls := .type "tuple", data := .seq items.toList.reverse.toArray } })
    (hsz : items.size ≤ sizeLine) : wpAny (model prog w) A (getItem (.ref t) (.ref sl)) Q E s := by
  have htake : sizeOk (.seq items.toList.reverse.toArray) := by
    show items.toList.reverse.toArray.size ≤ sizeLine
    rw [List.size_toArray, List.length_reverse, Array.length_toList]
    exact hsz
  obtain ⟨os, hos, hcs, hds⟩ := id hs
  have hTs : s.TypeIs (.ref sl) "slice" := ⟨os, hos, hcs⟩
  unfold getItem
  try with_reducible refine wpAny_holding ?_
  first | refine wpAny_bind (wpAny_pure ?_) | skip
  refine wpAny_bind (wpAny_sequenceKey ht.typeIs (by decide) ?_)
  refine wpAny_bind (wpAny_callSpecial?_slot (name := Str.ofString "__getitem__") ht.typeIs PyProof.Rows.slot_tuple_getitem
    (wpAny_call_entry PyProof.Rows.slot_tuple_getitem ht.typeIs entry_tuple_getitem ?_ (args_tuple_getitem _ _)))
  show wpAny _ _ (Builtin.Tuple.tupleItemsOf (.ref t) >>= _) _ _ s
  refine wpAny_bind (tupleItemsOf_ ht ?_)
  refine wpAny_bind (wpAny_typeOf hTs ?_)
  rw [if_pos (by decide)]
  refine wpAny_bind (sliceApplied_rev hs ps ?_)
  have hno : ¬ ((((items.size : Int) - 1 == 0) && ((-1 : Int) == 1) && (items.size == items.size)) = true) := by
    intro q
    rw [Bool.and_eq_true, Bool.and_eq_true] at q
    have := q.1.2
    revert this
    decide
  show wpAny _ _ (if (((items.size : Int) - 1 == 0) && ((-1 : Int) == 1) && (items.size == items.size)) = true then _ else _) _ _ s
  rw [if_neg hno, pick_rev]
  first
    | exact wpAny_bind (m := Builtin.Tuple.tupleExact _) (wpAny_newObj_type (wpAny_pure ⟨_, rfl, wpAny_pure h⟩) htake)
    | exact wpAny_bind (m := Builtin.Tuple.tupleExact _) (wpAny_newObj_type (wpAny_bind (wpAny_pure (wpAny_pure ⟨_, rfl, wpAny_pure h⟩))) htake)
    | exact wpAny_bind (wpAny_bind (m := Builtin.Tuple.tupleExact _) (wpAny_newObj_type (wpAny_pure (wpAny_pure ⟨_, rfl, wpAny_pure h⟩)) htake))
    | exact wpAny_bind (wpAny_bind (m := Builtin.Tuple.tupleExact _) (wpAny_newObj_type (wpAny_pure ⟨_, rfl, wpAny_pure h⟩) htake))
end
end HT
namespace L2
open PySem PySem.Spec PyProof.Rows
section
variable {X : Cx}
def tRevT (K : PySem.W.Frag) (te : TE) : TE := fun σ H Q => te σ H fun x H1 => ∃ a xs, x = .ref a ∧ SqT K H1 a xs ∧ ∀ p, H1 p = none → Q (.ref p) (upd H1 p (.tup xs.reverse))
theorem pe_revT {e : Expr} {te : TE} {k : Nat} {p1 p2 p3 pos : Pos} (he : PE X e te) : PE X (.Subscript e (.Slice none none (some (.UnaryOp .USub (.Constant (.int 1) k p1) p2)) p3) pos) (tRevT X.K te) := by
  refine ⟨fun pins s σ H Q I h => ?_⟩
  refine Subscript_ (thn (he.run pins s σ H _ I h) fun v s1 ⟨x, H1, I1, r1, q1⟩ => ?_)
  obtain ⟨a, xs, ex, hx, q⟩ := q1
  subst ex
  cases r1
  have hst : PO X (some (.UnaryOp .USub (.Constant (.int 1) k p1) p2)) (tPart (tUn (rU fun i => .int (-i)) (tC (.int 1)))) := po_some (pe_un un_neg pe_int)
  refine wpAny_Slice (thn (po_none.run pins s1 σ H1 (fun o H2 => o = none ∧ H2 = H1) I1 ⟨rfl, rfl⟩) fun vl s2 ⟨l, H2, I2, pl, el, e2⟩ => ?_)
  subst el e2
  refine thn (po_none.run pins s2 σ H2 (fun o H3 => o = none ∧ H3 = H2) I2 ⟨rfl, rfl⟩) fun vu s3 ⟨u, H3, I3, pu, eu, e3⟩ => ?_
  subst eu e3
  refine thn (hst.run pins s3 σ H3 (fun o H4 => o = some (-1) ∧ H4 = H3) I3 ⟨1, rfl, -1, rfl, rfl, rfl⟩) fun vs s4 ⟨o, H4, I4, ps, eo, e4⟩ => ?_
  subst eo e4
  have I5 : Inv X pins σ H4 { s4 with heap := s4.heap.push { cls := .type "slice", data := .fields #[vl, vu, vs] } } := I4.kept (t' := s4.toks) fun b ob q => Heap.get?_push_of_some _ q
  obtain ⟨its, r, ht, hz⟩ := I5.tuple hx
  have hlen := r.length
  show wpAny (model X.prog X.w) X.A (subscriptTail e (.Slice none none (some (.UnaryOp .USub (.Constant (.int 1) k p1) p2)) p3) (.ref a) (.ref s4.heap.objs.size)) (EP X pins σ Q) X.xe { s4 with heap := s4.heap.push { cls := .type "slice", data := .fields #[vl, vu, vs] } }
  refine tail_any (ops := [.ref a, .ref s4.heap.objs.size]) ht.typeIs (PyProof.Rows.slot_tuple_getitem.lookup) ?_ (by with_unfolding_all rfl)
  cases pl
  cases pu
  refine HT.getItem_tuple_rev ht (Heap.IsSliceOf.new _ .none .none vs) ps ?_ (by rw [List.size_toArray]; omega)
  refine ⟨.ref _, _, I5.laid (t' := s4.toks) (o := .tup xs.reverse) (fun b ob q => Heap.get?_push_of_some _ q) (Nat.le_refl _) ?_, rfl, q _ (I5.hok.fresh (Nat.le_refl _))⟩
  exact ⟨by rw [List.length_reverse]; exact hz, _, r.reverse, IsTup.new _ _⟩
end
end L2

namespace Bk
open PySem PySem.Spec PyProof.Rows L2 LamX NdefX
section
variable {P : Program} {w : World} {K : PySem.W.Frag} {mg : Str → Option Value} {base : Heap}
/-- as Fun.ok, for a def whose code object's address is known -/
theorem Fun.okC {x qual : Str} {st : Stmt} {f c : Addr} {fd : FuncData} {N ps : List Str} {k : Nat} {sp : Sp} (F : Fun K x qual st f fd) (hc : fd.code = .ref c) (S : FnScope N ps (defScope st)) (len : ∀ vs H Q E, sp vs H Q E → vs.length = ps.length)
    (hbody : ∀ (A : Around) (outer : List Env) (s : Shared) (H : Hp) (vs : List V) (Q : VK) (E : XK), Room k (A.deeper (envOfC qual (defScope st) s.heap.objs.size f (.ref c))) → sp vs H Q E →
      ∃ t, PSs (cxOf CX0 P w K mg base N qual (defScope st) f (.ref c) A outer s H E).nox (defBody st) t ∧ t { nx := fun _ H' => Q .non H', rt := Q } (L2.start N vs) H) : FnOk P w K mg base CX0 (k + 1) f fd ps sp := by
  obtain ⟨oc, od, kV, doc, pm, an, cdv, ct, osl, rfl, lk, hcd⟩ := F.ex
  obtain rfl : cdv = .ref c := hc
  refine fn_of lk hcd S len fun A outer s H vs Q E hr hsp => ?_
  obtain ⟨t, h, q⟩ := hbody A outer s H vs Q E hr hsp
  exact ⟨t, h.nox, q⟩
/-- one value by place, one by its name -/
theorem Fun.bindK {x qual : Str} {st : Stmt} {f : Addr} {fd : FuncData} {ps : List Str} {kn : Str} (F : Fun K x qual st f fd)
    (h : ∀ (kV doc pm : Value) (an : Option Addr) (cdv ct a v : Value), bindArgs (PySem.W.fnOf x qual (defArgs st) (defBody st) (defScope st) .none kV doc pm an cdv ct) ⟨[a], [(kn, v)]⟩ = pure (ps.zip [a, v])) :
    ∀ (s : Shared) (a v : Value), K.In s.heap → BindsTo s fd ⟨[a], [(kn, v)]⟩ (ps.zip [a, v]) := by
  obtain ⟨oc, od, kV, doc, pm, an, cdv, ct, osl, rfl, lk, hcd⟩ := F.ex
  exact fun s a v _ => BindsTo.of_looks fun M => PySem.W.Looks.of_pure (h kV doc pm an cdv ct a v)
/-- an own error class with one field: what its making and its instances ask -/
def ErrF (P : Program) (w : World) (K : PySem.W.Frag) (mg : Str → Option Value) (base : Heap) (x f : Str) (C : Addr) : Prop := ∃ (fI : Addr) (fd : FuncData), ExT K mg x C fI f ∧ ExcC K C ∧ FnOk P w K mg base CX0 1 fI fd ["self", f] (spExcInit C f) ∧ Binds K fd ["self", f] [] ∧
  ∀ (s : Shared) (a v : Value), K.In s.heap → BindsTo s fd ⟨[a], [(f, v)]⟩ (([("self" : Str), f] : List Str).zip [a, v])
/-- a lambda that reads a field -/
def spFld (K : PySem.W.Frag) (C : Addr) (f : Str) : Sp := fun vs H Q _ => ∃ (a d : Addr) (v : V), vs = [.ref a] ∧ H a = some (exo a C (some d)) ∧ H d = some (exd d [(f, v)]) ∧ Q v H
theorem lok_fld {q : Str} {params : Arguments} {scope : Scope} {c' fl C : Addr} {pn f : Str} {p1 p2 : Pos} (T : XfC K C) (hno : PySem.W.findIn K (.ref C) f = some none) (S : nscB [pn] [pn] [] scope = true)
    (hb : ∀ (pm ctv : Value) (us : List Value), us.length = [pn].length → bindArgs (PySem.W.kla_fn "<lambda>" q params (.Attribute (.Name pn p1) f p2) scope [] pm (.ref c') ctv) ⟨us, []⟩ = pure ([pn].zip us))
    (hd : (pn == ("__debug__" : Str)) = false) (hcd : (pn == ("__classdict__" : Str)) = false)
    (hab : ∀ env : Env, attributeBase (.Name pn p1) f env (eval (.Name pn p1) env) = eval (.Name pn p1) env) : LOk P w K mg base CX0 1 fl ⟨q, params, .Attribute (.Name pn p1) f p2, scope, [], c'⟩ (spFld K C f) := by
  have S := nscope_by S
  refine lok_of (k := 0) (N := [pn]) (ps := [pn]) S rfl hb (fun vs H Q E h => ?_) fun A outer s H vs Q E hr h => ?_
  · obtain ⟨a, d, v, rfl, _⟩ := h
    rfl
  · obtain ⟨a, d, v, rfl, ha, hdd, hq⟩ := h
    have vis : Vis scope pn := .inl (S.par pn List.mem_cons_self)
    refine ⟨_, pe_xfV (K := K) rfl (pe_var (i := 0) rfl vis hd hcd) (hab _), ?_⟩
    exact ⟨.ref a, rfl, a, C, d, _, v, rfl, ha, hdd, T, hno, by simp [List.lookup], hq⟩
/-- the call of a kept lambda, all told -/
theorem pe_callLk {X : Cx} {CX : CXT} {i j k : Nat} {x : Str} {E : XK} {t : TA} {e : Expr} {es : List Expr} {p pos : Pos} (hr : Room j X.A) (hk : k ≤ j) (hx : Passes CX X E) (hN : X.N[i]? = some x) (hv : Vis X.env.scope x) (ha : PA X (e :: es) t)
    (e1 : X.prog = P := by rfl) (e2 : X.w = w := by rfl) (e3 : X.K = K := by rfl) (e4 : X.mg = mg := by rfl) (e5 : X.base = base := by rfl) (hd : (x == ("__debug__" : Str)) = false := by decide) (hcd : (x == ("__classdict__" : Str)) = false := by decide)
    (he : starEach (e :: es) X.env = (false, eval e X.env) :: starEach es X.env := by rfl) (hpl : (backTo pos (starEach es X.env)).any (·.1) = false := by rfl) : PE X (.Call (.Name x p) (e :: es) [] pos) (tCallL P w K mg base CX k i E t) := by
  subst e1 e2 e3 e4 e5
  exact pe_callL hr hk hx hN hv ha hd hcd he hpl
/-! ### a triple: the error by place, by name, what reads its field -/
theorem exd_tbl {e : Addr} {fs : List (Str × V)} {ps : Array Value} : exd e fs ≠ .tbl ps := fun z => by
  have z' : HO.ext _ = HO.tbl ps := z
  cases z'
def Trip (P : Program) (w : World) (K : PySem.W.Frag) (mg : Str → Option Value) (base : Heap) (H : Hp) (C : Addr) (f : Str) (x v : V) : Prop := ∃ (t a1 d1 a2 d2 fl : Addr) (F : LF), v = .ref t ∧ H t = some (.tup [.ref a1, .ref a2, .ref fl]) ∧ H a1 = some (exo a1 C (some d1)) ∧ H d1 = some (exd d1 [(f, x)]) ∧
  H a2 = some (exo a2 C (some d2)) ∧ H d2 = some (exd d2 [(f, x)]) ∧ H fl = some (LamO fl F) ∧ H F.c = some (CodeO F.c F.qual) ∧ LOk P w K mg base CX0 1 fl F (spFld K C f)
theorem Trip.extN {H H' : Hp} {C : Addr} {f : Str} {x v : V} (h : Trip P w K mg base H C f x v) (e : ExtN H H') : Trip P w K mg base H' C f x v := by
  obtain ⟨t, a1, d1, a2, d2, fl, F, hv, ht, h1, h2, h3, h4, h5, h6, L⟩ := h
  exact ⟨t, a1, d1, a2, d2, fl, F, hv, e _ _ ht (fun _ z => nomatch z), e _ _ h1 (fun _ => exo_tbl), e _ _ h2 (fun _ => exd_tbl), e _ _ h3 (fun _ => exo_tbl), e _ _ h4 (fun _ => exd_tbl), e _ _ h5 lamO_ne, e _ _ h6 codeO_ne, L⟩
theorem Trip.updL {H : Hp} {C D : Addr} {f : Str} {x v : V} {l : List V} {o : HO} (h : Trip P w K mg base H C f x v) (hD : H D = some (.lst l)) : Trip P w K mg base (upd H D o) C f x v := by
  obtain ⟨t, a1, d1, a2, d2, fl, F, hv, ht, h1, h2, h3, h4, h5, h6, L⟩ := h
  have k : ∀ {b : Addr} {u : HO}, H b = some u → u ≠ .lst l → upd H D o b = some u := fun hb n => by
    rw [upd_ne (ne_of hb hD n)]
    exact hb
  have nx : ∀ (φ : Heap → Prop), HO.ext φ ≠ HO.lst l := fun φ z => nomatch z
  exact ⟨t, a1, d1, a2, d2, fl, F, hv, k ht (fun z => nomatch z), k h1 (nx _), k h2 (nx _), k h3 (nx _), k h4 (nx _), k h5 (nx _), k h6 (nx _), L⟩
theorem same_exc {H : Hp} {a dx : Addr} {u v z : HO} (na : H a = none) (nd : upd H a u dx = none) (ne : dx ≠ a) : Same H (upd (upd (upd H a u) dx v) a z) := fun b o e => by
  have nb : b ≠ a := ne_of_none e na
  have nd' : H dx = none := by rw [upd_ne ne] at nd; exact nd
  rw [upd_ne nb, upd_ne (ne_of_none e nd'), upd_ne nb]
  exact e
theorem TabS.updL {H : Hp} {D P0 : Addr} {q : Str} {l : List V} {o : HO} (t : TabS H P0 q) (hD : H D = some (.lst l)) : TabS (upd H D o) P0 q := by
  obtain ⟨ps, h1, h2, h3⟩ := t
  refine ⟨ps, by rw [upd_ne (ne_of h1 hD (fun z => nomatch z))]; exact h1, h2, fun pos cv hc => ?_⟩
  obtain ⟨c, e1, e2⟩ := h3 pos cv hc
  refine ⟨c, e1, ?_⟩
  have nx : CodeO c q ≠ HO.lst l := fun z => by
    unfold CodeO at z
    cases z
  rw [upd_ne (ne_of e2 hD nx)]
  exact e2
theorem Tabs.updL {T : List (Addr × Str)} {H : Hp} {D : Addr} {l : List V} {o : HO} (t : Tabs T H) (hD : H D = some (.lst l)) : Tabs T (upd H D o) := fun p hp => Bk.TabS.updL (t p hp) hD
theorem trip {T : List (Addr × Str)} {mk : Addr → LF} {σ : L2.St} {H : Hp} {Q : VK} {C : Addr} {f : Str} {x : V} (hx : σ[0]? = some (some x)) (hT : Tabs T H) (hc : ∀ c', (mk c').c = c') (hL : ∀ fl c', LOk P w K mg base CX0 1 fl (mk c') (spFld K C f))
    (q : ∀ v H', ExtM H H' → Tabs T H' → Trip P w K mg base H' C f x v → Q v H') :
    tTup (tCons (tOexV C (spExcInit C f) (tCons (tVar 0) tNil)) (tCons (tOexK C (spExcInit C f) (tCons (tVar 0) tNil)) (tCons (tLamV T mk) tNil))) σ H Q := by
  refine ⟨x, hx, by show 1 ≤ 1000; decide, fun a1 n1 => ⟨a1, x, rfl, upd_same, fun d1 m1 k1 => ⟨rfl, ?_⟩⟩⟩
  have e1 := same_exc (u := exo a1 C none) (v := exd d1 [(f, x)]) (z := exo a1 C (some d1)) n1 m1 k1
  have f1 : (upd (upd (upd H a1 (exo a1 C none)) d1 (exd d1 [(f, x)])) a1 (exo a1 C (some d1))) a1 = some (exo a1 C (some d1)) := upd_same
  have g1 : (upd (upd (upd H a1 (exo a1 C none)) d1 (exd d1 [(f, x)])) a1 (exo a1 C (some d1))) d1 = some (exd d1 [(f, x)]) := by rw [upd_ne k1]; exact upd_same
  generalize upd (upd (upd H a1 (exo a1 C none)) d1 (exd d1 [(f, x)])) a1 (exo a1 C (some d1)) = H1 at e1 f1 g1 ⊢
  refine ⟨x, hx, rfl, fun a2 n2 => ⟨a2, x, rfl, upd_same, fun d2 m2 k2 => ⟨rfl, ?_⟩⟩⟩
  have e2 := same_exc (u := exo a2 C none) (v := exd d2 [(f, x)]) (z := exo a2 C (some d2)) n2 m2 k2
  have f2 : (upd (upd (upd H1 a2 (exo a2 C none)) d2 (exd d2 [(f, x)])) a2 (exo a2 C (some d2))) a2 = some (exo a2 C (some d2)) := upd_same
  have g2 : (upd (upd (upd H1 a2 (exo a2 C none)) d2 (exd d2 [(f, x)])) a2 (exo a2 C (some d2))) d2 = some (exd d2 [(f, x)]) := by rw [upd_ne k2]; exact upd_same
  generalize upd (upd (upd H1 a2 (exo a2 C none)) d2 (exd d2 [(f, x)])) a2 (exo a2 C (some d2)) = H2 at e2 f2 g2 ⊢
  have e02 := Same.trans e1 e2
  refine ⟨hT.ext e02, fun fl c' H3 e3 t3 nf l3 c3 => ⟨by show 3 ≤ sizeLine; decide, fun t nt => ?_⟩⟩
  have et := same_upd (o := HO.tup [V.ref a1, V.ref a2, V.ref fl]) nt
  have k : ∀ {b : Addr} {u : HO}, H2 b = some u → (∀ ps, u ≠ .tbl ps) → upd H3 t (HO.tup [V.ref a1, V.ref a2, V.ref fl]) b = some u := fun hb n => et _ _ (e3.ext _ _ hb n)
  refine q _ _ (((ExtM.of e02).trans e3).trans (ExtM.of et)) (t3.ext et) ⟨t, a1, d1, a2, d2, fl, mk c', rfl, upd_same, k (e2 _ _ f1) (fun _ => exo_tbl), k (e2 _ _ g1) (fun _ => exd_tbl), k f2 (fun _ => exo_tbl), k g2 (fun _ => exd_tbl), et _ _ l3, et _ _ ?_, hL fl c'⟩
  rw [hc c']
  exact c3
/-- .. at the head of a list -/
theorem tripL {T : List (Addr × Str)} {mk : Addr → LF} {σ : L2.St} {H : Hp} {Q : VK} {C : Addr} {f : Str} {x : V} {ta : TA} (hx : σ[0]? = some (some x)) (hT : Tabs T H) (hc : ∀ c', (mk c').c = c') (hL : ∀ fl c', LOk P w K mg base CX0 1 fl (mk c') (spFld K C f))
    (q : ∀ v H', ExtM H H' → Tabs T H' → Trip P w K mg base H' C f x v → ta σ H' fun vs H2 => (v :: vs).length ≤ sizeLine ∧ ∀ l, H2 l = none → Q (.ref l) (upd H2 l (.lst (v :: vs)))) :
    tLst (tCons (tTup (tCons (tOexV C (spExcInit C f) (tCons (tVar 0) tNil)) (tCons (tOexK C (spExcInit C f) (tCons (tVar 0) tNil)) (tCons (tLamV T mk) tNil)))) ta) σ H Q := trip hx hT hc hL q
end
end Bk

namespace Bk
open PySem PySem.Spec PyProof.Rows L2
/-- a house whose names are told by a tuple -/
structure HouseTp (C : Addr) (H : Hp) (st c nl x D : Addr) (zs : List Str) (ch : Bool) (ws : List V) : Prop where
  n1 : nl ≠ st
  n2 : nl ≠ c
  d1 : D ≠ st
  d2 : D ≠ c
  nm : H nl = some (.tup (zs.map V.str))
  fo : FoldersAt C H x zs ch
  ld : H D = some (.lst ws)
  at_ : Ats H (fun l : List Str => l.map V.str) ws (lotsFor ch zs)
  pos : 0 < zs.length
  le : zs.length ≤ mostFor ch
  nd : zs.Nodup
  ok : ∀ z ∈ zs, isNameS z = true
theorem HouseTp.same {C : Addr} {H H' : Hp} {st c nl x D : Addr} {zs : List Str} {ch : Bool} {ws : List V} (h : HouseTp C H st c nl x D zs ch ws) (e : Same H H') : HouseTp C H' st c nl x D zs ch ws :=
  ⟨h.n1, h.n2, h.d1, h.d2, e _ _ h.nm, h.fo.same e, e _ _ h.ld, h.at_.same e, h.pos, h.le, h.nd, h.ok⟩
theorem HouseTp.kept {C : Addr} {H H' : Hp} {st c nl x D : Addr} {n : Nat} {zs : List Str} {ch : Bool} {ws : List V} (h : HouseTp C H st c nl x D zs ch ws) (S : Strm H st c n) (k : Kept st c H H') : HouseTp C H' st c nl x D zs ch ws :=
  ⟨h.n1, h.n2, h.d1, h.d2, k _ _ h.n1 h.n2 h.nm, h.fo.kept S k, k _ _ h.d1 h.d2 h.ld, h.at_.kept S k, h.pos, h.le, h.nd, h.ok⟩
theorem pk_tup {K : PySem.W.Frag} {H : Hp} {st c a : Addr} {xs : List V} (h : SqT K H a xs) (n1 : a ≠ st) (n2 : a ≠ c) : Pk K H st c (.ref a) xs.length (fun j => xs.getD j .non) :=
  .tup h n1 n2 fun j hj => by rw [List.getD_eq_getElem?_getD, List.getElem?_eq_getElem hj]; rfl
end Bk

/-! answers of stores: sums of stores, sums of questions, the whole -/
namespace Bk
open PySem PySem.Spec PyProof.Rows L2
theorem tabsK {H H' : Hp} {st c : Addr} {n : Nat} {T : List (Addr × Str)} (t : LamX.Tabs T H) (S : Strm H st c n) (k : Kept st c H H') : LamX.Tabs T H' := fun p hp => by
  obtain ⟨ps, h1, h2, h3⟩ := t p hp
  refine ⟨ps, S.hold k h1 (fun _ z => nomatch z), h2, fun pos cv hc => ?_⟩
  obtain ⟨a, e1, e2⟩ := h3 pos cv hc
  exact ⟨a, e1, S.hold k e2 (fun l z => by
    unfold LamX.CodeO at z
    cases z)⟩
section
open LamX
variable {H H' : Hp} {K : PySem.W.Frag} {C CQ CS st c t D : Addr} {n : Nat} {zs : List Str} {ch : Bool}
theorem xFold {x : Addr} (h : FoldersAt C H x zs ch) (e : ExtN H H') : FoldersAt C H' x zs ch := by
  obtain ⟨dx, t, pd, h1, h2, h3⟩ := h
  exact ⟨dx, t, pd, e _ _ h1 (fun _ z => nomatch z), e _ _ h2 (fun _ z => nomatch z), e _ _ h3 (fun _ z => nomatch z)⟩
theorem xStrm (h : Strm H st c n) (e : ExtN H H') : Strm H' st c n := by
  obtain ⟨ne, cells, a, k, m, h1, h2, h3⟩ := h
  exact ⟨ne, cells, a, k, m, e _ _ h1 (fun _ z => nomatch z), e _ _ h2 (fun _ z => nomatch z), h3⟩
theorem xFr {v : V} {q : Rat} (h : FrV K H v q) (e : ExtN H H') : FrV K H' v q := by
  obtain ⟨a, rfl, (h | ⟨o, h⟩) | h⟩ := h
  · exact ⟨a, rfl, .inl (.inl (e _ _ h (fun _ z => nomatch z)))⟩
  · exact ⟨a, rfl, .inl (.inr ⟨o, e _ _ h (fun _ z => nomatch z)⟩)⟩
  · exact ⟨a, rfl, .inr h⟩
theorem xStore {s x : Addr} {sz : List Str → Rat} (h : StoreAt K C CS H s x zs ch sz) (e : ExtN H H') : StoreAt K C CS H' s x zs ch sz := by
  obtain ⟨ds, td, tb, h1, h2, h3, h4⟩ := h
  exact ⟨ds, td, tb, e _ _ h1 (fun _ z => nomatch z), xFold h2 e, e _ _ h3 (fun _ z => nomatch z), Paired.mono (fun _ _ ⟨a, b⟩ => ⟨a, xFr b e⟩) h4⟩
theorem xHouse {x : Addr} {ws : List V} (h : HouseTp C H st c t x D zs ch ws) (e : ExtN H H') : HouseTp C H' st c t x D zs ch ws :=
  ⟨h.n1, h.n2, h.d1, h.d2, e _ _ h.nm (fun _ z => nomatch z), xFold h.fo e, e _ _ h.ld (fun _ z => nomatch z), ⟨h.at_.1, fun i v l h1 h2 => by
    obtain ⟨b, e1, e2⟩ := h.at_.2 i v l h1 h2
    exact ⟨b, e1, e _ _ e2 (fun _ z => nomatch z)⟩⟩, h.pos, h.le, h.nd, h.ok⟩
end/-- folders unlike those of zs and ch -/
structure Away (C : Addr) (zs : List Str) (ch : Bool) (H : Hp) (u : V) (p : List Str × Bool) : Prop where
  at_ : ∃ y, u = .ref y ∧ FoldersAt C H y p.1 p.2
  nd : p.1.Nodup
  le : p.1.length ≤ mostFor p.2
  nm : ∀ z ∈ p.1, isNameS z = true
  un : (decide (zs = p.1) && decide (ch = p.2)) = false
theorem stays_away {C : Addr} {zs : List Str} {ch : Bool} : Stays (Away C zs ch) := ⟨fun H1 H2 u l e h => ⟨by
  obtain ⟨y, rfl, h1⟩ := h.at_
  exact ⟨y, rfl, h1.same e⟩, h.nd, h.le, h.nm, h.un⟩, fun H1 D as bs u l hD h => ⟨by
  obtain ⟨y, rfl, dx, t, pd, h1, h2, h3⟩ := h.at_
  exact ⟨y, rfl, dx, t, pd, by rw [upd_ne (ne_of h1 hD (fun z => nomatch z))]; exact h1, by rw [upd_ne (ne_of h2 hD (fun z => nomatch z))]; exact h2, by rw [upd_ne (ne_of h3 hD (fun z => nomatch z))]; exact h3⟩, h.nd, h.le, h.nm, h.un⟩⟩
theorem xAway {C : Addr} {zs : List Str} {ch : Bool} {H H' : Hp} {u : V} {p : List Str × Bool} (h : Away C zs ch H u p) (e : LamX.ExtN H H') : Away C zs ch H' u p := ⟨by
  obtain ⟨y, rfl, h1⟩ := h.at_
  exact ⟨y, rfl, xFold h1 e⟩, h.nd, h.le, h.nm, h.un⟩
theorem fold_add : ∀ (ls : List (List Str)) (f g : List Str → Rat) (a b : Rat), (ls.map fun l => f l + g l).foldl (fun a b => a + b) (a + b) = (ls.map f).foldl (fun a b => a + b) a + (ls.map g).foldl (fun a b => a + b) b
  | [], _, _, _, _ => rfl
  | l :: r, f, g, a, b => by
    rw [List.map_cons, List.map_cons, List.map_cons, List.foldl_cons, List.foldl_cons, List.foldl_cons, ← fold_add r f g]
    congr 1
    rw [Rat.add_assoc, Rat.add_assoc, ← Rat.add_assoc b, Rat.add_comm b (f l), Rat.add_assoc]
/-- two stores put together answer with the sum -/
theorem ans_both (ls : List (List Str)) (a b : List Str → Rat) (f : List Str → Int) : ansQ ls (fun l => a l + b l) f = ansQ ls a f + ansQ ls b f := by
  unfold ansQ sumQ
  have h := fold_add ls (fun l => a l * ((f l : Int) : Rat)) (fun l => b l * ((f l : Int) : Rat)) 0 0
  rw [Rat.add_zero] at h
  rw [← h]
  congr 1
  exact List.map_congr_left fun l _ => Rat.add_mul _ _ _
/-- a question taken twice is as a store taken twice -/
theorem ans_two (ls : List (List Str)) (sz : List Str → Rat) (f : List Str → Int) : ansQ ls sz (fun l => f l + 1 * f l) = ansQ ls (fun l => sz l * ((2 : Int) : Rat)) f := by
  unfold ansQ
  congr 1
  refine List.map_congr_left fun l _ => ?_
  have e : f l + 1 * f l = 2 * f l := by omega
  show sz l * (((f l + 1 * f l : Int)) : Rat) = sz l * ((2 : Int) : Rat) * ((f l : Int) : Rat)
  rw [e, Rat.intCast_mul, Rat.mul_assoc]
theorem ans_like {ls : List (List Str)} {sz : List Str → Rat} {f g : List Str → Int} (h : ∀ l ∈ ls, f l = g l) : ansQ ls sz f = ansQ ls sz g := by
  unfold ansQ
  congr 1
  exact List.map_congr_left fun l m => by rw [h l m]
theorem rev_unlike {α : Type} {zs : List α} (nd : zs.Nodup) (h : 1 < zs.length) : zs ≠ zs.reverse := by
  intro e
  have h0 : 0 < zs.length := by omega
  have h1 : zs[0]? = zs.reverse[0]? := by rw [← e]
  rw [List.getElem?_reverse (by omega)] at h1
  have := (List.getElem?_inj h0 nd).mp h1
  omega
theorem look_total (x td : Addr) : (questF x td).lookup ("total" : Str) = none := by
  have h1 : (("total" : Str) == ("folders" : Str)) = false := by decide +kernel
  have h2 : (("total" : Str) == ("table" : Str)) = false := by decide +kernel
  show List.lookup ("total" : Str) [(("folders" : Str), V.ref x), ("table", .ref td)] = _
  simp [List.lookup, h1, h2]
theorem Fit.tail1 {zs : List Str} {m : Nat} {s : Str} (h : Fit zs m) (hs : isNameS s = true) (hn : s ∉ zs) : Fit (zs.drop 1 ++ [s]) m := by
  obtain ⟨h1, h2⟩ := h.snoc hs hn
  have hp := h.pos
  have sl : (zs.drop 1 ++ [s]).Sublist (zs ++ [s]) := (List.drop_sublist 1 zs).append (List.Sublist.refl _)
  refine ⟨fun e => ?_, ?_, fun z mz => h1 z (sl.subset mz), h2.sublist sl⟩
  · have := congrArg List.length e
    rw [List.length_append] at this
    cases this
  · rw [List.length_append, List.length_drop]
    have := h.len
    show zs.length - 1 + 1 ≤ m
    omega
theorem Fit.more1 {zs : List Str} {m m' : Nat} {s : Str} (h : Fit zs m) (hs : isNameS s = true) (hn : s ∉ zs) (hm : zs.length < m') : Fit (zs ++ [s]) m' := by
  obtain ⟨h1, h2⟩ := h.snoc hs hn
  refine ⟨fun e => ?_, ?_, h1, h2⟩
  · have := congrArg List.length e
    rw [List.length_append] at this
    cases this
  · rw [List.length_append]
    show zs.length + 1 ≤ m'
    omega
theorem un_ne {zs ys : List Str} {a b : Bool} (h : zs ≠ ys) : (decide (zs = ys) && decide (a = b)) = false := by rw [decide_eq_false h, Bool.false_and]
theorem un_in {zs ys : List Str} {a b : Bool} {z : Str} (h : z ∉ zs) (m : z ∈ ys) : (decide (zs = ys) && decide (a = b)) = false := un_ne fun e => h (e ▸ m)
theorem un_not {zs ys : List Str} {a : Bool} : (decide (zs = ys) && decide (a = !a)) = false := by
  rw [show decide (a = !a) = false by cases a <;> rfl, Bool.and_false]
end Bk

/-! readings, opened from without -/
namespace Bk
open PySem PySem.Spec PyProof.Rows L2
theorem tasg_go {ta : TE} {g : TG} {Dd : Ends} {σ : L2.St} {H : Hp} (h : ta σ H fun x H1 => g x σ H1 Dd.nx) : tAsg ta g Dd σ H := h
theorem tlst_go {ts : TA} {σ : L2.St} {H : Hp} {R : VK} (h : ts σ H fun xs H1 => xs.length ≤ sizeLine ∧ ∀ p, H1 p = none → R (.ref p) (upd H1 p (.lst xs))) : tLst ts σ H R := h
theorem ttup_go {ts : TA} {σ : L2.St} {H : Hp} {R : VK} (h : ts σ H fun xs H1 => xs.length ≤ sizeLine ∧ ∀ p, H1 p = none → R (.ref p) (upd H1 p (.tup xs))) : tTup ts σ H R := h
theorem top_go {r : R2} {ta tb : TE} {σ : L2.St} {H : Hp} {R : VK} (h : ta σ H fun x H1 => tb σ H1 fun y H2 => r x y H2 R) : tOp r ta tb σ H R := h
theorem tifn_cb {r : List V → Hp → VK → Prop} {ts : TA} {a b : TS} {Dd : Ends} {σ : L2.St} {H : Hp} (h : ts σ H fun vs H1 => r vs H1 fun y H2 => ∃ k : Bool, y = .bl k ∧ (if (!k) = true then a Dd σ H2 else b Dd σ H2)) : tIfS (tNot (tB (tCB r ts))) a b Dd σ H := h
theorem tifn_call {sp : Sp} {ts : TA} {a b : TS} {Dd : Ends} {σ : L2.St} {H : Hp} (h : ts σ H fun vs H1 => sp (vs ++ []) H1 (fun y H2 => ∃ k : Bool, y = .bl k ∧ (if (!k) = true then a Dd σ H2 else b Dd σ H2)) E0) : tIfS (tNot (tB (tCall sp [] E0 ts))) a b Dd σ H := h
theorem tor_same {sp : Sp} {ts : TA} {u : TT} {a b : TS} {Dd : Ends} {σ : L2.St} {H : Hp} (h : ts σ H fun vs H1 => sp (vs ++ []) H1 (fun y H2 => ∃ k : Bool, y = .bl k ∧ (if (!k) = true then a Dd σ H2 else u σ H2 fun c H3 => if c = true then a Dd σ H3 else b Dd σ H3)) E0) : tIfS (tOr (tNot (tB (tCall sp [] E0 ts))) u) a b Dd σ H := by
  refine (?_ : ts σ H _)
  exact h
theorem tc_go {v : V} {σ : L2.St} {H : Hp} {Q : VK} (h : Q v H) : tC v σ H Q := h
theorem tnopart_go {σ : L2.St} {H : Hp} {Q : Option Int → Hp → Prop} (h : Q none H) : tNoPart σ H Q := h
theorem tpart_int {k : Int} {σ : L2.St} {H : Hp} {Q : Option Int → Hp → Prop} (h : Q (some k) H) : tPart (tC (.int k)) σ H Q := ⟨k, rfl, h⟩
theorem tcall_go {sp : Sp} {ts : TA} {σ : L2.St} {H : Hp} {Q : VK} (h : ts σ H fun vs H1 => sp (vs ++ []) H1 Q E0) : tCall sp [] E0 ts σ H Q := h
theorem tret_go {te : TE} {D : Ends} {σ : L2.St} {H : Hp} (h : te σ H fun x H1 => D.rt x H1) : tRet te D σ H := h
/-- t[k:], whether new or t itself -/
theorem slA_from {K : PySem.W.Frag} {H : Hp} {t : Addr} {xs : List V} {Q : VK} (k : Nat) (ht : H t = some (.tup xs)) (r : ∀ p H', Same H H' → H' p = some (.tup (xs.drop k)) → Q (.ref p) H') : rSlA K (.ref t) (some (k : Int)) none H Q := by
  refine ⟨t, xs, rfl, SqT.of ht, fun hw => ?_, fun hw p np => ?_⟩
  · have h0 := hw.1
    rw [HT.sIx_nat] at h0
    refine r t H (Same.refl H) ?_
    have : xs.drop k = xs := by
      by_cases hk : k = 0
      · rw [hk, List.drop_zero]
      · have : xs.length = 0 := by omega
        rw [List.length_eq_zero_iff.mp this, List.drop_nil]
    rw [this]
    exact ht
  · refine r p _ (same_upd np) ?_
    rw [upd_same, cut_from]
/-- t[:k] -/
theorem slA_upto {K : PySem.W.Frag} {H : Hp} {t : Addr} {xs : List V} {Q : VK} (k : Nat) (ht : H t = some (.tup xs)) (r : ∀ p H', Same H H' → H' p = some (.tup (xs.take k)) → Q (.ref p) H') : rSlA K (.ref t) none (some (k : Int)) H Q := by
  refine ⟨t, xs, rfl, SqT.of ht, fun hw => ?_, fun hw p np => ?_⟩
  · have h0 := hw.2
    rw [HT.sIx_nat] at h0
    refine r t H (Same.refl H) ?_
    have : xs.take k = xs := List.take_of_length_le (by omega)
    rw [this]
    exact ht
  · refine r p _ (same_upd np) ?_
    rw [upd_same, cut_upto]
/-- t + u -/
theorem catA_to {K : PySem.W.Frag} {H : Hp} {a b : Addr} {xs ys : List V} {Q : VK} (ha : H a = some (.tup xs)) (hb : H b = some (.tup ys)) (hl : xs.length + ys.length ≤ 100000) (r : ∀ p H', Same H H' → H' p = some (.tup (xs ++ ys)) → Q (.ref p) H') : rCatA K (.ref a) (.ref b) H Q := by
  refine ⟨a, b, xs, ys, rfl, rfl, SqT.of ha, SqT.of hb, by rw [sizeLine_eq]; omega, fun e => ?_, fun _ e => ?_, fun _ _ p np => ?_⟩
  · subst e
    exact r b H (Same.refl H) hb
  · subst e
    refine r a H (Same.refl H) ?_
    rw [List.append_nil]
    exact ha
  · exact r p _ (same_upd np) upd_same
/-- x[:k], x a list or a tuple -/
theorem sl_seq {K : PySem.W.Frag} {H : Hp} {a : Addr} {xs : List V} {Q : VK} {j : Int} (k : Nat) (hj : j = (k : Int)) (h : SqL K H a xs ∨ SqT K H a xs) (r : ∀ p H', Same H H' → (SqL K H' p (xs.take k) ∨ SqT K H' p (xs.take k)) → Q (.ref p) H') : rSlL K (.ref a) none (some j) H Q ∨ rSlA K (.ref a) none (some j) H Q := by
  subst hj
  rcases h with h | h
  · refine .inl ⟨a, xs, rfl, h, fun p np => ?_⟩
    rw [cut_upto]
    exact r p _ (same_upd np) (.inl (SqL.of upd_same))
  · refine .inr ⟨a, xs, rfl, h, fun hw => ?_, fun hw p np => ?_⟩
    · have h0 := hw.2
      rw [HT.sIx_nat] at h0
      have : xs.take k = xs := List.take_of_length_le (by omega)
      refine r a H (Same.refl H) (.inr ?_)
      rw [this]
      exact h
    · rw [cut_upto]
      exact r p _ (same_upd np) (.inr (SqT.of upd_same))
theorem sqs_of {K : PySem.W.Frag} {H : Hp} {a : Addr} {xs : List V} (h : SqL K H a xs ∨ SqT K H a xs) : Sqs K H (.ref a) true := by
  rcases h with h | h
  · exact sqs_kit (k := "list") (b1 := true) (b2 := false) (tyx_l h) (by decide +kernel) (by decide +kernel)
  · exact sqs_kit (k := "tuple") (b1 := false) (b2 := true) (tyx_t h) (by decide +kernel) (by decide +kernel)
theorem told2 {α : Type} {Rel : Hp → V → α → Prop} {H : Hp} {u v : V} {a b : α} (h1 : Rel H u a) (h2 : Rel H v b) : Told Rel H [u, v] [a, b] := (Told.snoc (Told.snoc Told.nil h1) h2)
theorem take_freshA {α : Type} {ls : List α} (nd : ls.Nodup) {i : Nat} {l : α} (hl : ls[i]? = some l) : l ∉ ls.take i := fun m => by
  obtain ⟨j, hj⟩ := List.mem_iff_getElem?.mp m
  have hji : j < i := by
    have := (List.getElem?_eq_some_iff.mp hj).1
    rw [List.length_take] at this
    omega
  rw [List.getElem?_take_of_lt hji] at hj
  have := (List.getElem?_inj (List.getElem?_eq_some_iff.mp hj).1 nd).mp (hj.trans hl.symm)
  omega
end Bk

namespace Bk
open PySem PySem.Spec PyProof.Rows L2
def spPlaceIn (C CQ : Addr) : Sp := fun vs H Q _ => ∃ (lq q x : Addr) (zs zs' : List Str) (ch ch' : Bool) (qs : List V) (wts : List (List Str → Int)) (wt : List Str → Int), vs = [.ref lq, .ref q] ∧ H lq = some (.lst qs) ∧ QtsAt C CQ H zs ch qs wts ∧ QuestAt C CQ H q x zs' ch' wt ∧ (∀ z ∈ zs, isNameS z = true) ∧ (∀ z ∈ zs', isNameS z = true) ∧
  ∀ H', Same H H' → Q (atV (placeQ zs ch wts zs' ch' wt)) H'
/-- is_end(thing): None, or a whole number -/
def spIsEnd : Sp := fun vs H Q _ => ∃ (v : V), vs = [v] ∧ (v = .non ∨ ∃ i, v = .int i) ∧ Q (.bl true) H
/-- ends_of(told), told as it should be -/
def spEndsOf (K : PySem.W.Frag) : Sp := fun vs H Q _ => ∃ (v lo hi : V), vs = [v] ∧ EndsIn K H v lo hi ∧ ∀ T H', H T = none → Same H H' → H' T = some (.tup [lo, hi]) → Q (.ref T) H'
section
variable {P : Program} {w : World} {K : PySem.W.Frag} {mg : Str → Option Value} {base : Heap}
theorem scPlaceIn : FnScope ["questions", "thing", "at", "question"] ["questions", "thing"] (defScope (topS 60)) := ⟨rfl, rfl, rfl, by decide +kernel, rfl, by decide +kernel, by decide +kernel⟩
theorem ok_place_in (B : Bi mg) {C CQ fQE f : Addr} {fdQE fd : FuncData} (GQE : FnOk P w K mg base CX0 2 fQE fdQE ["self", "other"] (spQEq K C CQ)) (bQE : Binds K fdQE ["self", "other"] []) (mQE : Own K CQ "__eq__" fQE) (nQ : PySem.W.notFirst K CQ (.ref CQ) = true) (tQ : ∀ (H : Hp) (x dx : Addr) (fs : List (Str × V)), H x = some (.ins CQ dx fs) → TyX K H (.ref x) (.ref CQ))
    (F : Fun K "place_in" "place_in" (topS 60) f fd) : FnOk P w K mg base CX0 3 f fd ["questions", "thing"] (spPlaceIn C CQ) := by
  refine F.ok scPlaceIn (fun vs H Q E h => ?_) (fun cdv A outer s H vs Q E hr h => ?_)
  · obtain ⟨lq, q, x, zs, zs', ch, ch', qs, wts, wt, rfl, _⟩ := h
    rfl
  · obtain ⟨lq, q, x, zs, zs', ch, ch', qs, wts, wt, rfl, hq, QS, QA, nm, nm', qq⟩ := h
    have nd := scPlaceIn.nd
    have hrQE : Room 2 _ := hr.mono (by decide)
    refine ⟨_, (pss_cons (ps_for PassesOwn.never rfl (kPiE K (by rfl) B.enumerate (pa_cons (pv 0) pa_nil)) (kTg K 2 rfl (pgs_cons (pg_name (i := 2) nd rfl (Or.inl rfl)) (pgs_cons (pg_name (i := 3) nd rfl (Or.inl rfl)) pgs_nil))) (pss_one (ps_if (pt_cmpR (kEqOwn K GQE bQE pass0 hrQE mQE) (pv 3) (pv 1) (nomark _)) (pss_one (ps_ret (pv 2))) pss_nil)))
      (pss_one (ps_ret pe_non))), ?_⟩
    refine st_seq ?_
    refine for_enS (a := lq) (xs := qs) rfl (.inl (SqL.of hq)) (fun i σ H2 => ∃ v2 v3, σ = [some (.ref lq), some (.ref q), v2, v3] ∧ Same H H2 ∧ ∀ j u, j < i → wts[j]? = some u → eqQ zs ch u zs' ch' wt = false) ?_ ?_ ?_ ?_
    · exact ⟨none, none, rfl, Same.refl _, fun j u hj => absurd hj (Nat.not_lt_zero _)⟩
    · rintro i σ H2 ⟨_, _, _, e2, _⟩
      exact e2
    · rintro i y σ H2 H3 hi' ⟨v2, v3, rfl, e2, hn⟩ ⟨T, y1, y2, rfl, nT, rfl, h1, h2⟩
      cases h1
      have h2 : qs[i]? = some y2 := h2
      have eT := same_upd (o := HO.tup [V.int (i : Nat), y2]) nT
      refine ⟨T, _, rfl, SqT.of upd_same, rfl, _, _, rfl, _, _, rfl, rfl, ?_⟩
      generalize upd H2 T (.tup [.int (i : Nat), y2]) = H3 at eT ⊢
      have e3 : Same H H3 := Same.trans e2 eT
      obtain ⟨wi, hwi⟩ : ∃ wi, wts[i]? = some wi := ⟨_, List.getElem?_eq_getElem (by rw [← QS.1]; exact hi')⟩
      obtain ⟨qi, xi, rfl, QI⟩ := (QS.same e3).2 i _ _ h2 hwi
      have QA3 := QA.same e3
      obtain ⟨d1, t1, a1, _⟩ := id QI
      obtain ⟨d2, t2, a2, _⟩ := id QA3
      refine ⟨_, rfl, _, rfl, qi, d1, _, .ref CQ, rfl, a1, tQ _ _ _ _ a2, nQ, qi, xi, q, x, zs, zs', ch, ch', wi, wt, rfl, QI, QA3, nm, nm', fun H4 e4 => ⟨_, rfl, _, rfl, ?_⟩⟩
      cases hb : eqQ zs ch wi zs' ch' wt with
      | true =>
        refine if_so hb ?_
        refine ⟨_, rfl, ?_⟩
        have z := qq H4 (Same.trans e3 e4)
        rw [place_some hwi hb hn] at z
        exact z
      | false =>
        refine if_no hb ?_
        refine ⟨_, _, rfl, Same.trans e3 e4, fun j u hj hu => ?_⟩
        rcases Nat.lt_succ_iff_lt_or_eq.mp hj with hj | rfl
        · exact hn j u hj hu
        · rw [hwi] at hu
          cases hu
          exact hb
    · rintro σ H2 ⟨v2, v3, rfl, e2, hn⟩
      have z := qq H2 e2
      rw [place_none fun w mw => by
        obtain ⟨j, hj⟩ := List.mem_iff_getElem?.mp mw
        refine hn j w ?_ hj
        rw [QS.1]
        exact (List.getElem?_eq_some_iff.mp hj).1] at z
      exact z
theorem scIsEnd : FnScope ["thing"] ["thing"] (defScope (topS 61)) := ⟨rfl, rfl, rfl, by decide +kernel, rfl, by decide +kernel, by decide +kernel⟩
theorem ok_is_end (B : Bi mg) {f f1 : Addr} {fd fd1 : FuncData} (c_is_integer : Cal P w K mg base CX0 1 "is_integer" f1 fd1 ["thing"] (spIsInt K))
    (F : Fun K "is_end" "is_end" (topS 61) f fd) : FnOk P w K mg base CX0 2 f fd ["thing"] spIsEnd := by
  refine F.ok scIsEnd (fun vs H Q E h => ?_) (fun cdv A outer s H vs Q E hr h => ?_)
  · obtain ⟨v, rfl, _⟩ := h
    rfl
  · obtain ⟨v, rfl, hv, q⟩ := h
    have nd := scIsEnd.nd
    have hr_is_integer : Room 1 _ := hr.mono (by decide)
    refine ⟨_, (pss_one (ps_ret (pe_or (pe_cmpR op_isN (pv 0) pe_non (nomark _)) (pe_one (pe_call c_is_integer.ok hr_is_integer (by rfl) c_is_integer.g c_is_integer.kp c_is_integer.b .nil pass0 (pa_cons (pv 0) pa_nil)))))), ?_⟩
    have ki : kitB "int" "int" = some true := by decide +kernel
    have kb : kitB "int" "bool" = some false := by decide +kernel
    rcases hv with rfl | ⟨i, rfl⟩
    · refine ⟨_, rfl, rfl, _, rfl, ?_⟩
      exact iteT q
    · refine ⟨_, rfl, rfl, _, rfl, ?_⟩
      refine iteF ?_
      exact ⟨_, rfl, .int i, .type "int", true, false, rfl, .base (.int _), kit_ty ki, kit_ty kb, q⟩
theorem scEndsOf : FnScope ["told", "low", "high"] ["told"] (defScope (topS 62)) := ⟨rfl, rfl, rfl, by decide +kernel, rfl, by decide +kernel, by decide +kernel⟩
theorem ok_ends_of (B : Bi mg) {f f1 f2 f3 : Addr} {fd fd1 fd2 fd3 : FuncData} (c_is_integer : Cal P w K mg base CX0 1 "is_integer" f1 fd1 ["thing"] (spIsInt K)) (c_is_list : Cal P w K mg base CX0 1 "is_list" f2 fd2 ["thing"] (spIsList K)) (c_is_end : Cal P w K mg base CX0 2 "is_end" f3 fd3 ["thing"] spIsEnd)
    (F : Fun K "ends_of" "ends_of" (topS 62) f fd) : FnOk P w K mg base CX0 3 f fd ["told"] (spEndsOf K) := by
  refine F.ok scEndsOf (fun vs H Q E h => ?_) (fun cdv A outer s H vs Q E hr h => ?_)
  · obtain ⟨v, lo, hi, rfl, _⟩ := h
    rfl
  · obtain ⟨v, lo, hi, rfl, hv, qq⟩ := h
    have nd := scEndsOf.nd
    have hr_is_end : Room 2 _ := hr.mono (by decide)
    have hr_is_integer : Room 1 _ := hr.mono (by decide)
    have hr_is_list := hr_is_integer
    refine ⟨_, (Evl.pss_cut (ps_if (pt_val (pe_call c_is_integer.ok hr_is_integer (by rfl) c_is_integer.g c_is_integer.kp c_is_integer.b .nil pass0 (pa_cons (pv 0) pa_nil))) (pss_one (ps_ret (pe_tup (pa_cons (pv 0) (pa_cons (pv 0) pa_nil))))) pss_nil)
      (pss_cons (ps_if (PW.pt (pw_or (pt_not (pt_val (pe_call c_is_list.ok hr_is_list (by rfl) c_is_list.g c_is_list.kp c_is_list.b .nil pass0 (pa_cons (pv 0) pa_nil)))) (pw_or1 (pt_cmpR op_ne (pe_callB (kLen K) (by rfl) B.len PySem.boot_len (pa_cons (pv 0) pa_nil)) pe_int (nomark _))))) (pss_one (ps_ret pe_non)) pss_nil)
      (pss_cons (ps_asg (pv 0) (kTgA K 2 rfl (pgs_cons (pg_name (i := 1) nd rfl (Or.inl rfl)) (pgs_cons (pg_name (i := 2) nd rfl (Or.inl rfl)) pgs_nil))))
      (pss_cons (ps_if (PW.pt (pw_or (pt_not (pt_val (pe_call c_is_end.ok hr_is_end (by rfl) c_is_end.g c_is_end.kp c_is_end.b .nil pass0 (pa_cons (pv 1) pa_nil)))) (pw_or (pt_not (pt_val (pe_call c_is_end.ok hr_is_end (by rfl) c_is_end.g c_is_end.kp c_is_end.b .nil pass0 (pa_cons (pv 2) pa_nil)))) (pw_or1 (PW.pt (pw_and (pt_cmpR op_isN (pv 1) pe_non (nomark _)) (pw_and1 (pt_cmpR op_isN (pv 2) pe_non (nomark _))))))))) (pss_one (ps_ret pe_non)) pss_nil)
      (pss_cons (ps_if (PW.pt (pw_and (pt_cmpR op_notN (pv 1) pe_non (nomark _)) (pw_and (pt_cmpR op_notN (pv 2) pe_non (nomark _)) (pw_and1 (pt_cmpR op_gt (pv 1) (pv 2) (nomark _)))))) (pss_one (ps_ret pe_non)) pss_nil)
      (pss_one (ps_ret (pe_tup (pa_cons (pv 1) (pa_cons (pv 2) pa_nil)))))))))), ?_⟩
    have ki : kitB "int" "int" = some true := by decide +kernel
    have kb : kitB "int" "bool" = some false := by decide +kernel
    rcases hv with ⟨n, rfl, rfl, rfl⟩ | ⟨a, rfl, ha, eo⟩
    · refine ⟨fun _ _ => False, ?_, fun _ _ z => z.elim⟩
      refine ⟨_, rfl, .int n, .type "int", true, false, rfl, .base (.int _), kit_ty ki, kit_ty kb, _, rfl, ?_⟩
      refine iteT ?_
      refine ⟨_, rfl, _, rfl, by show 2 ≤ sizeLine; decide, fun p np => ?_⟩
      exact qq p _ np (same_upd np) upd_same
    · obtain ⟨k, ty, n1, n2⟩ : ∃ k : String, TyX K H (.ref a) (.type k) ∧ kitB k "int" = some false ∧ kitB k "bool" = some false := by
        rcases ha with ha | ha
        · exact ⟨"list", tyx_l ha, by decide +kernel, by decide +kernel⟩
        · exact ⟨"tuple", tyx_t ha, by decide +kernel, by decide +kernel⟩
      refine ⟨fun σ' H' => σ' = [some (.ref a), none, none] ∧ H' = H, ?_, ?_⟩
      · refine ⟨_, rfl, .ref a, .type k, false, false, rfl, ty, kit_ty n1, kit_ty n2, _, rfl, ?_⟩
        refine iteF ?_
        exact ⟨rfl, rfl⟩
      rintro σ' H' ⟨rfl, rfl⟩
      refine ⟨_, rfl, .ref a, true, rfl, sqs_of ha, fun H1 e1 => ⟨_, rfl, ?_⟩⟩
      have ha1 : SqL K H1 a [lo, hi] ∨ SqT K H1 a [lo, hi] := ha.imp e1.seq (Same.sqt e1)
      refine iteF ?_
      refine ⟨_, rfl, _, 2, rfl, ha1.elim (fun z => .inl ⟨_, z, rfl⟩) (fun z => .inr ⟨_, z, rfl⟩), rfl, _, rfl, ?_⟩
      refine if_no (by decide) ?_
      have e01 : lo = .non ∨ ∃ i, lo = .int i := by
        rcases eo with ⟨a, _⟩ | ⟨_, b⟩ | ⟨i, j, a, _⟩
        · exact .inl a
        · exact .inr b
        · exact .inr ⟨i, a⟩
      have e02 : hi = .non ∨ ∃ i, hi = .int i := by
        rcases eo with ⟨_, b⟩ | ⟨a, _⟩ | ⟨i, j, _, b, _⟩
        · exact .inr b
        · exact .inl a
        · exact .inr ⟨j, b⟩
      have go : tSeq
          (tIfS
            (tOr (tNot (tB (tCall spIsEnd [] E0 (tCons (tVar 1) tNil))))
              (tOr (tNot (tB (tCall spIsEnd [] E0 (tCons (tVar 2) tNil))))
                (tAnd (tTest (tOp (fun x y H Q => y = V.non ∧ Q (V.bl (decide (x = V.non))) H) (tVar 1) (tC V.non)))
                  (tTest (tOp (fun x y H Q => y = V.non ∧ Q (V.bl (decide (x = V.non))) H) (tVar 2) (tC V.non))))))
            (tRet (tC V.non)) tNext)
          (tSeq
            (tIfS
              (tAnd (tTest (tOp (fun x y H Q => y = V.non ∧ Q (V.bl !decide (x = V.non)) H) (tVar 1) (tC V.non)))
                (tAnd (tTest (tOp (fun x y H Q => y = V.non ∧ Q (V.bl !decide (x = V.non)) H) (tVar 2) (tC V.non)))
                  (tTest (tOp (rI0 fun i j => V.bl (decide (j < i))) (tVar 1) (tVar 2)))))
              (tRet (tC V.non)) tNext)
            (tRet (tTup (tCons (tVar 1) (tCons (tVar 2) tNil))))) { nx := fun x H' => Q V.non H', rt := Q } [some (.ref a), some lo, some hi] H1 := by
        refine ⟨_, rfl, _, rfl, e01, _, rfl, ?_⟩
        refine iteF ?_
        refine ⟨_, rfl, _, rfl, e02, _, rfl, ?_⟩
        refine iteF ?_
        refine ⟨_, rfl, rfl, _, rfl, ?_⟩
        have last : tRet (tTup (tCons (tVar 1) (tCons (tVar 2) tNil))) { nx := fun x H' => Q V.non H', rt := Q } [some (.ref a), some lo, some hi] H1 := ⟨_, rfl, _, rfl, by show 2 ≤ sizeLine; decide, fun p np => qq p _ (e1.free np) (Same.trans e1 (same_upd np)) upd_same⟩
        rcases eo with ⟨rfl, j, rfl⟩ | ⟨rfl, i, rfl⟩ | ⟨i, j, rfl, rfl, le⟩
        · refine iteT ?_
          refine ⟨_, rfl, rfl, _, rfl, ?_⟩
          refine iteF ?_
          refine ⟨_, rfl, rfl, _, rfl, ?_⟩
          refine iteF ?_
          exact last
        · refine iteF ?_
          refine iteF ?_
          refine ⟨_, rfl, rfl, _, rfl, ?_⟩
          refine iteT ?_
          refine ⟨_, rfl, rfl, _, rfl, ?_⟩
          refine iteF ?_
          exact last
        · refine iteF ?_
          refine iteF ?_
          refine ⟨_, rfl, rfl, _, rfl, ?_⟩
          refine iteT ?_
          refine ⟨_, rfl, rfl, _, rfl, ?_⟩
          refine iteT ?_
          refine ⟨_, rfl, _, rfl, i, j, rfl, rfl, _, rfl, ?_⟩
          refine if_no (decide_eq_false (by omega)) ?_
          exact last
      refine ⟨_, rfl, ?_⟩
      exact ha1.elim (fun z => .inr ⟨a, _, rfl, z, rfl, _, _, rfl, _, _, rfl, rfl, go⟩) (fun z => .inl ⟨a, _, rfl, z, rfl, _, _, rfl, _, _, rfl, rfl, go⟩)
end
end Bk

/-! what stays while a book is written -/
namespace Bk
open PySem PySem.Spec PyProof.Rows L2
/-- all but the object at b stays -/
def OffB (b : Addr) (H H' : Hp) : Prop := ∀ a u, a ≠ b → H a = some u → H' a = some u
section
variable {b : Addr} {H H' H2 : Hp}
theorem OffB.of (e : Same H H') : OffB b H H' := fun a u _ h => e _ _ h
theorem OffB.trans (h1 : OffB b H H') (h2 : OffB b H' H2) : OffB b H H2 := fun a u n h => h2 _ _ n (h1 _ _ n h)
theorem OffB.put {o : HO} : OffB b H (upd H b o) := fun a u n h => by rw [upd_ne n]; exact h
theorem fold_noq (t pd : Addr) (ch : Bool) : (foldersF t pd ch).lookup ("questions" : Str) = none := by rfl
theorem quest_noq (x td : Addr) : (questF x td).lookup ("questions" : Str) = none := by rfl
theorem ins_ne {C CB a da db x lq le : Addr} {fs : List (Str × V)} (h : H a = some (.ins C da fs)) (hb : H b = some (.ins CB db (bookF x lq le))) (n : fs.lookup ("questions" : Str) = none) : a ≠ b := ne_of h hb fun z => by
  injection z with _ _ z
  rw [z, look_bq] at n
  cases n
variable {CB db xb lq le : Addr}
theorem FoldersAt.off {C x : Addr} {zs : List Str} {ch : Bool} (h : FoldersAt C H x zs ch) (hb : H b = some (.ins CB db (bookF xb lq le))) (e : OffB b H H') : FoldersAt C H' x zs ch := by
  obtain ⟨dx, t, pd, h1, h2, h3⟩ := h
  exact ⟨dx, t, pd, e _ _ (ins_ne h1 hb (fold_noq _ _ _)) h1, e _ _ (ne_of h2 hb (fun z => nomatch z)) h2, e _ _ (ne_of h3 hb (fun z => nomatch z)) h3⟩
theorem QuestAt.offB {C CQ q x : Addr} {zs : List Str} {ch : Bool} {wt : List Str → Int} (h : QuestAt C CQ H q x zs ch wt) (hb : H b = some (.ins CB db (bookF xb lq le))) (e : OffB b H H') : QuestAt C CQ H' q x zs ch wt := by
  obtain ⟨dq, td, h1, h2, h3⟩ := h
  exact ⟨dq, td, e _ _ (ins_ne h1 hb (quest_noq _ _)) h1, h2.off hb e, e _ _ (ne_of h3 hb (fun z => nomatch z)) h3⟩
theorem QtsAt.off {C CQ : Addr} {zs : List Str} {ch : Bool} {us : List V} {wts : List (List Str → Int)} (h : QtsAt C CQ H zs ch us wts) (hb : H b = some (.ins CB db (bookF xb lq le))) (e : OffB b H H') : QtsAt C CQ H' zs ch us wts := ⟨h.1, fun i u wt h1 h2 => let ⟨q, x, a, c⟩ := h.2 i u wt h1 h2; ⟨q, x, a, c.offB hb e⟩⟩
theorem ends_off {es : List V} {ps : List (V × V)} (h : Told EndAt H es ps) (hb : H b = some (.ins CB db (bookF xb lq le))) (e : OffB b H H') : Told EndAt H' es ps := ⟨h.1, fun i u p h1 h2 => let ⟨T, a, c⟩ := h.2 i u p h1 h2; ⟨T, a, e _ _ (ne_of c hb (fun z => nomatch z)) c⟩⟩
theorem ListsAt.off {C CQ l1 l2 : Addr} {zs : List Str} {ch : Bool} {wts : List (List Str → Int)} {ps : List (V × V)} (h : ListsAt C CQ H l1 l2 zs ch wts ps) (hb : H b = some (.ins CB db (bookF xb lq le))) (e : OffB b H H') : ListsAt C CQ H' l1 l2 zs ch wts ps := by
  obtain ⟨⟨qs, es, a1, a2, a3, a4⟩, l⟩ := h
  exact ⟨⟨qs, es, e _ _ (ne_of a1 hb (fun z => nomatch z)) a1, e _ _ (ne_of a2 hb (fun z => nomatch z)) a2, a3.off hb e, ends_off a4 hb e⟩, l⟩
theorem BookAt.off {C CQ b2 x : Addr} {zs : List Str} {ch : Bool} {wts : List (List Str → Int)} {ps : List (V × V)} (h : BookAt C CQ CB H b2 x zs ch wts ps) (n : b2 ≠ b) (hb : H b = some (.ins CB db (bookF xb lq le))) (e : OffB b H H') : BookAt C CQ CB H' b2 x zs ch wts ps := by
  obtain ⟨d2, q2, e2, a1, a2, a3⟩ := h
  exact ⟨d2, q2, e2, e _ _ n a1, a2.off hb e, a3.off hb e⟩
end
theorem book_putQ (x lq le l : Addr) : putF "questions" (.ref l) (bookF x lq le) = bookF x l le := by rfl
theorem book_putE (x lq le l : Addr) : putF "ends" (.ref l) (bookF x lq le) = bookF x lq l := by rfl
section
variable {C CQ : Addr} {H : Hp} {zs : List Str} {ch : Bool} {us us2 : List V} {wts wts2 : List (List Str → Int)}
theorem QtsAt.app (h1 : QtsAt C CQ H zs ch us wts) (h2 : QtsAt C CQ H zs ch us2 wts2) : QtsAt C CQ H zs ch (us ++ us2) (wts ++ wts2) := ⟨by rw [List.length_append, List.length_append, h1.1, h2.1], fun i u wt e1 e2 => by
  by_cases z : i < us.length
  · rw [List.getElem?_append_left z] at e1
    rw [List.getElem?_append_left (by rw [← h1.1]; exact z)] at e2
    exact h1.2 i u wt e1 e2
  · rw [List.getElem?_append_right (by omega)] at e1
    rw [List.getElem?_append_right (by rw [← h1.1]; omega), ← h1.1] at e2
    exact h2.2 _ u wt e1 e2⟩
theorem QtsAt.one {q x : Addr} {wt : List Str → Int} (h : QuestAt C CQ H q x zs ch wt) : QtsAt C CQ H zs ch [.ref q] [wt] := ⟨rfl, fun i u w e1 e2 => by
  cases i with
  | zero => cases e1; cases e2; exact ⟨q, x, rfl, h⟩
  | succ i => simp at e1⟩
theorem QtsAt.take (h : QtsAt C CQ H zs ch us wts) (n : Nat) : QtsAt C CQ H zs ch (us.take n) (wts.take n) := ⟨by rw [List.length_take, List.length_take, h.1], fun i u wt e1 e2 => by
  rw [List.getElem?_take] at e1 e2
  by_cases z : i < n
  · rw [if_pos z] at e1 e2
    exact h.2 i u wt e1 e2
  · rw [if_neg z] at e1
    cases e1⟩
theorem QtsAt.drop (h : QtsAt C CQ H zs ch us wts) (n : Nat) : QtsAt C CQ H zs ch (us.drop n) (wts.drop n) := ⟨by rw [List.length_drop, List.length_drop, h.1], fun i u wt e1 e2 => by
  rw [List.getElem?_drop] at e1 e2
  exact h.2 _ u wt e1 e2⟩
end
section
variable {α : Type} {Rel : Hp → V → α → Prop} {H : Hp} {us us2 : List V} {ls ls2 : List α}
theorem Told.app (h1 : Told Rel H us ls) (h2 : Told Rel H us2 ls2) : Told Rel H (us ++ us2) (ls ++ ls2) := ⟨by rw [List.length_append, List.length_append, h1.1, h2.1], fun i u l e1 e2 => by
  by_cases z : i < us.length
  · rw [List.getElem?_append_left z] at e1
    rw [List.getElem?_append_left (by rw [← h1.1]; exact z)] at e2
    exact h1.2 i u l e1 e2
  · rw [List.getElem?_append_right (by omega)] at e1
    rw [List.getElem?_append_right (by rw [← h1.1]; omega), ← h1.1] at e2
    exact h2.2 _ u l e1 e2⟩
theorem Told.one {u : V} {l : α} (h : Rel H u l) : Told Rel H [u] [l] := ⟨rfl, fun i u' l' e1 e2 => by
  cases i with
  | zero => cases e1; cases e2; exact h
  | succ i => simp at e1⟩
theorem Told.take (h : Told Rel H us ls) (n : Nat) : Told Rel H (us.take n) (ls.take n) := ⟨by rw [List.length_take, List.length_take, h.1], fun i u l e1 e2 => by
  rw [List.getElem?_take] at e1 e2
  by_cases z : i < n
  · rw [if_pos z] at e1 e2
    exact h.2 i u l e1 e2
  · rw [if_neg z] at e1
    cases e1⟩
theorem Told.drop (h : Told Rel H us ls) (n : Nat) : Told Rel H (us.drop n) (ls.drop n) := ⟨by rw [List.length_drop, List.length_drop, h.1], fun i u l e1 e2 => by
  rw [List.getElem?_drop] at e1 e2
  exact h.2 _ u l e1 e2⟩
end
theorem EndsIn.same {K : PySem.W.Frag} {H H' : Hp} {v lo hi : V} (h : EndsIn K H v lo hi) (e : Same H H') : EndsIn K H' v lo hi := by
  rcases h with h | ⟨a, h1, h2, h3⟩
  · exact .inl h
  · exact .inr ⟨a, h1, h2.imp e.seq (Same.sqt e), h3⟩
theorem place_lt {zs zs' : List Str} {ch ch' : Bool} {wts : List (List Str → Int)} {wt : List Str → Int} {i : Nat} (h : placeQ zs ch wts zs' ch' wt = some i) : i < wts.length := by
  unfold placeQ at h
  rw [List.findIdx?_eq_some_iff_getElem] at h
  exact h.1
theorem FoldersAt.offN {C CB x b db : Addr} {H H' : Hp} {zs : List Str} {ch : Bool} (h : FoldersAt C H x zs ch) (hb : H b = some (.ins CB db [])) (e : OffB b H H') : FoldersAt C H' x zs ch := by
  obtain ⟨dx, t, pd, h1, h2, h3⟩ := h
  exact ⟨dx, t, pd, e _ _ (ne_of h1 hb (fun z => by injection z with _ _ z; cases z)) h1, e _ _ (ne_of h2 hb (fun z => nomatch z)) h2, e _ _ (ne_of h3 hb (fun z => nomatch z)) h3⟩
theorem QuestAt.upLs {CF CQ : Addr} {H : Hp} {q x l : Addr} {zs : List Str} {ch : Bool} {wt : List Str → Int} {xs ys : List V} (h : QuestAt CF CQ H q x zs ch wt) (hl : H l = some (.lst xs)) : QuestAt CF CQ (upd H l (.lst ys)) q x zs ch wt := by
  have k : ∀ {a : Addr} {o : HO}, H a = some o → (∀ zs, o ≠ .lst zs) → upd H l (.lst ys) a = some o := fun e n => by
    rw [upd_ne (ne_of e hl (n _))]
    exact e
  obtain ⟨dq, td, h1, ⟨dx, t, pd, h2, h3, h4⟩, h5⟩ := h
  exact ⟨dq, td, k h1 (fun _ z => nomatch z), ⟨dx, t, pd, k h2 (fun _ z => nomatch z), k h3 (fun _ z => nomatch z), k h4 (fun _ z => nomatch z)⟩, k h5 (fun _ z => nomatch z)⟩
/-- a book's lists are new, or were the book's -/
def NewL (H H' : Hp) (b : Addr) : Prop := ∀ CB db x lq le, H' b = some (.ins CB db (bookF x lq le)) → (H lq = none ∨ ∃ d x' l, H b = some (.ins CB d (bookF x' lq l))) ∧ (H le = none ∨ ∃ d x' l, H b = some (.ins CB d (bookF x' l le)))
theorem bookF_inj {x lq le x' lq' le' : Addr} (h : bookF x lq le = bookF x' lq' le') : x = x' ∧ lq = lq' ∧ le = le' := by
  unfold bookF at h
  injection h with h1 h
  injection h with h2 h
  injection h with h3 _
  injection h1 with _ h1
  injection h2 with _ h2
  injection h3 with _ h3
  injection h1 with h1
  injection h2 with h2
  injection h3 with h3
  exact ⟨h1, h2, h3⟩
theorem NewL.of {H H' : Hp} {b CB db x lq le : Addr} (hb : H' b = some (.ins CB db (bookF x lq le))) (h1 : H lq = none ∨ ∃ d x' l, H b = some (.ins CB d (bookF x' lq l))) (h2 : H le = none ∨ ∃ d x' l, H b = some (.ins CB d (bookF x' l le))) : NewL H H' b := fun CB' db' x' lq' le' h => by
  rw [hb] at h
  injection h with h
  injection h with c1 c2 c3
  obtain ⟨_, rfl, rfl⟩ := bookF_inj c3
  subst c1
  exact ⟨h1, h2⟩
theorem OffB.free {b p : Addr} {H H' : Hp} {u : HO} (e : OffB b H H') (hb : H' b = some u) (h : H' p = none) : H p = none := by
  cases q : H p with
  | none => rfl
  | some v =>
    have := e p v (fun z => by rw [z, hb] at h; cases h) q
    rw [h] at this
    cases this
end Bk

namespace Bk
open PySem PySem.Spec PyProof.Rows L2
/-- Book(folders) -/
def spBookI (C CQ CB : Addr) : Sp := fun vs H Q _ => ∃ (b db x : Addr) (zs : List Str) (ch : Bool), vs = [.ref b, .ref x] ∧ H b = some (.ins CB db []) ∧ FoldersAt C H x zs ch ∧ ∀ H', BookAt C CQ CB H' b x zs ch [] [] → OffB b H H' → NewL H H' b → Q .non H'
/-- book[question], which is told -/
def spBGet (C CQ CB : Addr) : Sp := fun vs H Q _ => ∃ (b x q x' : Addr) (zs zs' : List Str) (ch ch' : Bool) (wts : List (List Str → Int)) (ps : List (V × V)) (wt : List Str → Int) (i : Nat), vs = [.ref b, .ref q] ∧ BookAt C CQ CB H b x zs ch wts ps ∧ QuestAt C CQ H q x' zs' ch' wt ∧ (∀ z ∈ zs, isNameS z = true) ∧ (∀ z ∈ zs', isNameS z = true) ∧ placeQ zs ch wts zs' ch' wt = some i ∧
  ∀ T p H', Same H H' → ps[i]? = some p → H' T = some (.tup [p.1, p.2]) → Q (.ref T) H'
def putQs (zs : List Str) (ch : Bool) (wts : List (List Str → Int)) (wt : List Str → Int) : List (List Str → Int) := match placeQ zs ch wts zs ch wt with
  | none => wts ++ [wt]
  | some _ => wts
def putPs (zs : List Str) (ch : Bool) (wts : List (List Str → Int)) (wt : List Str → Int) (ps : List (V × V)) (p : V × V) : List (V × V) := match placeQ zs ch wts zs ch wt with
  | none => ps ++ [p]
  | some i => ps.take i ++ [p] ++ ps.drop (i + 1)
/-- book[question] = ends -/
def spBSet (K : PySem.W.Frag) (C CQ CB : Addr) : Sp := fun vs H Q _ => ∃ (b x q x' : Addr) (v lo hi : V) (zs : List Str) (ch : Bool) (wts : List (List Str → Int)) (ps : List (V × V)) (wt : List Str → Int), vs = [.ref b, .ref q, v] ∧ BookAt C CQ CB H b x zs ch wts ps ∧ QuestAt C CQ H q x' zs ch wt ∧ (∀ z ∈ zs, isNameS z = true) ∧ EndsIn K H v lo hi ∧ wts.length ≤ 1000 ∧
  ∀ H', BookAt C CQ CB H' b x zs ch (putQs zs ch wts wt) (putPs zs ch wts wt ps (lo, hi)) → OffB b H H' → NewL H H' b → Q .non H'
/-- question in book -/
def spBIn (C CQ CB : Addr) : Sp := fun vs H Q _ => ∃ (b x q x' : Addr) (zs zs' : List Str) (ch ch' : Bool) (wts : List (List Str → Int)) (ps : List (V × V)) (wt : List Str → Int), vs = [.ref b, .ref q] ∧ BookAt C CQ CB H b x zs ch wts ps ∧ QuestAt C CQ H q x' zs' ch' wt ∧ (∀ z ∈ zs, isNameS z = true) ∧ (∀ z ∈ zs', isNameS z = true) ∧
  ∀ H', Same H H' → Q (.bl (placeQ zs ch wts zs' ch' wt).isSome) H'
def spBLen (C CQ CB : Addr) : Sp := fun vs H Q _ => ∃ (b x : Addr) (zs : List Str) (ch : Bool) (wts : List (List Str → Int)) (ps : List (V × V)), vs = [.ref b] ∧ BookAt C CQ CB H b x zs ch wts ps ∧ Q (.int (wts.length : Nat)) H
/-- a telling as told() says it -/
def TelAt (C CQ : Addr) (zs : List Str) (ch : Bool) (H : Hp) (u : V) (t : (List Str → Int) × V × V) : Prop := ∃ T q x, u = .ref T ∧ H T = some (.tup [.ref q, t.2.1, t.2.2]) ∧ QuestAt C CQ H q x zs ch t.1
theorem stays_tel {C CQ : Addr} {zs : List Str} {ch : Bool} : Stays (TelAt C CQ zs ch) := ⟨fun H1 H2 u l e ⟨T, q, x, h1, h2, h3⟩ => ⟨T, q, x, h1, e _ _ h2, h3.same e⟩, fun H1 D as bs u l hD ⟨T, q, x, h1, h2, h3⟩ => ⟨T, q, x, h1, by rw [upd_ne (ne_of h2 hD (fun z => nomatch z))]; exact h2, h3.upLs hD⟩⟩
def spBTold (C CQ CB : Addr) : Sp := fun vs H Q _ => ∃ (b x : Addr) (zs : List Str) (ch : Bool) (wts : List (List Str → Int)) (ps : List (V × V)), vs = [.ref b] ∧ BookAt C CQ CB H b x zs ch wts ps ∧ wts.length ≤ 1000 ∧ ∀ L ts H', H L = none → Same H H' → H' L = some (.lst ts) → Told (TelAt C CQ zs ch) H' ts (wts.zip ps) → Q (.ref L) H'
def spBDrop (C CQ CB : Addr) : Sp := fun vs H Q _ => ∃ (b x q x' : Addr) (zs : List Str) (ch : Bool) (wts : List (List Str → Int)) (ps : List (V × V)) (wt : List Str → Int) (i : Nat), vs = [.ref b, .ref q] ∧ BookAt C CQ CB H b x zs ch wts ps ∧ QuestAt C CQ H q x' zs ch wt ∧ (∀ z ∈ zs, isNameS z = true) ∧ placeQ zs ch wts zs ch wt = some i ∧ wts.length ≤ 1000 ∧
  ∀ H', BookAt C CQ CB H' b x zs ch (wts.take i ++ wts.drop (i + 1)) (ps.take i ++ ps.drop (i + 1)) → OffB b H H' → NewL H H' b → Q .non H'
def spBCopy (C CQ CB : Addr) : Sp := fun vs H Q _ => ∃ (b x : Addr) (zs : List Str) (ch : Bool) (wts : List (List Str → Int)) (ps : List (V × V)), vs = [.ref b] ∧ BookAt C CQ CB H b x zs ch wts ps ∧ ∀ b' H', H b' = none → Same H H' → BookAt C CQ CB H' b' x zs ch wts ps → NewL H H' b' → Q (.ref b') H'
/-- iter(self.questions) -/
def spBIter (C CQ CB : Addr) (n : Nat) : Sp := fun vs H Q _ => ∃ (b x db lq le : Addr) (qs : List V), vs = [.ref b] ∧ H b = some (.ins CB db (bookF x lq le)) ∧ H lq = some (.lst qs) ∧ ∀ it, H it = none → n ≤ it → Q (.ref it) (upd H it (ItO lq it 0))
section
variable {P : Program} {w : World} {K : PySem.W.Frag} {mg : Str → Option Value} {base : Heap}
theorem scBookI : FnScope ["self", "folders"] ["self", "folders"] (defScope (inClass (topS 59) 0)) := ⟨rfl, rfl, rfl, by decide +kernel, rfl, by decide +kernel, by decide +kernel⟩
theorem ok_bookI (B : Bi mg) {C CQ CB fB f : Addr} {fd : FuncData} (TB : BooT K mg CB fB) (F : Fun K "__init__" "Book.__init__" (inClass (topS 59) 0) f fd) : FnOk P w K mg base CX0 1 f fd ["self", "folders"] (spBookI C CQ CB) := by
  refine F.ok scBookI (fun vs H Q E h => ?_) (fun cdv A outer s H vs Q E hr h => ?_)
  · obtain ⟨b, db, x, zs, ch, rfl, _⟩ := h
    rfl
  · obtain ⟨b, db, x, zs, ch, rfl, hb, FA, q⟩ := h
    have nd := scBookI.nd
    refine ⟨_, (pss_cons (ps_fld (pv 0) (pv 1) rfl)
      (pss_cons (ps_fld (pv 0) (pe_lst pa_nil) rfl)
      (pss_one (ps_fld (pv 0) (pe_lst pa_nil) rfl)))), ?_⟩
    refine ⟨_, rfl, _, rfl, b, CB, db, _, rfl, hb, TB.cl, TB.nF, by show 0 < 1000; decide, ?_⟩
    have hb1 : upd H b (.ins CB db (putF "folders" (.ref x) [])) b = some (.ins CB db [("folders", .ref x)]) := upd_same
    have o1 : OffB b H (upd H b (.ins CB db (putF "folders" (.ref x) []))) := OffB.put
    generalize upd H b (.ins CB db (putF "folders" (.ref x) [])) = H1 at hb1 o1 ⊢
    refine ⟨Nat.zero_le _, fun lq nlq => ?_⟩
    have e1 := same_upd (o := HO.lst []) nlq
    have nq : lq ≠ b := (ne_of_none hb1 nlq).symm
    refine ⟨_, rfl, b, CB, db, _, rfl, e1 _ _ hb1, TB.cl, TB.nQ, by show 1 < 1000; decide, ?_⟩
    have hb2 : upd (upd H1 lq (.lst [])) b (.ins CB db (putF "questions" (.ref lq) [("folders", .ref x)])) b = some (.ins CB db [("folders", .ref x), ("questions", .ref lq)]) := upd_same
    have hq2 : upd (upd H1 lq (.lst [])) b (.ins CB db (putF "questions" (.ref lq) [("folders", .ref x)])) lq = some (.lst []) := by rw [upd_ne nq, upd_same]
    have o2 : OffB b H (upd (upd H1 lq (.lst [])) b (.ins CB db (putF "questions" (.ref lq) [("folders", .ref x)]))) := o1.trans ((OffB.of e1).trans OffB.put)
    generalize upd (upd H1 lq (.lst [])) b (.ins CB db (putF "questions" (.ref lq) [("folders", .ref x)])) = H2 at hb2 hq2 o2 ⊢
    refine ⟨Nat.zero_le _, fun le nle => ?_⟩
    have e2 := same_upd (o := HO.lst []) nle
    have ne : le ≠ b := (ne_of_none hb2 nle).symm
    refine ⟨_, rfl, b, CB, db, _, rfl, e2 _ _ hb2, TB.cl, TB.nE, by show 2 < 1000; decide, ?_⟩
    have o3 : OffB b H (upd (upd H2 le (.lst [])) b (.ins CB db (putF "ends" (.ref le) [("folders", .ref x), ("questions", .ref lq)]))) := o2.trans ((OffB.of e2).trans OffB.put)
    refine q _ ⟨db, lq, le, upd_same, FA.offN hb o3, ⟨[], [], ?_, ?_, ⟨rfl, fun i u wt h => by simp at h⟩, Told.nil⟩, rfl⟩ o3 (.of (by rw [upd_same]; rfl) (.inl (o1.free hb1 nlq)) (.inl (o2.free hb2 nle)))
    · rw [upd_ne nq]
      exact e2 _ _ hq2
    · rw [upd_ne ne, upd_same]
theorem scBGet : FnScope ["self", "at", "place"] ["self", "at"] (defScope (inClass (topS 59) 1)) := ⟨rfl, rfl, rfl, by decide +kernel, rfl, by decide +kernel, by decide +kernel⟩
theorem ok_bGet (B : Bi mg) {C CQ CB fB f f1 : Addr} {fd fd1 : FuncData} (TB : BooT K mg CB fB) (c_place_in : Cal P w K mg base CX0 3 "place_in" f1 fd1 ["questions", "thing"] (spPlaceIn C CQ)) (F : Fun K "__getitem__" "Book.__getitem__" (inClass (topS 59) 1) f fd) : FnOk P w K mg base CX0 4 f fd ["self", "at"] (spBGet C CQ CB) := by
  refine F.ok scBGet (fun vs H Q E h => ?_) (fun cdv A outer s H vs Q E hr h => ?_)
  · obtain ⟨b, x, q, x', zs, zs', ch, ch', wts, ps, wt, i, rfl, _⟩ := h
    rfl
  · obtain ⟨b, x, q, x', zs, zs', ch, ch', wts, ps, wt, i, rfl, BA, QA, nm, nm', hp, qq⟩ := h
    have nd := scBGet.nd
    have hr_place_in := hr
    refine ⟨_, (pss_cons (ps_set (i := 2) nd rfl (Or.inl rfl) (pe_call c_place_in.ok hr_place_in (by rfl) c_place_in.g c_place_in.kp c_place_in.b .nil pass0 (pa_cons (pe_fld (pv 0) rfl) (pa_cons (pv 1) pa_nil))))
      (pss_cons (ps_if (pt_cmpR op_isN (pv 2) pe_non (nomark _)) (pss_one ps_no) pss_nil)
      (pss_one (ps_ret (pe_ix (kIxL K) (pe_fld (pv 0) rfl) (pv 2) (fun _ _ => rfl)))))), ?_⟩
    obtain ⟨db, lq, le, hb, FA, ⟨qs, es, h1, h2, QS, ES⟩, len⟩ := BA
    refine ⟨_, rfl, b, CB, db, _, _, rfl, hb, TB.cl, TB.nQ, look_bq _ _ _, _, rfl, lq, q, x', zs, zs', ch, ch', qs, wts, wt, rfl, h1, QS, QA, nm, nm', fun H1 e1 => ?_⟩
    rw [hp]
    refine ⟨_, rfl, rfl, _, rfl, ?_⟩
    refine iteF ?_
    have hi : i < ps.length := by rw [← len]; exact place_lt hp
    have hpi : ps[i]? = some ps[i] := List.getElem?_eq_getElem hi
    obtain ⟨u, hu⟩ : ∃ u, es[i]? = some u := ⟨_, List.getElem?_eq_getElem (by rw [ES.1]; exact hi)⟩
    obtain ⟨T, rfl, hT⟩ := ES.2 i u _ hu hpi
    refine ⟨_, rfl, b, CB, db, _, _, rfl, e1 _ _ hb, TB.cl, TB.nE, look_be _ _ _, _, rfl, le, es, (i : Int), .ref T, rfl, rfl, SqL.of (e1 _ _ h2), atI_nat hu, ?_⟩
    exact qq T _ H1 e1 hpi (e1 _ _ hT)
theorem scBSet : FnScope ["self", "at", "worth", "ends", "place"] ["self", "at", "worth"] (defScope (inClass (topS 59) 2)) := ⟨rfl, rfl, rfl, by decide +kernel, rfl, by decide +kernel, by decide +kernel⟩
theorem ok_bSet (B : Bi mg) {C CQ CB fQ fE fB f f1 f2 : Addr} {fdE fd fd1 fd2 : FuncData} (TQ : QueT K mg CQ fQ) (TB : BooT K mg CB fB) (kT : PySem.W.kitOne K (.ref C) (.ref C) = some true) (tF : ∀ (H : Hp) (x dx : Addr) (fs : List (Str × V)), H x = some (.ins C dx fs) → TyX K H (.ref x) (.ref C))
    (GE : FnOk P w K mg base CX0 1 fE fdE ["self", "other"] (spFEq K C)) (bE : Binds K fdE ["self", "other"] []) (mE : Own K C "__eq__" fE) (cE : eqCls K C fE = true)
    (c_place_in : Cal P w K mg base CX0 3 "place_in" f1 fd1 ["questions", "thing"] (spPlaceIn C CQ)) (c_ends_of : Cal P w K mg base CX0 3 "ends_of" f2 fd2 ["told"] (spEndsOf K)) (F : Fun K "__setitem__" "Book.__setitem__" (inClass (topS 59) 2) f fd) : FnOk P w K mg base CX0 4 f fd ["self", "at", "worth"] (spBSet K C CQ CB) := by
  refine F.ok scBSet (fun vs H Q E h => ?_) (fun cdv A outer s H vs Q E hr h => ?_)
  · obtain ⟨b, x, q, x', v, lo, hi, zs, ch, wts, ps, wt, rfl, _⟩ := h
    rfl
  · obtain ⟨b, x, q, x', v, lo, hi, zs, ch, wts, ps, wt, rfl, BA, QA, nm, hv, few, qq⟩ := h
    have nd := scBSet.nd
    have hu := hu_of hr
    have hr_place_in := hr
    have hr_ends_of := hr
    have hrN : Room 2 _ := hr.mono (by decide)
    refine ⟨_, (Evl.pss_cut (ps_if (pt_cmpR (op_neOwn GE bE pass0 hrN cE mE.fn) (pe_fld (pv 0) rfl) (pe_fld (pv 1) rfl) (nomark _)) (pss_one ps_no) pss_nil)
      (Evl.pss_cut (ps_set (i := 3) nd rfl (Or.inl rfl) (pe_call c_ends_of.ok hr_ends_of (by rfl) c_ends_of.g c_ends_of.kp c_ends_of.b .nil pass0 (pa_cons (pv 2) pa_nil)))
      (Evl.pss_cut (ps_if (pt_cmpR op_isN (pv 3) pe_non (nomark _)) (pss_one ps_no) pss_nil)
      (Evl.pss_cut (ps_set (i := 4) nd rfl (Or.inl rfl) (pe_call c_place_in.ok hr_place_in (by rfl) c_place_in.g c_place_in.kp c_place_in.b .nil pass0 (pa_cons (pe_fld (pv 0) rfl) (pa_cons (pv 1) pa_nil))))
      (pss_one (ps_if (pt_cmpR op_isN (pv 4) pe_non (nomark _)) (Evl.pss_cut (ps_fld (pv 0) (pe_op op_cat (pe_fld (pv 0) rfl) (pe_lst (pa_cons (pv 1) pa_nil))) rfl)
      (pss_one (ps_fld (pv 0) (pe_op op_cat (pe_fld (pv 0) rfl) (pe_lst (pa_cons (pv 3) pa_nil))) rfl))) (pss_one (ps_fld (pv 0) (pe_op op_cat (pe_op op_cat (pe_slice (kSlL K) (pe_fld (pv 0) rfl) po_none (po_some (pv 4))) (pe_lst (pa_cons (pv 3) pa_nil))) (pe_slice (kSlL K) (pe_fld (pv 0) rfl) (po_some (pe_op op_add (pv 4) pe_int)) po_none)) rfl)))))))), ?_⟩
    obtain ⟨db, lq, le, hb, FA, ⟨qs, es, h1, h2, QS, ES⟩, len⟩ := id BA
    obtain ⟨dq, td, hq, FQ, htd⟩ := id QA
    obtain ⟨dx, t, pd, hx, ht, hpd⟩ := id FA
    obtain ⟨dx', t', pd', hx', ht', hpd'⟩ := id FQ
    refine ⟨fun σ H1 => σ = [some (.ref b), some (.ref q), some v, none, none] ∧ Same H H1, ?_, ?_⟩
    · refine ⟨_, rfl, b, CB, db, _, _, rfl, hb, TB.cl, TB.nF, look_bf _ _ _, _, rfl, q, CQ, dq, _, _, rfl, hq, TQ.cl, TQ.nF, look_folders _ _, x, dx, x', dx', _, _, rfl, rfl, hx, hx', x, .ref x', .ref C, zs, ch, _, rfl, FA, nm, tF _ _ _ _ hx', .inr ⟨kT, x', zs, ch, rfl, FQ, nm, rfl⟩, fun H2 e2 => ⟨_, rfl, _, rfl, ?_⟩⟩
      rw [decide_eq_true rfl, decide_eq_true rfl]
      refine iteF ?_
      exact ⟨rfl, e2⟩
    rintro σ H1 ⟨rfl, e1⟩
    refine ⟨fun σ H2 => ∃ T, σ = [some (.ref b), some (.ref q), some v, some (.ref T), none] ∧ Same H H2 ∧ H2 T = some (.tup [lo, hi]), ?_, ?_⟩
    · exact ⟨_, rfl, v, lo, hi, rfl, hv.same e1, fun T H2 nT e2 hT => ⟨T, rfl, Same.trans e1 e2, hT⟩⟩
    rintro σ H2 ⟨T, rfl, e2, hT⟩
    refine ⟨fun σ H3 => σ = [some (.ref b), some (.ref q), some v, some (.ref T), none] ∧ H3 = H2, ?_, ?_⟩
    · refine ⟨_, rfl, rfl, _, rfl, ?_⟩
      refine iteF ?_
      exact ⟨rfl, rfl⟩
    rintro σ H3 ⟨rfl, rfl⟩
    refine ⟨fun σ H4 => σ = [some (.ref b), some (.ref q), some v, some (.ref T), some (atV (placeQ zs ch wts zs ch wt))] ∧ Same H H4 ∧ H4 T = some (.tup [lo, hi]), ?_, ?_⟩
    · exact ⟨_, rfl, b, CB, db, _, _, rfl, e2 _ _ hb, TB.cl, TB.nQ, look_bq _ _ _, _, rfl, lq, q, x', zs, zs, ch, ch, qs, wts, wt, rfl, e2 _ _ h1, QS.same e2, QA.same e2, nm, nm, fun H4 e4 => ⟨rfl, Same.trans e2 e4, e4 _ _ hT⟩⟩
    rintro σ H4 ⟨rfl, e4, hT4⟩
    have hb4 := e4 _ _ hb
    have h14 := e4 _ _ h1
    have h24 := e4 _ _ h2
    have lqs := QS.1
    have les := ES.1
    cases hp : placeQ zs ch wts zs ch wt with
    | none =>
      have qq : ∀ H', BookAt C CQ CB H' b x zs ch (wts ++ [wt]) (ps ++ [(lo, hi)]) → OffB b H H' → NewL H H' b → Q .non H' := fun H' hB o nw => qq H' (by unfold putQs putPs; rw [hp]; exact hB) o nw
      refine ⟨_, rfl, rfl, _, rfl, ?_⟩
      refine iteT ?_
      refine ⟨fun σ H5 => ∃ A, σ = [some (.ref b), some (.ref q), some v, some (.ref T), some .non] ∧ OffB b H4 H5 ∧ H5 b = some (.ins CB db (bookF x A le)) ∧ H5 A = some (.lst (qs ++ [.ref q])) ∧ H A = none, ?_, ?_⟩
      · refine ⟨_, rfl, b, CB, db, _, _, rfl, hb4, TB.cl, TB.nQ, look_bq _ _ _, _, rfl, by show 1 ≤ sizeLine; decide, fun p np => ?_⟩
        have ep := same_upd (o := HO.lst [.ref q]) np
        refine ⟨lq, p, qs, [.ref q], rfl, rfl, ep _ _ h14, upd_same, by rw [sizeLine_eq]; show qs.length + 1 ≤ _; omega, fun A nA => ?_⟩
        have eA := same_upd (o := HO.lst (qs ++ [V.ref q])) nA
        have e5 := Same.trans ep eA
        have nAb : A ≠ b := (ne_of_none (ep _ _ hb4) nA).symm
        refine ⟨_, rfl, b, CB, db, _, rfl, e5 _ _ hb4, TB.cl, TB.nQ, by show 3 < 1000; decide, A, rfl, (OffB.of e5).trans OffB.put, ?_, ?_, (Same.trans e4 ep).free nA⟩
        · rw [upd_same, book_putQ]
        · rw [upd_ne nAb, upd_same]
      rintro σ H5 ⟨A, rfl, o5, hb5, hA5, nA⟩
      have nT : T ≠ b := ne_of hT4 hb4 (fun z => nomatch z)
      have nle : le ≠ b := ne_of h24 hb4 (fun z => nomatch z)
      refine ⟨_, rfl, b, CB, db, _, _, rfl, hb5, TB.cl, TB.nE, look_be _ _ _, _, rfl, by show 1 ≤ sizeLine; decide, fun p np => ?_⟩
      have ep := same_upd (o := HO.lst [.ref T]) np
      refine ⟨le, p, es, [.ref T], rfl, rfl, ep _ _ (o5 _ _ nle h24), upd_same, by rw [sizeLine_eq]; show es.length + 1 ≤ _; omega, fun L nL => ?_⟩
      have eL := same_upd (o := HO.lst (es ++ [V.ref T])) nL
      have e6 := Same.trans ep eL
      have nLb : L ≠ b := (ne_of_none (ep _ _ hb5) nL).symm
      have nAb : A ≠ b := ne_of hA5 hb5 (fun z => nomatch z)
      refine ⟨_, rfl, b, CB, db, _, rfl, e6 _ _ hb5, TB.cl, TB.nE, by show 3 < 1000; decide, ?_⟩
      have o7 := o5.trans ((OffB.of e6).trans (OffB.put (o := .ins CB db (putF "ends" (.ref L) (bookF x A le)))))
      refine qq _ ⟨db, A, L, by rw [upd_same, book_putE], (FA.same e4).off hb4 o7, ⟨qs ++ [.ref q], es ++ [.ref T], ?_, ?_, ((QS.same e4).off hb4 o7).app (.one ((QA.same e4).offB hb4 o7)), (ends_off (ES.same stays_end e4) hb4 o7).app (.one ⟨T, rfl, o7 _ _ nT hT4⟩)⟩, by rw [List.length_append, List.length_append, len]; rfl⟩ ((OffB.of e4).trans o7) (.of (by rw [upd_same, book_putE]) (.inl nA) (.inl (e4.free (o5.free hb5 (ep.free nL)))))
      · rw [upd_ne nAb]
        exact e6 _ _ hA5
      · rw [upd_ne nLb, upd_same]
    | some i =>
      have hlt := place_lt hp
      have qq : ∀ H', BookAt C CQ CB H' b x zs ch wts (ps.take i ++ [(lo, hi)] ++ ps.drop (i + 1)) → OffB b H H' → NewL H H' b → Q .non H' := fun H' hB o nw => qq H' (by unfold putQs putPs; rw [hp]; exact hB) o nw
      refine ⟨_, rfl, rfl, _, rfl, ?_⟩
      refine iteF ?_
      have nT : T ≠ b := ne_of hT4 hb4 (fun z => nomatch z)
      refine ⟨_, rfl, b, CB, db, _, _, rfl, hb4, TB.cl, TB.nE, look_be _ _ _, _, rfl, _, rfl, le, es, rfl, SqL.of h24, fun p1 np1 => ?_⟩
      rw [cut_upto]
      have e5 := same_upd (o := HO.lst (es.take i)) np1
      refine ⟨_, rfl, by show 1 ≤ sizeLine; decide, fun p2 np2 => ?_⟩
      have e6 := Same.trans e5 (same_upd (o := HO.lst [.ref T]) np2)
      have hp1 : upd (upd H4 p1 (.lst (es.take i))) p2 (.lst [.ref T]) p1 = some (.lst (es.take i)) := (same_upd np2) _ _ upd_same
      have hp2 : upd (upd H4 p1 (.lst (es.take i))) p2 (.lst [.ref T]) p2 = some (.lst [.ref T]) := upd_same
      generalize upd (upd H4 p1 (.lst (es.take i))) p2 (.lst [.ref T]) = H6 at e6 hp1 hp2 ⊢
      have l1 : (es.take i).length ≤ es.length := by rw [List.length_take]; omega
      have l2 : (es.drop (i + 1)).length ≤ es.length := by rw [List.length_drop]; omega
      refine ⟨p1, p2, _, _, rfl, rfl, hp1, hp2, by rw [sizeLine_eq]; show (es.take i).length + 1 ≤ _; omega, fun p3 np3 => ?_⟩
      have e7 := Same.trans e6 (same_upd (o := HO.lst (es.take i ++ [.ref T])) np3)
      have hp3 : upd H6 p3 (.lst (es.take i ++ [.ref T])) p3 = some (.lst (es.take i ++ [.ref T])) := upd_same
      generalize upd H6 p3 (.lst (es.take i ++ [.ref T])) = H7 at e7 hp3 ⊢
      refine ⟨_, rfl, b, CB, db, _, _, rfl, e7 _ _ hb4, TB.cl, TB.nE, look_be _ _ _, _, rfl, (i : Int), 1, rfl, rfl, _, rfl, le, es, rfl, SqL.of (e7 _ _ h24), fun p4 np4 => ?_⟩
      rw [show ((i : Int) + 1) = ((i + 1 : Nat) : Int) from rfl, cut_from]
      have e8 := Same.trans e7 (same_upd (o := HO.lst (es.drop (i + 1))) np4)
      have hp38 : upd H7 p4 (.lst (es.drop (i + 1))) p3 = some (.lst (es.take i ++ [.ref T])) := (same_upd np4) _ _ hp3
      have hp4 : upd H7 p4 (.lst (es.drop (i + 1))) p4 = some (.lst (es.drop (i + 1))) := upd_same
      generalize upd H7 p4 (.lst (es.drop (i + 1))) = H8 at e8 hp38 hp4 ⊢
      refine ⟨p3, p4, _, _, rfl, rfl, hp38, hp4, by rw [sizeLine_eq, List.length_append]; show (es.take i).length + 1 + (es.drop (i + 1)).length ≤ _; omega, fun L nL => ?_⟩
      have e9 := Same.trans e8 (same_upd (o := HO.lst (es.take i ++ [.ref T] ++ es.drop (i + 1))) nL)
      have nLb : L ≠ b := (ne_of_none (e8 _ _ hb4) nL).symm
      refine ⟨_, rfl, b, CB, db, _, rfl, e9 _ _ hb4, TB.cl, TB.nE, by show 3 < 1000; decide, ?_⟩
      have o7 := (OffB.of e9).trans (OffB.put (b := b) (o := .ins CB db (putF "ends" (.ref L) (bookF x lq le))))
      have nlq : lq ≠ b := ne_of h14 hb4 (fun z => nomatch z)
      have ES7 := ends_off (ES.same stays_end e4) hb4 o7
      refine qq _ ⟨db, lq, L, by rw [upd_same, book_putE], (FA.same e4).off hb4 o7, ⟨qs, es.take i ++ [.ref T] ++ es.drop (i + 1), o7 _ _ nlq h14, ?_, (QS.same e4).off hb4 o7, ((ES7.take i).app (.one ⟨T, rfl, o7 _ _ nT hT4⟩)).app (ES7.drop (i + 1))⟩, ?_⟩ ((OffB.of e4).trans o7) (.of (by rw [upd_same, book_putE]) (.inr ⟨db, x, le, hb⟩) (.inl ((Same.trans e4 e8).free nL)))
      · rw [upd_ne nLb, upd_same]
      · rw [List.length_append, List.length_append, List.length_take, List.length_drop]
        show wts.length = min i ps.length + 1 + (ps.length - (i + 1))
        omega
theorem scBIn : FnScope ["self", "x"] ["self", "x"] (defScope (inClass (topS 59) 4)) := ⟨rfl, rfl, rfl, by decide +kernel, rfl, by decide +kernel, by decide +kernel⟩
theorem ok_bIn (B : Bi mg) {C CQ CB fB f f1 : Addr} {fd fd1 : FuncData} (TB : BooT K mg CB fB) (c_place_in : Cal P w K mg base CX0 3 "place_in" f1 fd1 ["questions", "thing"] (spPlaceIn C CQ)) (F : Fun K "__contains__" "Book.__contains__" (inClass (topS 59) 4) f fd) : FnOk P w K mg base CX0 4 f fd ["self", "x"] (spBIn C CQ CB) := by
  refine F.ok scBIn (fun vs H Q E h => ?_) (fun cdv A outer s H vs Q E hr h => ?_)
  · obtain ⟨b, x, q, x', zs, zs', ch, ch', wts, ps, wt, rfl, _⟩ := h
    rfl
  · obtain ⟨b, x, q, x', zs, zs', ch, ch', wts, ps, wt, rfl, BA, QA, nm, nm', qq⟩ := h
    have nd := scBIn.nd
    have hr_place_in := hr
    refine ⟨_, (pss_one (ps_ret (pe_cmpR op_notN (pe_call c_place_in.ok hr_place_in (by rfl) c_place_in.g c_place_in.kp c_place_in.b .nil pass0 (pa_cons (pe_fld (pv 0) rfl) (pa_cons (pv 1) pa_nil))) pe_non (nomark _)))), ?_⟩
    obtain ⟨db, lq, le, hb, FA, ⟨qs, es, h1, h2, QS, ES⟩, len⟩ := BA
    refine ⟨_, rfl, b, CB, db, _, _, rfl, hb, TB.cl, TB.nQ, look_bq _ _ _, _, rfl, lq, q, x', zs, zs', ch, ch', qs, wts, wt, rfl, h1, QS, QA, nm, nm', fun H1 e1 => ?_⟩
    refine ⟨rfl, ?_⟩
    have z := qq H1 e1
    cases hp : placeQ zs ch wts zs' ch' wt with
    | none => rw [hp] at z; exact z
    | some i => rw [hp] at z; exact z
theorem scBLen : FnScope ["self"] ["self"] (defScope (inClass (topS 59) 5)) := ⟨rfl, rfl, rfl, by decide +kernel, rfl, by decide +kernel, by decide +kernel⟩
theorem ok_bLen (B : Bi mg) {C CQ CB fB f : Addr} {fd : FuncData} (TB : BooT K mg CB fB) (F : Fun K "__len__" "Book.__len__" (inClass (topS 59) 5) f fd) : FnOk P w K mg base CX0 1 f fd ["self"] (spBLen C CQ CB) := by
  refine F.ok scBLen (fun vs H Q E h => ?_) (fun cdv A outer s H vs Q E hr h => ?_)
  · obtain ⟨b, x, zs, ch, wts, ps, rfl, _⟩ := h
    rfl
  · obtain ⟨b, x, zs, ch, wts, ps, rfl, BA, qq⟩ := h
    have nd := scBLen.nd
    refine ⟨_, (pss_one (ps_ret (pe_callB (kLen K) (by rfl) B.len PySem.boot_len (pa_cons (pe_fld (pv 0) rfl) pa_nil)))), ?_⟩
    obtain ⟨db, lq, le, hb, FA, ⟨qs, es, h1, h2, QS, ES⟩, len⟩ := BA
    refine ⟨_, rfl, b, CB, db, _, _, rfl, hb, TB.cl, TB.nQ, look_bq _ _ _, .ref lq, qs.length, rfl, .inl ⟨qs, SqL.of h1, rfl⟩, ?_⟩
    rw [QS.1]
    exact qq
theorem scBTold : FnScope ["self", "question", "low", "high"] ["self"] (defScope (inClass (topS 59) 6)) := ⟨rfl, rfl, rfl, by decide +kernel, rfl, by decide +kernel, by decide +kernel⟩
theorem ok_bTold (B : Bi mg) {C CQ CB fB f : Addr} {fd : FuncData} (TB : BooT K mg CB fB) (F : Fun K "told" "Book.told" (inClass (topS 59) 6) f fd) : FnOk P w K mg base CX0 1 f fd ["self"] (spBTold C CQ CB) := by
  refine F.ok scBTold (fun vs H Q E h => ?_) (fun cdv A outer s H vs Q E hr h => ?_)
  · obtain ⟨b, x, zs, ch, wts, ps, rfl, _⟩ := h
    rfl
  · obtain ⟨b, x, zs, ch, wts, ps, rfl, BA, few, qq⟩ := h
    have nd := scBTold.nd
    refine ⟨_, (pss_one (ps_ret (pe_lc (own := [("question", 1), ("low", 2), ("high", 3)]) rfl nd (kPiZ K (by rfl) B.zip (pa_cons (pe_fld (pv 0) rfl) (pa_cons (pe_fld (pv 0) rfl) pa_nil))) (blkOk_by (N := ["self", "question", "low", "high"]) (sc := defScope (inClass (topS 59) 6)) (by decide +kernel)) (fun _ _ _ _ _ => (kTg K 2 rfl (pgs_cons (pg_name (i := 1) nd rfl (Or.inl rfl)) (pgs_cons (kTg K 2 rfl (pgs_cons (pg_name (i := 2) nd rfl (Or.inl rfl)) (pgs_cons (pg_name (i := 3) nd rfl (Or.inl rfl)) pgs_nil))) pgs_nil)))) (fun _ _ _ _ _ => pts_nil) (fun _ _ _ _ _ => (pe_tup (pa_cons (pv 1) (pa_cons (pv 2) (pa_cons (pv 3) pa_nil)))))))), ?_⟩
    obtain ⟨db, lq, le, hb, FA, ⟨qs, es, h1, h2, QS, ES⟩, len⟩ := BA
    have lqs := QS.1
    have les := ES.1
    have lz : (wts.zip ps).length = wts.length := by rw [List.length_zip, len, Nat.min_self]
    refine ⟨_, rfl, b, CB, db, _, _, rfl, hb, TB.cl, TB.nQ, look_bq _ _ _, _, rfl, b, CB, db, _, _, rfl, hb, TB.cl, TB.nE, look_be _ _ _, lq, le, qs, es, rfl, .inl ⟨SqL.of h1, SqL.of h2, fun D nD => ?_⟩⟩
    refine lc_it (walk_zip (xs := qs) (ys := es) (n := wts.length) (by rw [lqs, les, ← len, Nat.min_self])) (fun k H' => ∃ ts : List V, ts.length = k ∧ Same H H' ∧ H' D = some (.lst ts) ∧ Told (TelAt C CQ zs ch) H' ts ((wts.zip ps).take k)) ⟨[], rfl, same_upd nD, upd_same, Told.nil⟩ (fun k H' _ ⟨ts, _, e, _, _⟩ => ⟨SqL.of (e _ _ h1), SqL.of (e _ _ h2)⟩) ?_ ?_
    · rintro k y H' H2 hk ⟨ts, lt, e, hD, tt⟩ ⟨T, y1, y2, rfl, nT, rfl, hy1, hy2⟩
      have hk1 : wts[k]? = some (wts[k]) := List.getElem?_eq_getElem hk
      have hk2 : ps[k]? = some (ps[k]'(by omega)) := List.getElem?_eq_getElem (by omega)
      have eT := same_upd (o := HO.tup [y1, y2]) nT
      have e2 := Same.trans e eT
      obtain ⟨q, x', rfl, QA⟩ := (QS.same e2).2 k _ _ hy1 hk1
      obtain ⟨T2, rfl, hT2⟩ := (ES.same stays_end e2).2 k _ _ hy2 hk2
      refine ⟨T, _, rfl, SqT.of upd_same, rfl, _, _, rfl, _, _, rfl, T2, _, rfl, SqT.of hT2, rfl, _, _, rfl, _, _, rfl, rfl, rfl, ?_⟩
      refine ⟨rfl, yes2 ?_⟩
      generalize upd H' T (.tup [.ref q, .ref T2]) = H2 at eT e2 QA hT2 ⊢
      refine ⟨_, rfl, _, rfl, _, rfl, by show 3 ≤ sizeLine; decide, fun p np => ?_⟩
      have ep := same_upd (o := HO.tup [.ref q, (ps[k]'(by omega)).1, (ps[k]'(by omega)).2]) np
      have e3 := Same.trans eT ep
      have hD3 := e3 _ _ hD
      refine ⟨ts, hD3, Evl.sz_lt (by omega), ts ++ [.ref p], by rw [List.length_append, lt]; rfl, Same.grow (Same.trans e e3) nD, upd_same, ?_⟩
      rw [take_succ (x := (wts[k], ps[k]'(by omega))) (List.getElem?_zip_eq_some.mpr ⟨hk1, hk2⟩)]
      exact ((tt.same stays_tel e3).snoc ⟨p, q, x', rfl, upd_same, QA.same ep⟩).up stays_tel hD3
    · rintro H' ⟨ts, lt, e, hD, tt⟩
      rw [List.take_of_length_le (by rw [lz]; exact Nat.le_refl _)] at tt
      exact qq D ts H' nD e hD tt
theorem scBIter : FnScope ["self"] ["self"] (defScope (inClass (topS 59) 3)) := ⟨rfl, rfl, rfl, by decide +kernel, rfl, by decide +kernel, by decide +kernel⟩
theorem ok_bIter (B : Bi mg) (gi : mg "iter" = none) {C CQ CB fB f : Addr} {fd : FuncData} (TB : BooT K mg CB fB) (F : Fun K "__iter__" "Book.__iter__" (inClass (topS 59) 3) f fd) : FnS P w K mg base 1 f fd ["self"] (spBIter C CQ CB) := by
  refine Bk.Fun.okS F scBIter (fun n vs H Q E h => ?_) (fun cdv A outer s H vs Q E hr h => ?_)
  · obtain ⟨b, x, db, lq, le, qs, rfl, _⟩ := h
    rfl
  · obtain ⟨b, x, db, lq, le, qs, rfl, hb, h1, qq⟩ := h
    have nd := scBIter.nd
    refine ⟨_, (pss_one (ps_ret (pe_callB ItX.call_iterN (by rfl) gi (by decide +kernel) (pa_cons (pe_fld (pv 0) rfl) pa_nil)))), ?_⟩
    exact ⟨_, rfl, b, CB, db, _, _, rfl, hb, TB.cl, TB.nQ, look_bq _ _ _, lq, qs, rfl, SqL.of h1, fun it ni hi => qq it ni hi⟩
end
end Bk

/-! texts, mirrored: what a number, a head, a line says -/
namespace Bk
open PySem PySem.Spec PyProof.Rows L2
def figures : Str := Str.ofString "0123456789"
def figs (t : Str) : Str := if Txt.startswith t (Str.ofString "-") then cutS t (some 1) none else t
def figsOk (z : Str) : Bool := !(z.length == 0) && z.cps.toList.all fun c => decide (c ∈ figures.cps.toList)
/-- the whole number that a text says -/
def intM (t : Str) : Option Int := if figsOk (figs t) then PySem.intText? t else none
def gInt (t : Str) : Bool := decide (t.length ≤ 640) && (!figsOk (figs t) || (PySem.intText? t).isSome)
theorem cutS_len (z : Str) (lo hi : Option Int) : (cutS z lo hi).length ≤ z.length := by
  show ((z.cps.toList.drop (HT.sIx z.length 0 lo)).take (HT.sIx z.length z.length hi - HT.sIx z.length 0 lo)).toArray.size ≤ z.cps.size
  rw [List.size_toArray, List.length_take, List.length_drop, Array.length_toList]
  omega
theorem figs_le (t : Str) : (figs t).length ≤ t.length := by
  unfold figs
  split
  · exact cutS_len _ _ _
  · exact Nat.le_refl _
/-- what a head says: a word, names, whether a chain -/
def isCh (parts : List Str) : Bool := decide (parts.getD 0 Str.empty = Str.ofString "chained")
def headQ (ch : Bool) : List Str → Option (Str × List Str × Bool)
  | [] => none
  | w :: zs => if w = Str.ofString "store" ∨ w = Str.ofString "book" then (if (wrongOf (some (zs.map V.str)) (mostFor ch)).isNone then some (w, zs, ch) else none) else none
def headR (parts : List Str) : Option (Str × List Str × Bool) := headQ (isCh parts) (if isCh parts then parts.drop 1 else parts)
def headM (line : Str) : Option (Str × List Str × Bool) := headR (Txt.split line (Str.ofString " "))
def gHead (line : Str) : Bool := decide (line.length ≤ 1000) && (!(Txt.split line (Str.ofString " ")).isEmpty && ((Txt.split line (Str.ofString " ")).all (fun z => decide (z.length ≤ 1000)) && decide ((Txt.split line (Str.ofString " ")).length ≤ 1000)))
def intS (i : Int) : Str := toString i
def slashS (t b : Int) : Str := if b = 1 then intS t else Str.empty ++ intS t ++ Str.ofString "/" ++ intS b
/-- the line of a size -/
def lineS (l : List Str) (t b : Int) : Str := Txt.join (Str.ofString "+") l ++ Str.ofString " " ++ slashS t b
def gLine (l : List Str) (t b : Int) : Bool := decide (t.natAbs.log2 < 1920) && (decide (b.natAbs.log2 < 1920) && (decide ((l.map (·.length)).sum + l.length * (Str.ofString "+").length ≤ 100000) && (decide ((Txt.join (Str.ofString "+") l).length ≤ 100000) && (decide ((intS t).length ≤ 100000) && decide ((intS b).length ≤ 100000)))))
def topM (line : Str) : Str := (Txt.partition (Txt.partition line (Str.ofString " ")).2.2 (Str.ofString "/")).1
def slashM (line : Str) : Str := (Txt.partition (Txt.partition line (Str.ofString " ")).2.2 (Str.ofString "/")).2.1
def botM (line : Str) : Str := (Txt.partition (Txt.partition line (Str.ofString " ")).2.2 (Str.ofString "/")).2.2
/-- the lot that a text of names says -/
def lotT (ch : Bool) (zs : List Str) (z : Str) : Option (List Str) := lotOfV ch zs ((Txt.split z (Str.ofString "+")).map V.str)
def gLot (z : Str) : Bool := decide (z.length ≤ 1000) && decide ((Txt.split z (Str.ofString "+")).length ≤ 1000)
def namM (line : Str) : Str := (Txt.partition line (Str.ofString " ")).1
def denM (line : Str) : Option Int := if slashM line = Str.ofString "" then some 1 else intM (botM line)
def szM : Option Int → Option Int → Option Rat
  | some t, some b => if t < 0 ∨ b < 1 then none else some (mkRat t b.toNat)
  | _, _ => none
def sizeQ (line : Str) : Option (List Str) → Option Rat → Option (List Str × Rat)
  | some l, some q => if q = 0 then none else if lineS l q.num (q.den : Int) = line then some (l, q) else none
  | _, _ => none
/-- what a line of a store says -/
def sizeM (ch : Bool) (zs : List Str) (line : Str) : Option (List Str × Rat) := sizeQ line (lotT ch zs (namM line)) (szM (intM (topM line)) (denM line))
def gSz : Option (List Str) → Option Rat → Bool
  | some l, some q => gLine l q.num (q.den : Int)
  | _, _ => true
def gDen : Option Int → Bool
  | some b => decide (b < 2 ^ 200)
  | none => true
def gSize (ch : Bool) (zs : List Str) (line : Str) : Bool := decide (line.length ≤ 1000) && (decide ((Txt.partition line (Str.ofString " ")).2.2.length ≤ 1000) && (gLot (namM line) && (gInt (topM line) && ((decide (slashM line = Str.ofString "") || gInt (botM line)) && (gDen (denM line) && gSz (lotT ch zs (namM line)) (szM (intM (topM line)) (denM line)))))))
def placeI (ch : Bool) (zs : List Str) (l : List Str) : Int := match valV (placesOf (lotsFor ch zs)) (l.map Sum.inr) with
  | some (.int i) => i
  | _ => 0
/-- the line at which the lines of a store fail -/
def storeM (ch : Bool) (zs : List Str) : Nat → Int → List Str → Option Nat
  | _, _, [] => none
  | 0, last, _ :: r => storeM ch zs 1 last r
  | k + 1, last, line :: r => match sizeM ch zs line with
    | none => some (k + 2)
    | some (l, _) => if placeI ch zs l ≤ last then some (k + 2) else storeM ch zs (k + 2) (placeI ch zs l) r
def gStore (ch : Bool) (zs : List Str) (lines : List Str) : Bool := decide (lines.length ≤ 1000) && lines.all (gSize ch zs)
theorem lotT_mem {ch : Bool} {zs l : List Str} {z : Str} (h : lotT ch zs z = some l) : l ∈ lotsFor ch zs := by
  unfold lotT lotOfV at h
  split at h
  · rename_i c
    cases h
    exact c.2
  · cases h
theorem sizeM_lot {ch : Bool} {zs l : List Str} {q : Rat} {line : Str} (h : sizeM ch zs line = some (l, q)) : lotT ch zs (namM line) = some l ∧ q ≠ 0 := by
  unfold sizeM at h
  cases h1 : lotT ch zs (namM line) with
  | none => rw [h1] at h; cases h
  | some l' =>
    rw [h1] at h
    cases h2 : szM (intM (topM line)) (denM line) with
    | none => rw [h2] at h; cases h
    | some q' =>
      rw [h2] at h
      have e : sizeQ line (some l') (some q') = if q' = 0 then none else if lineS l' q'.num (q'.den : Int) = line then some (l', q') else none := rfl
      rw [e] at h
      by_cases c : q' = 0
      · rw [if_pos c] at h; cases h
      · rw [if_neg c] at h
        by_cases c2 : lineS l' q'.num (q'.den : Int) = line
        · rw [if_pos c2] at h
          cases h
          exact ⟨rfl, c⟩
        · rw [if_neg c2] at h
          cases h
theorem valV_mem : ∀ {tb : List (List Key × V)} {k : List Key} {v : V}, valV tb k = some v → ∃ p ∈ tb, p.2 = v
  | [], k, v, h => by cases h
  | (a, b) :: r, k, v, h => by
    by_cases c : a = k
    · subst c
      rw [valV_pos rfl] at h
      exact ⟨_, List.mem_cons_self, Option.some.inj h⟩
    · rw [valV_neg c] at h
      obtain ⟨p, m, e⟩ := valV_mem h
      exact ⟨p, List.mem_cons_of_mem _ m, e⟩
theorem place_at {ch : Bool} {zs l : List Str} (nz : zs.Nodup) (h : l ∈ lotsFor ch zs) : valV (placesOf (lotsFor ch zs)) (l.map Sum.inr) = some (.int (placeI ch zs l)) := by
  have s := places_has (ch := ch) nz l
  rw [decide_eq_true h] at s
  obtain ⟨v, hv⟩ := Option.isSome_iff_exists.mp s
  obtain ⟨p, m, rfl⟩ := valV_mem hv
  obtain ⟨i, hi⟩ := places_int m
  unfold placeI
  rw [hv, hi]
theorem lotS_of {ch : Bool} {zs l : List Str} (hz : zs.length ≤ mostFor ch) (nd : zs.Nodup) (m : l ∈ lotsFor ch zs) : lotS zs l = l := by
  have h := lotOfV_lot hz nd m
  unfold lotOfV at h
  split at h
  · rw [toldBy_strs] at h
    exact Option.some.inj h
  · cases h
theorem sizeM_num {ch : Bool} {zs l : List Str} {q : Rat} {line : Str} (h : sizeM ch zs line = some (l, q)) (g : gSize ch zs line = true) : 0 ≤ q.num ∧ q.den < 2 ^ 200 := by
  have gd : gDen (denM line) = true := by
    unfold gSize at g
    simp only [Bool.and_eq_true] at g
    exact g.2.2.2.2.2.1
  unfold sizeM at h
  cases h1 : lotT ch zs (namM line) with
  | none => rw [h1] at h; cases h
  | some l' =>
    rw [h1] at h
    cases ht : intM (topM line) with
    | none => rw [ht] at h; cases h
    | some t =>
      rw [ht] at h
      cases hb : denM line with
      | none => rw [hb] at h; cases h
      | some b =>
        rw [hb] at h gd
        have e0 : szM (some t) (some b) = if t < 0 ∨ b < 1 then none else some (mkRat t b.toNat) := rfl
        rw [e0] at h
        by_cases c0 : t < 0 ∨ b < 1
        · rw [if_pos c0] at h; cases h
        · rw [if_neg c0] at h
          have e : sizeQ line (some l') (some (mkRat t b.toNat)) = if mkRat t b.toNat = 0 then none else if lineS l' (mkRat t b.toNat).num ((mkRat t b.toNat).den : Int) = line then some (l', mkRat t b.toNat) else none := rfl
          rw [e] at h
          by_cases c : mkRat t b.toNat = 0
          · rw [if_pos c] at h; cases h
          · rw [if_neg c] at h
            by_cases c2 : lineS l' (mkRat t b.toNat).num ((mkRat t b.toNat).den : Int) = line
            · rw [if_pos c2] at h
              cases h
              have b1 : 0 < b.toNat := by omega
              have b2 : b < 2 ^ 200 := of_decide_eq_true gd
              refine ⟨?_, ?_⟩
              · rw [mk_num b1]
                exact Int.ediv_nonneg (by omega) (Int.natCast_nonneg _)
              · have d := mk_den (t := t) b1
                have d2 : ((mkRat t b.toNat).den : Int) ≤ (b.toNat : Int) := by
                  rw [d]
                  exact Int.ediv_le_self _ (Int.natCast_nonneg _)
                omega
            · rw [if_neg c2] at h
              cases h
end Bk

namespace Bk
open PySem PySem.Spec PyProof.Rows L2
def optI : Option Int → V
  | none => .non
  | some i => .int i
/-- integer_told(text) -/
def spIntT : Sp := fun vs H Q _ => ∃ t : Str, vs = [.str t] ∧ gInt t = true ∧ ∀ H', Same H H' → Q (optI (intM t)) H'
section
variable {P : Program} {w : World} {K : PySem.W.Frag} {mg : Str → Option Value} {base : Heap}
theorem scIntT : FnScope ["text", "figures", "figure"] ["text"] (defScope (topS 82)) := ⟨rfl, rfl, rfl, by decide +kernel, rfl, by decide +kernel, by decide +kernel⟩
theorem ok_intT (B : Bi mg) {f : Addr} {fd : FuncData} {t1 : Tok} (g_FIGURES : mg "FIGURES" = some (.str (Str.ofString "0123456789") t1)) (F : Fun K "integer_told" "integer_told" (topS 82) f fd) : FnOk P w K mg base CX0 1 f fd ["text"] spIntT := by
  refine F.ok scIntT (fun vs H Q E h => ?_) (fun cdv A outer s H vs Q E hr h => ?_)
  · obtain ⟨x, rfl, _⟩ := h
    rfl
  · obtain ⟨t, rfl, gt, q⟩ := h
    have nd := scIntT.nd
    refine ⟨_, (Evl.pss_cut (ps_set (i := 1) nd rfl (Or.inl rfl) (pe_ifExp (pt_val (pe_m1 PySem.F.slot_str_startswith PySem.F.type_str_startswith mt_startswith (pv 0) pe_str)) (pe_slice sl_str (pv 0) (po_some pe_int) po_none) (pv 0)))
      (pss_cons (ps_if (PW.pt (pw_or (pt_cmpR op_eq (pe_callB (kLen K) (by rfl) B.len PySem.boot_len (pa_cons (pv 1) pa_nil)) pe_int (nomark _)) (pw_or1 (pt_not (pt_val (pe_callB (kAll K rfl) (by rfl) B.all (by decide +kernel) (pa_cons (pe_lc (own := [("figure", 2)]) rfl nd (pi_str (pv 1)) (blkOk_by (N := ["text", "figures", "figure"]) (sc := defScope (topS 82)) (by decide +kernel)) (fun _ _ _ _ _ => (pg_name (i := 2) nd rfl (Or.inl rfl))) (fun _ _ _ _ _ => pts_nil) (fun _ _ _ _ _ => (pe_cmpR op_in_sign (pv 2) (pe_glob (v := .str (Str.ofString "0123456789")) (by rfl) g_FIGURES ⟨_, rfl⟩) rfl))) pa_nil))))))) (pss_one (ps_ret pe_non)) pss_nil)
      (pss_one (ps_ret (pe_callTy call_int_str (by rfl) B.int (by decide +kernel) (pa_cons (pv 0) pa_nil)))))), ?_⟩
    have g1 : t.length ≤ 640 := of_decide_eq_true (Bool.and_eq_true_iff.mp gt).1
    have sl : sizeLine = 16777216 := sizeLine_eq
    have lf : (figs t).length ≤ 640 := Nat.le_trans (figs_le t) g1
    refine ⟨fun σ H1 => σ = [some (.str t), some (.str (figs t)), none] ∧ H = H1, ?_, ?_⟩
    · refine ⟨_, rfl, ⟨t, rfl⟩, t, _, rfl, rfl, _, rfl, ?_⟩
      unfold figs
      refine ite2 (fun h => ?_) (fun h => ?_)
      · rw [if_pos h]
        refine ⟨_, rfl, 1, rfl, t, rfl, by omega, rfl, rfl⟩
      · rw [if_neg h]
        exact ⟨_, rfl, rfl, rfl⟩
    rintro σ H1 ⟨rfl, rfl⟩
    have q1 : ∀ b : Bool, figsOk (figs t) = b → Q (optI (if b = true then PySem.intText? t else none)) H := fun b e => by
      have z := q H (Same.refl H)
      unfold intM at z
      rw [e] at z
      exact z
    refine ⟨_, rfl, _, _, rfl, ⟨by omega, rfl⟩, rfl, _, rfl, ?_⟩
    by_cases l0 : (figs t).length = 0
    · refine if_so (by rw [l0]; decide) ?_
      exact q1 false (by unfold figsOk; rw [l0]; rfl)
    · have l1 : ¬ (V.int ((figs t).length : Int) = V.int 0) := fun e => by injection e with e; omega
      refine if_no (decide_eq_false l1) ?_
      have fo : figsOk (figs t) = (((figs t).cps.toList.map fun c => decide (c ∈ figures.cps.toList)).all id) := by
        unfold figsOk
        have : ((figs t).length == 0) = false := by simp [l0]
        rw [this]
        simp [List.all_map]
      refine ⟨_, rfl, (figs t), rfl, fun D nD => lc_it walk_str (Upto H D (figs t).cps.toList fun c => V.bl (decide (c ∈ figures.cps.toList))) (.zero nD) (fun _ _ _ _ => trivial) ?_ ?_⟩
      · rintro i x H1 H2 hi u ⟨rfl, c, hc, rfl⟩
        have hc' : (figs t).cps.toList[i]? = some c := by rw [← hc]; simp
        refine ⟨rfl, ?_⟩
        refine yes2 ?_
        exact ⟨_, rfl, c, _, rfl, rfl, u.next nD hc' (Same.refl _) (by show (figs t).length ≤ 100000; omega)⟩
      · intro H1 u
        have hD := u.all (by simp)
        refine ⟨D, (figs t).cps.toList.map fun c => decide (c ∈ figures.cps.toList), rfl, .of (by rw [List.map_map]; exact hD), _, rfl, ?_⟩
        rw [← fo]
        cases hf : figsOk (figs t) with
        | false =>
          refine if_so rfl ?_
          have z := q H1 u.sm
          unfold intM at z
          rw [hf] at z
          exact z
        | true =>
          refine if_no rfl ?_
          have g2 := (Bool.and_eq_true_iff.mp gt).2
          rw [hf] at g2
          obtain ⟨n, hn⟩ := Option.isSome_iff_exists.mp g2
          have z := q H1 u.sm
          unfold intM at z
          rw [hf, if_pos rfl, hn] at z
          exact ⟨_, rfl, t, n, rfl, hn, g1, z⟩
end
end Bk

namespace Bk
open PySem PySem.Spec PyProof.Rows L2
/-- head_told(line) -/
def spHeadT (C : Addr) : Sp := fun vs H Q _ => ∃ line : Str, vs = [.str line] ∧ gHead line = true ∧ (headM line = none → ∀ H', Same H H' → Q .non H') ∧
  ∀ w zs ch, headM line = some (w, zs, ch) → ∀ p x H', Same H H' → H' p = some (.tup [.str w, .ref x]) → FoldersAt C H' x zs ch → Q (.ref p) H'
section
variable {P : Program} {w : World} {K : PySem.W.Frag} {mg : Str → Option Value} {base : Heap}
theorem scHeadT : FnScope ["line", "parts", "chain"] ["line"] (defScope (topS 76)) := ⟨rfl, rfl, rfl, by decide +kernel, rfl, by decide +kernel, by decide +kernel⟩
theorem ok_headT (B : Bi mg) {C CB fF fB f : Addr} {fdF fd : FuncData} {gk : List Value → List Value → List Value} (T : FolT K mg C fF) (TBF : ExT K mg "BadFolders" CB fB "index") (GF : FnOk P w K mg base (L2.CX P w) 3 fF fdF ["self", "names", "chain"] (spFolders K C CB))
    (bF : KBn K fdF ["self", "names", "chain"] 2 ["chain"] gk (fun vs zs => vs ++ zs)) (F : Fun K "head_told" "head_told" (topS 76) f fd) : FnOk P w K mg base CX0 5 f fd ["line"] (spHeadT C) := by
  refine F.ok scHeadT (fun vs H Q E h => ?_) (fun cdv A outer s H vs Q E hr h => ?_)
  · obtain ⟨x, rfl, _⟩ := h
    rfl
  · obtain ⟨line, rfl, gt, qn, qs⟩ := h
    have nd := scHeadT.nd
    have hu := hu_of hr
    refine ⟨_, (Evl.pss_cut (ps_set (i := 1) nd rfl (Or.inl rfl) (pe_split (pv 0) pe_str))
      (Evl.pss_cut (ps_set (i := 2) nd rfl (Or.inl rfl) (pe_cmpR op_eq (pe_ix (kIxL K) (pv 1) pe_int (fun _ _ => rfl)) pe_str (nomark _)))
      (Evl.pss_cut (ps_if (pt_val (pv 2)) (pss_one (ps_set (i := 1) nd rfl (Or.inl rfl) (pe_slice (kSlL K) (pv 1) (po_some pe_int) po_none))) pss_nil)
      (Evl.pss_cut (ps_if (PW.pt (pw_or (pt_cmpR op_eq (pe_callB (kLen K) (by rfl) B.len PySem.boot_len (pa_cons (pv 1) pa_nil)) pe_int (nomark _)) (pw_or1 (pt_cmpR (kNotIn K) (pe_ix (kIxL K) (pv 1) pe_int (fun _ _ => rfl)) (pe_tup (pa_cons pe_str (pa_cons pe_str pa_nil))) rfl)))) (pss_one (ps_ret pe_non)) pss_nil)
      (pss_one (ps_try_only rfl rfl ⟨rfl, by decide, Or.inl TBF.g⟩ takes0 (fun W pn xe tk _ => pss_one (ps_ret (by exact (pe_tup (pa_cons (pe_ix (kIxL K) (pv 1) pe_int (fun _ _ => rfl)) (pa_cons (pe_makeKS T.make GF hr (by rfl) T.g bF (fun σ => passAt tk σ) (pa_cons (pe_slice (kSlL K) (pv 1) (po_some pe_int) po_none) pa_nil) (pk_cons (pv 2) pk_nil)) pa_nil)))))) (fun a oe cls d pn hz hf => pss_one (ps_ret pe_non)))))))), ?_⟩
    have sl : sizeLine = 16777216 := sizeLine_eq
    unfold gHead at gt
    unfold headM headR at qn qs
    generalize hparts : Txt.split line (Str.ofString " ") = parts at gt qn qs
    obtain ⟨g1, g2⟩ := Bool.and_eq_true_iff.mp gt
    obtain ⟨g2, g3⟩ := Bool.and_eq_true_iff.mp g2
    obtain ⟨g3, g4⟩ := Bool.and_eq_true_iff.mp g3
    have g1 := of_decide_eq_true g1
    have g4 := of_decide_eq_true g4
    obtain ⟨p0, pr, rfl⟩ : ∃ p0 pr, parts = p0 :: pr := by
      cases parts with
      | nil => cases g2
      | cons a r => exact ⟨a, r, rfl⟩
    have gl : ∀ z ∈ p0 :: pr, z.length ≤ 1000 := fun z m => of_decide_eq_true (List.all_eq_true.mp g3 z m)
    refine ⟨fun σ H1 => ∃ A, σ = [some (.str line), some (.ref A), none] ∧ Same H H1 ∧ H1 A = some (.lst ((p0 :: pr).map V.str)), ?_, ?_⟩
    · refine ⟨_, rfl, ⟨line, rfl⟩, line, _, rfl, rfl, by decide +kernel, by omega, fun A nA => ?_⟩
      rw [hparts]
      exact ⟨A, rfl, same_upd nA, upd_same⟩
    rintro σ H1 ⟨A, rfl, e1, hA⟩
    have dch : (decide (V.str p0 = V.str (Str.ofString "chained"))) = isCh (p0 :: pr) := decide_eq_decide.mpr ⟨fun e => by injection e, fun e => congrArg V.str e⟩
    generalize hch : isCh (p0 :: pr) = ch at qn qs dch
    refine ⟨fun σ H2 => σ = [some (.str line), some (.ref A), some (.bl ch)] ∧ H1 = H2, ?_, ?_⟩
    · refine ⟨_, rfl, A, _, 0, .str p0, rfl, rfl, SqL.of hA, atI_nat (j := 0) rfl, rfl, ?_⟩
      exact ⟨by rw [dch]; rfl, rfl⟩
    rintro σ H2 ⟨rfl, rfl⟩
    generalize hps : (if ch = true then (p0 :: pr).drop 1 else p0 :: pr) = ps at qn qs
    have pl : ps.length ≤ 1000 ∧ ∀ z ∈ ps, z.length ≤ 1000 := by
      rw [← hps]
      split
      · exact ⟨Nat.le_trans (by rw [List.length_drop]; exact Nat.sub_le _ _) g4, fun z m => gl z (List.mem_of_mem_drop m)⟩
      · exact ⟨g4, gl⟩
    refine ⟨fun σ H2 => ∃ A, σ = [some (.str line), some (.ref A), some (.bl ch)] ∧ Same H H2 ∧ H2 A = some (.lst (ps.map V.str)), ?_, ?_⟩
    · refine ⟨_, rfl, ch, rfl, ?_⟩
      refine ite2 (fun h => ?_) (fun h => ?_)
      · refine ⟨_, rfl, 1, rfl, A, _, rfl, SqL.of hA, fun A2 nA2 => ?_⟩
        refine ⟨A2, rfl, Same.trans e1 (same_upd nA2), ?_⟩
        rw [upd_same, show (1 : Int) = ((1 : Nat) : Int) from rfl, cut_from, ← hps, if_pos h, List.map_drop]
      · refine ⟨A, rfl, e1, ?_⟩
        rw [← hps, if_neg h]
        exact hA
    rintro σ H2 ⟨A, rfl, e2, hA2⟩
    cases ps with
    | nil =>
      refine ⟨fun _ _ => False, ?_, fun _ _ z => z.elim⟩
      refine ⟨_, rfl, .ref A, 0, rfl, .inl ⟨_, SqL.of hA2, rfl⟩, rfl, _, rfl, ?_⟩
      refine iteT ?_
      exact qn rfl H2 e2
    | cons w zs =>
      have wl : ∀ (z : List V) (k : Str), z = [V.str (Str.ofString "store"), V.str (Str.ofString "book")] → inV (.str k) z = decide (k = Str.ofString "store" ∨ k = Str.ofString "book") := fun z k e => by
        subst e
        have h := inV_strs k [Str.ofString "store", Str.ofString "book"]
        simp only [List.map_cons, List.map_nil] at h
        rw [h]
        exact decide_eq_decide.mpr (by simp)
      by_cases hw : w = Str.ofString "store" ∨ w = Str.ofString "book"
      · refine ⟨fun σ H3 => σ = [some (.str line), some (.ref A), some (.bl ch)] ∧ Same H2 H3, ?_, ?_⟩
        · refine ⟨_, rfl, .ref A, zs.length + 1, rfl, .inl ⟨_, SqL.of hA2, by rw [List.length_map]; rfl⟩, rfl, _, rfl, ?_⟩
          refine if_no (decide_eq_false (fun e => by injection e with e; omega)) ?_
          refine ⟨_, rfl, A, _, 0, .str w, rfl, rfl, SqL.of hA2, atI_nat (j := 0) rfl, by show 2 ≤ sizeLine; decide, fun p np => ⟨p, _, rfl, .inr (SqT.of upd_same), rfl, rfl, _, rfl, ?_⟩⟩
          refine if_no (by rw [wl _ w rfl, decide_eq_true hw]; rfl) ?_
          exact ⟨rfl, same_upd np⟩
        rintro σ H3 ⟨rfl, e3⟩
        have hq : headQ ch (w :: zs) = if (wrongOf (some (zs.map V.str)) (mostFor ch)).isNone then some (w, zs, ch) else none := if_pos hw
        rw [hq] at qn qs
        have wz : wrongOf (some (zs.map V.str)) (mostFor ch) = none ∨ ∃ i, wrongOf (some (zs.map V.str)) (mostFor ch) = some i := by
          cases wrongOf (some (zs.map V.str)) (mostFor ch) with
          | none => exact .inl rfl
          | some i => exact .inr ⟨i, rfl⟩
        have hA3 := e3 _ _ hA2
        refine ⟨_, rfl, A, _, 0, .str w, rfl, rfl, SqL.of hA3, atI_nat (j := 0) rfl, ?_⟩
        refine ⟨_, rfl, 1, rfl, A, _, rfl, SqL.of hA3, fun A2 nA2 => ?_⟩
        have e4 := same_upd (o := HO.lst (cutV ((w :: zs).map V.str) (some 1) none)) nA2
        have hA4 : upd H3 A2 (.lst (cutV ((w :: zs).map V.str) (some 1) none)) A2 = some (.lst (zs.map V.str)) := by
          rw [upd_same, show (1 : Int) = ((1 : Nat) : Int) from rfl, cut_from]
          rfl
        generalize upd H3 A2 (.lst (cutV ((w :: zs).map V.str) (some 1) none)) = H4 at e4 hA4 ⊢
        have Th : Thing K H4 (.ref A2) (some (zs.map V.str)) := .seq (.inl (SqL.of hA4)) (sqs_of (.inl (SqL.of hA4))) (fun x m => by
          obtain ⟨z, mz, rfl⟩ := List.mem_map.mp m
          exact Itm.str (Nat.le_trans (pl.2 z (List.mem_cons_of_mem _ mz)) (by decide))) (by
          rw [List.length_map]
          have := pl.1
          rw [List.length_cons] at this
          omega)
        have e24 := Same.trans e2 (Same.trans e3 e4)
        refine ⟨_, rfl, rfl, rfl, fun y dx ny ndx hne => ?_⟩
        have e5 := Same.grow (o := HO.ins C dx []) (Same.grow (o := HO.own y) (Same.refl H4) ndx) ny
        refine ⟨y, dx, .ref A2, some (zs.map V.str), ch, rfl, upd_same, Th.same e5, ?_, ?_⟩
        · rintro i d H' hw ⟨nd1, e6, hd⟩
          refine ⟨true, TBF.te, fun _ a na => ?_, fun z => by cases z⟩
          exact qn (by rw [hw]; rfl) H' (Same.trans e24 (Same.trans e5 e6))
        · rintro zs' H' hw ez hn FA hb
          have ezs : zs' = zs := by
            injection ez with ez
            exact (str_map_inj ez).symm
          subst ezs
          have e6 : Same H4 H' := fun b u e => hb b u (ne_of_none e ny) (e5 _ _ e)
          refine ⟨rfl, by show 2 ≤ sizeLine; decide, fun p np => ?_⟩
          have e7 := same_upd (o := HO.tup [.str w, .ref y]) np
          exact qs w zs' ch (by rw [hw]; rfl) p y _ (Same.trans e24 (Same.trans e6 e7)) upd_same (FA.same e7)
      · refine ⟨fun _ _ => False, ?_, fun _ _ z => z.elim⟩
        refine ⟨_, rfl, .ref A, zs.length + 1, rfl, .inl ⟨_, SqL.of hA2, by rw [List.length_map]; rfl⟩, rfl, _, rfl, ?_⟩
        refine if_no (decide_eq_false (fun e => by injection e with e; omega)) ?_
        refine ⟨_, rfl, A, _, 0, .str w, rfl, rfl, SqL.of hA2, atI_nat (j := 0) rfl, by show 2 ≤ sizeLine; decide, fun p np => ⟨p, _, rfl, .inr (SqT.of upd_same), rfl, rfl, _, rfl, ?_⟩⟩
        refine if_so (by rw [wl _ w rfl, decide_eq_false hw]; rfl) ?_
        exact qn (if_neg hw) _ (Same.trans e2 (same_upd np))
end
end Bk

namespace Bk
open PySem PySem.Spec PyProof.Rows L2
/-- line_of_size(lot, size) -/
def spLineS : Sp := fun vs H Q _ => ∃ (a z : Addr) (l : List Str) (t b : Int), vs = [.ref a, .ref z] ∧ H a = some (.tup (l.map V.str)) ∧ H z = some (.tup [.int t, .int b]) ∧ gLine l t b = true ∧ Q (.str (lineS l t b)) H
def optR : Option Rat → Hp → V → Prop
  | none, _, v => v = .non
  | some q, H, v => ∃ z, v = .ref z ∧ H z = some (.tup (pairQ q))
/-- size_of((top, bottom)) -/
def spSizeO : Sp := fun vs H Q _ => ∃ (a : Addr) (t b : Option Int), vs = [.ref a] ∧ H a = some (.tup [optI t, optI b]) ∧ gDen b = true ∧ ∀ v H', Same H H' → optR (szM t b) H' v → Q v H'
/-- size_told(folders, line) -/
def spSizeT (C : Addr) : Sp := fun vs H Q _ => ∃ (x : Addr) (line : Str) (zs : List Str) (ch : Bool), vs = [.ref x, .str line] ∧ FoldersAt C H x zs ch ∧ zs.Nodup ∧ zs.length ≤ 12 ∧ gSize ch zs line = true ∧ (sizeM ch zs line = none → ∀ H', Same H H' → Q .non H') ∧
  ∀ l q, sizeM ch zs line = some (l, q) → ∀ p a z H', Same H H' → H' p = some (.tup [.ref a, .ref z]) → H' a = some (.tup (l.map V.str)) → H' z = some (.tup (pairQ q)) → Q (.ref p) H'
section
variable {P : Program} {w : World} {K : PySem.W.Frag} {mg : Str → Option Value} {base : Heap}
theorem scLineS : FnScope ["lot", "size", "top", "bottom"] ["lot", "size"] (defScope (topS 74)) := ⟨rfl, rfl, rfl, by decide +kernel, rfl, by decide +kernel, by decide +kernel⟩
theorem ok_lineS (B : Bi mg) {f : Addr} {fd : FuncData} (F : Fun K "line_of_size" "line_of_size" (topS 74) f fd) : FnOk P w K mg base CX0 1 f fd ["lot", "size"] spLineS := by
  refine F.ok scLineS (fun vs H Q E h => ?_) (fun cdv A outer s H vs Q E hr h => ?_)
  · obtain ⟨a, z, l, t, b, rfl, _⟩ := h
    rfl
  · obtain ⟨a, z, l, t, b, rfl, ha, hz, g, q⟩ := h
    have nd := scLineS.nd
    have hu := hu_of hr
    have sl : sizeLine = 16777216 := sizeLine_eq
    refine ⟨_, (Evl.pss_cut (ps_asg (pv 1) (kTg K 2 rfl (pgs_cons (pg_name (i := 2) nd rfl (Or.inl rfl)) (pgs_cons (pg_name (i := 3) nd rfl (Or.inl rfl)) pgs_nil))))
      (pss_one (ps_ret (pe_op op_add_str (pe_op op_add_str (pe_join pe_str (pv 0)) pe_str) (pe_ifExp (pt_cmpR op_eq (pv 3) pe_int (nomark _)) (pe_joined1 (pe_fmt (pv 2))) (pe_joined (PJ.cons (pe_fmt (pv 2)) (PJ.cons pe_str (PJ.cons (pe_fmt (pv 3)) PJ.nil))))))))), ?_⟩
    unfold gLine at g
    obtain ⟨g1, g⟩ := Bool.and_eq_true_iff.mp g
    obtain ⟨g2, g⟩ := Bool.and_eq_true_iff.mp g
    obtain ⟨g3, g⟩ := Bool.and_eq_true_iff.mp g
    obtain ⟨g4, g⟩ := Bool.and_eq_true_iff.mp g
    obtain ⟨g5, g6⟩ := Bool.and_eq_true_iff.mp g
    have g1 := of_decide_eq_true g1
    have g2 := of_decide_eq_true g2
    have g3 := of_decide_eq_true g3
    have g4 := of_decide_eq_true g4
    have g5 := of_decide_eq_true g5
    have g6 := of_decide_eq_true g6
    have ap : ∀ x y : Str, (x ++ y).length = x.length + y.length := fun x y => by
      show (x.cps ++ y.cps).size = x.cps.size + y.cps.size
      exact Array.size_append
    have g5' : (Str.ofString (toString t)).length ≤ 100000 := g5
    have g6' : (Str.ofString (toString b)).length ≤ 100000 := g6
    have l1 : (Str.ofString " ").length = 1 := by decide +kernel
    have l2 : (Str.ofString "/").length = 1 := by decide +kernel
    have l3 : Str.empty.length = 0 := by decide +kernel
    refine ⟨fun σ H1 => σ = [some (.ref a), some (.ref z), some (.int t), some (.int b)] ∧ H = H1, ?_, ?_⟩
    · exact ⟨_, rfl, z, _, rfl, SqT.of hz, rfl, _, _, rfl, _, _, rfl, rfl, rfl, rfl⟩
    rintro σ H1 ⟨rfl, rfl⟩
    have sj : (Txt.join (Str.ofString "+") l ++ Str.ofString " ").length ≤ 100001 := by rw [ap, l1]; omega
    refine ⟨⟨_, rfl⟩, _, rfl, _, a, l, rfl, rfl, .inr (SqT.of ha), by omega, _, _, rfl, rfl, by rw [l1]; omega, ?_⟩
    refine ⟨_, rfl, rfl, _, rfl, ?_⟩
    unfold lineS slashS at q
    by_cases hb : b = 1
    · rw [if_pos hb] at q
      refine if_so (by rw [hb]; rfl) ?_
      exact ⟨_, rfl, .inr ⟨t, rfl, g1, _, _, rfl, rfl, by show _ + (Str.ofString (toString t)).length ≤ _; omega, q⟩⟩
    · rw [if_neg hb] at q
      have nb : ¬ V.int b = V.int 1 := fun e => hb (by injection e)
      refine if_no (decide_eq_false nb) ?_
      refine ⟨_, rfl, .inr ⟨t, rfl, g1, _, rfl, by simp only [ap, l1, l2, l3]; omega, ?_⟩⟩
      refine ⟨_, rfl, by simp only [ap, l1, l2, l3]; omega, ?_⟩
      refine ⟨_, rfl, .inr ⟨b, rfl, g2, _, rfl, by simp only [ap, l1, l2, l3] at sj ⊢; omega, ?_⟩⟩
      refine ⟨_, _, rfl, rfl, by simp only [ap, l1, l2, l3] at sj ⊢; omega, q⟩
theorem ok_sizeO (B : Bi mg) {f f1 f2 f3 : Addr} {fd fd1 fd2 fd3 : FuncData} (c_is_integer : Cal P w K mg base CX0 1 "is_integer" f1 fd1 ["thing"] (spIsInt K)) (c_is_list : Cal P w K mg base CX0 1 "is_list" f2 fd2 ["thing"] (spIsList K)) (c_fraction : Cal P w K mg base CX0 2 "fraction" f3 fd3 ["top", "bottom"] spFrac)
    (F : Fun K "size_of" "size_of" (topS 23) f fd) : FnOk P w K mg base CX0 3 f fd ["thing"] spSizeO := by
  refine F.ok scSize (fun vs H Q E h => ?_) (fun cdv A outer s H vs Q E hr h => ?_)
  · obtain ⟨v, t, b, rfl, _⟩ := h
    rfl
  · obtain ⟨a, t, b, rfl, ha, gd, qq⟩ := h
    have nd := scSize.nd
    have hr_fraction : Room 2 _ := hr.mono (by decide)
    have hr_is_integer : Room 1 _ := hr.mono (by decide)
    have hr_is_list := hr_is_integer
    refine ⟨_, (Evl.pss_cut (ps_if (pt_val (pe_call c_is_integer.ok hr_is_integer (by rfl) c_is_integer.g c_is_integer.kp c_is_integer.b .nil pass0 (pa_cons (pv 0) pa_nil))) (pss_one (ps_ret (pe_ifExp (pt_cmpR op_ge (pv 0) pe_int (nomark _)) (pe_tup (pa_cons (pv 0) (pa_cons pe_int pa_nil))) pe_non))) pss_nil)
      (Evl.pss_cut (ps_if (PW.pt (pw_or (pt_not (pt_val (pe_call c_is_list.ok hr_is_list (by rfl) c_is_list.g c_is_list.kp c_is_list.b .nil pass0 (pa_cons (pv 0) pa_nil)))) (pw_or1 (pt_cmpR op_ne (pe_callB (kLen K) (by rfl) B.len PySem.boot_len (pa_cons (pv 0) pa_nil)) pe_int (nomark _))))) (pss_one (ps_ret pe_non)) pss_nil)
      (pss_cons (ps_asg (pv 0) (kTgA K 2 rfl (pgs_cons (pg_name (i := 1) nd rfl (Or.inl rfl)) (pgs_cons (pg_name (i := 2) nd rfl (Or.inl rfl)) pgs_nil))))
      (pss_cons (ps_if (PW.pt (pw_or (pt_not (pt_val (pe_call c_is_integer.ok hr_is_integer (by rfl) c_is_integer.g c_is_integer.kp c_is_integer.b .nil pass0 (pa_cons (pv 1) pa_nil)))) (pw_or (pt_not (pt_val (pe_call c_is_integer.ok hr_is_integer (by rfl) c_is_integer.g c_is_integer.kp c_is_integer.b .nil pass0 (pa_cons (pv 2) pa_nil)))) (pw_or (pt_cmpR op_lt (pv 1) pe_int (nomark _)) (pw_or1 (pt_cmpR op_lt (pv 2) pe_int (nomark _))))))) (pss_one (ps_ret pe_non)) pss_nil)
      (pss_one (ps_ret (pe_call c_fraction.ok hr_fraction (by rfl) c_fraction.g c_fraction.kp c_fraction.b .nil pass0 (pa_cons (pv 1) (pa_cons (pv 2) pa_nil))))))))), ?_⟩
    have ki : kitB "int" "int" = some true := by decide +kernel
    have kb : kitB "int" "bool" = some false := by decide +kernel
    have kti : kitB "tuple" "int" = some false := by decide +kernel
    have ktb : kitB "tuple" "bool" = some false := by decide +kernel
    have isI : ∀ (o : Option Int) (H : Hp), ∃ (T : String) (b1 b2 : Bool), TyX K H (optI o) (.type T) ∧ PySem.W.kitOne K (.type T) (.type "int") = some b1 ∧ PySem.W.kitOne K (.type T) (.type "bool") = some b2 ∧ (b1 && !b2) = o.isSome := fun o H => by
      cases o with
      | none => exact ⟨"NoneType", false, false, .base .non, kit_ty (show kitB "NoneType" "int" = some false by decide +kernel), kit_ty (show kitB "NoneType" "bool" = some false by decide +kernel), rfl⟩
      | some i => exact ⟨"int", true, false, .base (.int _), kit_ty ki, kit_ty kb, rfl⟩
    refine ⟨fun σ' H' => σ' = [some (.ref a), none, none] ∧ H = H', ?_, ?_⟩
    · refine ⟨_, rfl, .ref a, .type "tuple", false, false, rfl, tyx_t (SqT.of ha), kit_ty kti, kit_ty ktb, ?_⟩
      refine ⟨_, rfl, ?_⟩
      refine iteF ?_
      exact ⟨rfl, rfl⟩
    rintro σ' H' ⟨rfl, rfl⟩
    refine ⟨fun σ' H' => σ' = [some (.ref a), none, none] ∧ Same H H', ?_, ?_⟩
    · refine ⟨_, rfl, .ref a, true, rfl, sqs_of (.inr (SqT.of ha)), fun H1 e1 => ?_⟩
      refine ⟨_, rfl, ?_⟩
      refine iteF ?_
      refine ⟨_, rfl, _, 2, rfl, .inr ⟨_, SqT.of (e1 _ _ ha), rfl⟩, rfl, ?_⟩
      refine ⟨_, rfl, ?_⟩
      refine if_no (by decide) ?_
      exact ⟨rfl, e1⟩
    rintro σ' H1 ⟨rfl, e1⟩
    refine ⟨_, rfl, .inl ⟨a, _, rfl, SqT.of (e1 _ _ ha), rfl, _, _, rfl, _, _, rfl, rfl, ?_⟩⟩
    obtain ⟨T1, c1, c2, ty1, k1, k2, hc⟩ := isI t H1
    refine ⟨_, rfl, optI t, .type T1, c1, c2, rfl, ty1, k1, k2, _, rfl, ?_⟩
    rw [hc]
    cases t with
    | none => exact if_so rfl (qq .non H1 e1 rfl)
    | some t =>
      refine if_no rfl ?_
      obtain ⟨T2, d1, d2, ty2, k3, k4, hd⟩ := isI b H1
      refine ⟨_, rfl, optI b, .type T2, d1, d2, rfl, ty2, k3, k4, _, rfl, ?_⟩
      rw [hd]
      cases b with
      | none => exact if_so rfl (qq .non H1 e1 rfl)
      | some b =>
        refine if_no rfl ?_
        have es : szM (some t) (some b) = if t < 0 ∨ b < 1 then none else some (mkRat t b.toNat) := rfl
        rw [es] at qq
        refine ⟨_, rfl, _, _, rfl, rfl, _, rfl, ?_⟩
        by_cases ht : t < 0
        · refine if_so (decide_eq_true ht) ?_
          exact qq .non H1 e1 (by rw [if_pos (.inl ht)]; rfl)
        · refine if_no (decide_eq_false ht) ?_
          refine ⟨_, rfl, _, _, rfl, rfl, _, rfl, ?_⟩
          by_cases hb : b < 1
          · refine if_so (decide_eq_true hb) ?_
            exact qq .non H1 e1 (by rw [if_pos (.inr hb)]; rfl)
          · refine if_no (decide_eq_false hb) ?_
            have b2 : b < 2 ^ 200 := of_decide_eq_true gd
            refine ⟨_, rfl, _, rfl, t, b.toNat, by rw [show ((b.toNat : Nat) : Int) = b from by omega]; rfl, by omega, ?_, fun z H2 nz e2 hz => ?_⟩
            · have : b.toNat < 2 ^ 200 := by omega
              exact Nat.lt_of_lt_of_le this (Nat.pow_le_pow_right (by decide) (by decide))
            · refine qq (.ref z) H2 (Same.trans e1 e2) ?_
              rw [if_neg (by omega)]
              exact ⟨z, rfl, hz⟩
theorem scSizeT : FnScope ["folders", "line", "names", "blank", "number", "top", "slash", "bottom", "lot", "size"] ["folders", "line"] (defScope (topS 79)) := ⟨rfl, rfl, rfl, by decide +kernel, rfl, by decide +kernel, by decide +kernel⟩
theorem ok_sizeT (B : Bi mg) {C aN f f1 f2 f3 f4 : Addr} {fd fd1 fd2 fd3 fd4 : FuncData} (TN : NoT K mg aN) (c_integer_told : Cal P w K mg base CX0 1 "integer_told" f1 fd1 ["text"] spIntT) (c_lot_of : Cal P w K mg base CX0 2 "lot_of" f2 fd2 ["folders", "thing"] (spLotOf K C)) (c_size_of : Cal P w K mg base CX0 3 "size_of" f3 fd3 ["thing"] spSizeO) (c_line_of_size : Cal P w K mg base CX0 1 "line_of_size" f4 fd4 ["lot", "size"] spLineS)
    (F : Fun K "size_told" "size_told" (topS 79) f fd) : FnOk P w K mg base CX0 4 f fd ["folders", "line"] (spSizeT C) := by
  refine F.ok scSizeT (fun vs H Q E h => ?_) (fun cdv A outer s H vs Q E hr h => ?_)
  · obtain ⟨x, line, zs, ch, rfl, _⟩ := h
    rfl
  · obtain ⟨x, line, zs, ch, rfl, FA, nz, z12, g, qn, qs⟩ := h
    have nd := scSizeT.nd
    have hu := hu_of hr
    have sl : sizeLine = 16777216 := sizeLine_eq
    have hr_size_of := hr
    have hr_lot_of : Room 2 _ := hr.mono (by decide)
    have hr_integer_told : Room 1 _ := hr.mono (by decide)
    have hr_line_of_size := hr_integer_told
    refine ⟨_, (Evl.pss_cut (ps_asg (pe_partition (pv 1) pe_str) (kTg K 3 rfl (pgs_cons (pg_name (i := 2) nd rfl (Or.inl rfl)) (pgs_cons (pg_name (i := 3) nd rfl (Or.inl rfl)) (pgs_cons (pg_name (i := 4) nd rfl (Or.inl rfl)) pgs_nil)))))
      (Evl.pss_cut (ps_asg (pe_partition (pv 4) pe_str) (kTg K 3 rfl (pgs_cons (pg_name (i := 5) nd rfl (Or.inl rfl)) (pgs_cons (pg_name (i := 6) nd rfl (Or.inl rfl)) (pgs_cons (pg_name (i := 7) nd rfl (Or.inl rfl)) pgs_nil)))))
      (Evl.pss_cut (ps_set (i := 8) nd rfl (Or.inl rfl) (pe_call c_lot_of.ok hr_lot_of (by rfl) c_lot_of.g c_lot_of.kp c_lot_of.b .nil pass0 (pa_cons (pv 0) (pa_cons (pe_split (pv 2) pe_str) pa_nil))))
      (Evl.pss_cut (ps_set (i := 9) nd rfl (Or.inl rfl) (pe_call c_size_of.ok hr_size_of (by rfl) c_size_of.g c_size_of.kp c_size_of.b .nil pass0 (pa_cons (pe_tup (pa_cons (pe_call c_integer_told.ok hr_integer_told (by rfl) c_integer_told.g c_integer_told.kp c_integer_told.b .nil pass0 (pa_cons (pv 5) pa_nil)) (pa_cons (pe_ifExp (pt_cmpR op_ne (pv 6) pe_str (nomark _)) (pe_call c_integer_told.ok hr_integer_told (by rfl) c_integer_told.g c_integer_told.kp c_integer_told.b .nil pass0 (pa_cons (pv 7) pa_nil)) pe_int) pa_nil))) pa_nil)))
      (Evl.pss_cut (ps_if (PW.pt (pw_or (pt_cmpR op_isN (pv 8) pe_non (nomark _)) (pw_or (pt_cmpR op_isN (pv 9) pe_non (nomark _)) (pw_or1 (pt_cmpR (kEqD K hr.units) (pv 9) (pe_glob (v:=.ref aN) (by rfl) TN.g rfl) (nomark _)))))) (pss_one (ps_ret pe_non)) pss_nil)
      (pss_one (ps_ret (pe_ifExp (pt_cmpR op_eq (pe_call c_line_of_size.ok hr_line_of_size (by rfl) c_line_of_size.g c_line_of_size.kp c_line_of_size.b .nil pass0 (pa_cons (pv 8) (pa_cons (pv 9) pa_nil))) (pv 1) (nomark _)) (pe_tup (pa_cons (pv 8) (pa_cons (pv 9) pa_nil))) pe_non)))))))), ?_⟩
    unfold gSize at g
    obtain ⟨g1, g⟩ := Bool.and_eq_true_iff.mp g
    obtain ⟨g2, g⟩ := Bool.and_eq_true_iff.mp g
    obtain ⟨g3, g⟩ := Bool.and_eq_true_iff.mp g
    obtain ⟨g4, g⟩ := Bool.and_eq_true_iff.mp g
    obtain ⟨g5, g⟩ := Bool.and_eq_true_iff.mp g
    obtain ⟨g6, g7⟩ := Bool.and_eq_true_iff.mp g
    have g1 := of_decide_eq_true g1
    have g2 := of_decide_eq_true g2
    unfold gLot at g3
    obtain ⟨g3, g8⟩ := Bool.and_eq_true_iff.mp g3
    have g3 := of_decide_eq_true g3
    have g8 := of_decide_eq_true g8
    unfold sizeM at qn qs
    refine ⟨fun σ H1 => ∃ v3, σ = [some (.ref x), some (.str line), some (.str (namM line)), v3, some (.str (Txt.partition line (Str.ofString " ")).2.2), none, none, none, none, none] ∧ Same H H1, ?_, ?_⟩
    · refine ⟨_, rfl, ⟨line, rfl⟩, line, _, rfl, rfl, by decide +kernel, by omega, fun p np => ?_⟩
      exact ⟨p, _, rfl, SqT.of upd_same, rfl, _, _, rfl, _, _, rfl, _, _, rfl, rfl, _, rfl, same_upd np⟩
    rintro σ H1 ⟨v3, rfl, e1⟩
    refine ⟨fun σ H2 => σ = [some (.ref x), some (.str line), some (.str (namM line)), v3, some (.str (Txt.partition line (Str.ofString " ")).2.2), some (.str (topM line)), some (.str (slashM line)), some (.str (botM line)), none, none] ∧ Same H H2, ?_, ?_⟩
    · refine ⟨_, rfl, ⟨_, rfl⟩, _, _, rfl, rfl, by decide +kernel, by omega, fun p np => ?_⟩
      exact ⟨p, _, rfl, SqT.of upd_same, rfl, _, _, rfl, _, _, rfl, _, _, rfl, rfl, rfl, Same.trans e1 (same_upd np)⟩
    rintro σ H2 ⟨rfl, e2⟩
    refine ⟨fun σ H3 => ∃ u, σ = [some (.ref x), some (.str line), some (.str (namM line)), v3, some (.str (Txt.partition line (Str.ofString " ")).2.2), some (.str (topM line)), some (.str (slashM line)), some (.str (botM line)), some u, none] ∧ Same H H3 ∧ ((lotT ch zs (namM line) = none ∧ u = .non) ∨ ∃ l a, lotT ch zs (namM line) = some l ∧ u = .ref a ∧ H3 a = some (.tup (l.map V.str))), ?_, ?_⟩
    · refine ⟨_, rfl, _, rfl, ⟨_, rfl⟩, _, _, rfl, rfl, by decide +kernel, by omega, fun p np => ?_⟩
      have e3 := same_upd (o := HO.lst ((Txt.split (namM line) (Str.ofString "+")).map V.str)) np
      have e03 := Same.trans e2 e3
      have hp : upd H2 p (.lst ((Txt.split (namM line) (Str.ofString "+")).map V.str)) p = some (.lst ((Txt.split (namM line) (Str.ofString "+")).map V.str)) := upd_same
      refine ⟨x, .ref p, zs, ch, rfl, FA.same e03, nz, z12, .inr ⟨p, _, rfl, .inl (SqL.of hp), sqs_of (.inl (SqL.of hp)), ?_, by rw [List.length_map]; omega, fun H4 e4 hl => ?_, fun t l H4 nt e4 hl ht => ?_⟩⟩
      · rw [List.all_eq_true]
        intro v m
        obtain ⟨z, _, rfl⟩ := List.mem_map.mp m
        rfl
      · exact ⟨_, rfl, Same.trans e03 e4, .inl ⟨hl, rfl⟩⟩
      · exact ⟨_, rfl, Same.trans e03 e4, .inr ⟨l, t, hl, rfl, ht⟩⟩
    rintro σ H3 ⟨u, rfl, e3, hl⟩
    refine ⟨fun σ H4 => ∃ v, σ = [some (.ref x), some (.str line), some (.str (namM line)), v3, some (.str (Txt.partition line (Str.ofString " ")).2.2), some (.str (topM line)), some (.str (slashM line)), some (.str (botM line)), some u, some v] ∧ Same H3 H4 ∧ optR (szM (intM (topM line)) (denM line)) H4 v, ?_, ?_⟩
    · refine ⟨_, rfl, topM line, rfl, g4, fun H4 e4 => ?_⟩
      refine ⟨_, rfl, rfl, _, rfl, ?_⟩
      have fin : ∀ H5, Same H4 H5 → ∀ d, denM line = d → ∀ Q : VK, (∀ v H', Same H3 H' → optR (szM (intM (topM line)) (denM line)) H' v → Q v H') → ∀ p, H5 p = none → spSizeO [.ref p] (upd H5 p (.tup [optI (intM (topM line)), optI d])) Q E0 := fun H5 e5 d ed Q r p np => by
        refine ⟨p, intM (topM line), d, rfl, upd_same, by rw [← ed]; exact g6, fun v H' e' o => r v H' (Same.trans e4 (Same.trans e5 (Same.trans (same_upd np) e'))) (by rw [ed]; exact o)⟩
      by_cases hs : slashM line = Str.ofString ""
      · have hd : denM line = some 1 := if_pos hs
        refine if_no (by rw [hs]; rfl) ?_
        refine ⟨by show 2 ≤ sizeLine; decide, fun p np => ?_⟩
        exact fin H4 (Same.refl _) (some 1) hd _ (fun v H' e' o => ⟨v, rfl, e', o⟩) p np
      · have hd : denM line = intM (botM line) := if_neg hs
        have g5 : gInt (botM line) = true := by
          rw [decide_eq_false hs, Bool.false_or] at g5
          exact g5
        have ns : ¬ V.str (slashM line) = V.str (Str.ofString "") := fun e => hs (by injection e)
        refine if_so (by rw [decide_eq_false ns]; rfl) ?_
        refine ⟨_, rfl, botM line, rfl, g5, fun H5 e5 => ?_⟩
        refine ⟨by show 2 ≤ sizeLine; decide, fun p np => ?_⟩
        exact fin H5 e5 _ hd _ (fun v H' e' o => ⟨v, rfl, e', o⟩) p np
    rintro σ H4 ⟨v, rfl, e4, hv⟩
    have e04 := Same.trans e3 e4
    rcases hl with ⟨hl, rfl⟩ | ⟨l, a, hl, rfl, ha⟩
    · refine ⟨fun _ _ => False, ?_, fun _ _ z => z.elim⟩
      refine ⟨_, rfl, rfl, _, rfl, ?_⟩
      refine iteT ?_
      exact qn (by rw [hl]; rfl) H4 e04
    · rw [hl] at qn qs g7
      have ha4 := e4 _ _ ha
      cases hz : szM (intM (topM line)) (denM line) with
      | none =>
        rw [hz] at qn hv
        have hv : v = .non := hv
        subst hv
        refine ⟨fun _ _ => False, ?_, fun _ _ z => z.elim⟩
        refine ⟨_, rfl, rfl, _, rfl, ?_⟩
        refine iteF ?_
        refine ⟨_, rfl, rfl, _, rfl, ?_⟩
        refine iteT ?_
        exact qn rfl H4 e04
      | some q =>
        rw [hz] at qn qs hv g7
        obtain ⟨z, rfl, hz4⟩ := hv
        have hq : sizeQ line (some l) (some q) = if q = 0 then none else if lineS l q.num (q.den : Int) = line then some (l, q) else none := rfl
        rw [hq] at qn qs
        by_cases q0 : q = 0
        · refine ⟨fun _ _ => False, ?_, fun _ _ z => z.elim⟩
          refine ⟨_, rfl, rfl, _, rfl, ?_⟩
          refine iteF ?_
          refine ⟨_, rfl, rfl, _, rfl, ?_⟩
          refine iteF ?_
          refine ⟨_, rfl, dQ q, dQ 0, dp_q ⟨z, rfl, SqT.of hz4⟩, dp_q ⟨aN, rfl, TN.t _⟩, shaped_q _, shaped_q _, _, rfl, ?_⟩
          refine if_so (by rw [eqv_q, decide_eq_true q0]) ?_
          exact qn (if_pos q0) H4 e04
        · rw [if_neg q0] at qn qs
          refine ⟨fun σ H5 => σ = [some (.ref x), some (.str line), some (.str (namM line)), v3, some (.str (Txt.partition line (Str.ofString " ")).2.2), some (.str (topM line)), some (.str (slashM line)), some (.str (botM line)), some (.ref a), some (.ref z)] ∧ H4 = H5, ?_, ?_⟩
          · refine ⟨_, rfl, rfl, _, rfl, ?_⟩
            refine iteF ?_
            refine ⟨_, rfl, rfl, _, rfl, ?_⟩
            refine iteF ?_
            refine ⟨_, rfl, dQ q, dQ 0, dp_q ⟨z, rfl, SqT.of hz4⟩, dp_q ⟨aN, rfl, TN.t _⟩, shaped_q _, shaped_q _, _, rfl, ?_⟩
            refine if_no (by rw [eqv_q, decide_eq_false q0]) ?_
            exact ⟨rfl, rfl⟩
          rintro σ H5 ⟨rfl, rfl⟩
          refine ⟨_, rfl, _, rfl, a, z, l, q.num, (q.den : Int), rfl, ha4, hz4, g7, ?_⟩
          refine ⟨_, rfl, rfl, _, rfl, ?_⟩
          by_cases hL : lineS l q.num (q.den : Int) = line
          · refine if_so (by rw [hL, decide_eq_true rfl]) ?_
            refine ⟨_, rfl, _, rfl, by show 2 ≤ sizeLine; decide, fun p np => ?_⟩
            have e6 := same_upd (o := HO.tup [.ref a, .ref z]) np
            exact qs l q (if_pos hL) p a z _ (Same.trans e04 e6) upd_same (e6 _ _ ha4) (e6 _ _ hz4)
          · have nL : ¬ V.str (lineS l q.num (q.den : Int)) = V.str line := fun e => hL (by injection e)
            refine if_no (decide_eq_false nL) ?_
            exact qn (if_neg hL) H4 e04
end
end Bk

namespace Bk
open PySem PySem.Spec PyProof.Rows L2
theorem entW_put {es : List (List Str × V)} {l : List Str} {v : V} (h : ∀ e ∈ es, e.1 ≠ l) : putK (entW es) (l.map Sum.inr) v = entW (es ++ [(l, v)]) := by
  rw [putK_fresh]
  · unfold entW
    rw [List.map_append]
    rfl
  · unfold entW
    rw [List.map_map]
    intro m
    obtain ⟨e', m', q⟩ := List.mem_map.mp m
    exact h e' m' (inr_inj q)
/-- a size that was told -/
def SzAt (H : Hp) (v : V) : Prop := ∃ z q, v = .ref z ∧ H z = some (.tup (pairQ q)) ∧ 0 ≤ q.num ∧ q.den < 2 ^ 200
theorem SzAt.siz {K : PySem.W.Frag} {H : Hp} {v : V} (h : SzAt H v) : ∃ q, SizV K H v q := by
  obtain ⟨z, q, rfl, hz, q0, qd⟩ := h
  refine ⟨q, .inr ⟨z, q.num.toNat, q.den, rfl, .inl ?_, q.den_pos, ?_, ?_⟩⟩
  · rw [show ((q.num.toNat : Nat) : Int) = q.num from by omega]
    exact SqT.of hz
  · exact Nat.lt_of_lt_of_le qd (Nat.pow_le_pow_right (by decide) (by decide))
  · rw [show ((q.num.toNat : Nat) : Int) = q.num from by omega]
    exact (Rat.mkRat_self q).symm
/-- what stands in the dict of sizes -/
structure EsAt (ch : Bool) (zs : List Str) (H : Hp) (es : List (List Str × V)) (last : Int) : Prop where
  mem : ∀ e ∈ es, e.1 ∈ lotsFor ch zs
  le : ∀ e ∈ es, placeI ch zs e.1 ≤ last
  sz : ∀ e ∈ es, SzAt H e.2
  nd : (es.map (·.1)).Nodup
theorem EsAt.same {ch : Bool} {zs : List Str} {H H' : Hp} {es : List (List Str × V)} {last : Int} (h : EsAt ch zs H es last) (e : Same H H') : EsAt ch zs H' es last := ⟨h.mem, h.le, fun x m => let ⟨z, q, a, b, c⟩ := h.sz x m; ⟨z, q, a, e _ _ b, c⟩, h.nd⟩
theorem EsAt.put {ch : Bool} {zs l : List Str} {H : Hp} {es : List (List Str × V)} {last : Int} {v : V} (h : EsAt ch zs H es last) (m : l ∈ lotsFor ch zs) (c : last < placeI ch zs l) (z : SzAt H v) : EsAt ch zs H (es ++ [(l, v)]) (placeI ch zs l) :=
  ⟨fun e me => (List.mem_append.mp me).elim (h.mem e) (fun me => by rw [List.mem_singleton.mp me]; exact m), fun e me => (List.mem_append.mp me).elim (fun me => by have := h.le e me; omega) (fun me => by rw [List.mem_singleton.mp me]; exact Int.le_refl _), fun e me => (List.mem_append.mp me).elim (h.sz e) (fun me => by rw [List.mem_singleton.mp me]; exact z), by
    rw [List.map_append]
    refine List.nodup_append.mpr ⟨h.nd, by simp, fun a ma b mb e => ?_⟩
    obtain ⟨x, mx, rfl⟩ := List.mem_map.mp ma
    have hb : b = l := List.mem_singleton.mp mb
    have := h.le x mx
    rw [e, hb] at this
    omega⟩
/-- store_told(folders, lines) -/
def spStoreT (K : PySem.W.Frag) (C CS CX : Addr) : Sp := fun vs H Q E => ∃ (x ls : Addr) (lines zs : List Str) (ch : Bool), vs = [.ref x, .ref ls] ∧ FoldersAt C H x zs ch ∧ zs.Nodup ∧ zs.length ≤ mostFor ch ∧ H ls = some (.lst (lines.map V.str)) ∧ gStore ch zs lines = true ∧
  (∀ n, storeM ch zs 0 (-1) lines = some n → ∀ H0, Same H H0 → ∀ d H', ExcAt H0 d "line" (.int (n : Int)) H' → E (.ref CX) (some d) H') ∧ (storeM ch zs 0 (-1) lines = none → ∀ s sz H', Same H H' → StoreAt K C CS H' s x zs ch sz → Q (.ref s) H')
section
variable {P : Program} {w : World} {K : PySem.W.Frag} {mg : Str → Option Value} {base : Heap}
theorem scStoreT : FnScope ["folders", "lines", "sizes", "last", "at", "line", "found", "lot", "size"] ["folders", "lines"] (defScope (topS 77)) := ⟨rfl, rfl, rfl, by decide +kernel, rfl, by decide +kernel, by decide +kernel⟩
theorem ok_storeT (B : Bi mg) {C CS CX fF fS fX f f1 : Addr} {fdS fdX fd fd1 : FuncData} (T : FolT K mg C fF) (TS : StoT K mg CS fS) (T_BadText : ExT K mg "BadText" CX fX "line") (G_BadText : FnOk P w K mg base CX0 1 fX fdX ["self", "line"] (spExcInit CX "line")) (b_BadText : Binds K fdX ["self", "line"] [])
    (GS : FnOk P w K mg base CX0 4 fS fdS ["self", "folders", "sizes"] (spStore K C CS)) (bS : Binds K fdS ["self", "folders", "sizes"] []) (c_size_told : Cal P w K mg base CX0 4 "size_told" f1 fd1 ["folders", "line"] (spSizeT C))
    (F : Fun K "store_told" "store_told" (topS 77) f fd) : FnOk P w K mg base (L2N.CX P w) 6 f fd ["folders", "lines"] (spStoreT K C CS CX) := by
  refine Fun.okN F scStoreT (fun vs H Q E h => ?_) (fun cdv A outer s H vs Q E hr h => ?_)
  · obtain ⟨x, ls, lines, zs, ch, rfl, _⟩ := h
    rfl
  · obtain ⟨x, ls, lines, zs, ch, rfl, FA, nz, lz, hls, g, qe, qs⟩ := h
    have nd := scStoreT.nd
    have hu := hu_of hr
    have hrS := hr
    have hr_size_told : Room 4 _ := hr.mono (by decide)
    have hrE : Room 2 _ := hr.mono (by decide)
    refine ⟨_, (Evl.pss_cut (ps_set (i := 2) nd rfl (Or.inl rfl) pe_dnewT)
      (Evl.pss_cut (ps_set (i := 3) nd rfl (Or.inl rfl) (pe_un un_neg pe_int))
      (pss_cons (ps_for (passes_of rfl) rfl (kPiE K (by rfl) B.enumerate (pa_cons (pv 1) pa_nil)) (kTg K 2 rfl (pgs_cons (pg_name (i := 4) nd rfl (Or.inl rfl)) (pgs_cons (pg_name (i := 5) nd rfl (Or.inl rfl)) pgs_nil))) (pss_one (ps_if (pt_cmpR op_gt (pv 4) pe_int (nomark _)) (pss_cons (ps_set (i := 6) nd rfl (Or.inl rfl) (pe_call c_size_told.ok hr_size_told (by rfl) c_size_told.g c_size_told.kp c_size_told.b .nil pass0 (pa_cons (pv 0) (pa_cons (pv 5) pa_nil))))
      (pss_cons (ps_if (PW.pt (pw_or (pt_cmpR op_isN (pv 6) pe_non (nomark _)) (pw_or1 (pt_cmpR op_le (pe_dget hu (pe_fld (pv 0) rfl) (pe_ix (kIxT K) (pv 6) pe_int (fun _ _ => rfl)) (fun _ _ => rfl)) (pv 3) (nomark _))))) (pss_one (L2N.ps_raise rfl (L2N.takes_of rfl rfl rfl rfl) (pmk_oexN T_BadText.o T_BadText.iC T_BadText.tI G_BadText hrE b_BadText pass0 (by rfl) T_BadText.g (pa_cons (pe_op op_add (pv 4) pe_int) pa_nil)))) pss_nil)
      (pss_cons (ps_asg (pv 6) (kTg K 2 rfl (pgs_cons (pg_name (i := 7) nd rfl (Or.inl rfl)) (pgs_cons (pg_name (i := 8) nd rfl (Or.inl rfl)) pgs_nil))))
      (pss_cons (ps_dput hu (pv 2) (pv 7) (pv 8) rfl)
      (pss_one (ps_set (i := 3) nd rfl (Or.inl rfl) (pe_dget hu (pe_fld (pv 0) rfl) (pv 7) (fun _ _ => rfl)))))))) pss_nil)))
      (pss_one (ps_ret (pe_make TS.make GS hrS (by rfl) TS.g bS .nil pass0 (pa_cons (pv 0) (pa_cons (pv 2) pa_nil)))))))), ?_⟩
    unfold gStore at g
    obtain ⟨g1, g2⟩ := Bool.and_eq_true_iff.mp g
    have g1 := of_decide_eq_true g1
    have gz : ∀ line ∈ lines, gSize ch zs line = true := fun line m => List.all_eq_true.mp g2 line m
    have l12 : zs.length ≤ 12 := Nat.le_trans lz (by cases ch <;> decide)
    obtain ⟨dx, t, pd, hx, ht, hpd⟩ := id FA
    have lln : (lines.map V.str).length = lines.length := List.length_map ..
    refine ⟨fun σ H1 => ∃ D, σ = [some (.ref x), some (.ref ls), some (.ref D), none, none, none, none, none, none] ∧ H D = none ∧ Same H H1 ∧ H1 D = some (.dT []), ?_, ?_⟩
    · exact fun D nD => ⟨D, rfl, nD, same_upd nD, upd_same⟩
    rintro σ H1 ⟨D, rfl, nD, e1, hD1⟩
    refine ⟨fun σ H2 => σ = [some (.ref x), some (.ref ls), some (.ref D), some (.int (-1)), none, none, none, none, none] ∧ H1 = H2, ?_, ?_⟩
    · exact ⟨1, rfl, rfl, rfl⟩
    rintro σ H2 ⟨rfl, rfl⟩
    refine st_seq ?_
    refine ⟨_, rfl, ls, rfl, .inl ⟨_, SqL.of (e1 _ _ hls), ?_⟩⟩
    refine for_it walk_enum (fun i σ H2 => ∃ (last : Int) (es : List (List Str × V)) (v4 v5 v6 v7 v8 : Option V), σ = [some (.ref x), some (.ref ls), some (.ref D), some (.int last), v4, v5, v6, v7, v8] ∧ Same H H2 ∧ H2 D = some (.dT (entW es)) ∧ EsAt ch zs H2 es last ∧ es.length ≤ i ∧ storeM ch zs i last (lines.drop i) = storeM ch zs 0 (-1) lines) ?_ (fun i σ H2 _ ⟨_, _, _, _, _, _, _, _, e, _⟩ => SqL.of (e _ _ hls)) ?_ ?_
    · exact ⟨-1, [], _, _, _, _, _, rfl, e1, hD1, ⟨fun e m => (nomatch m), fun e m => (nomatch m), fun e m => (nomatch m), by simp⟩, Nat.zero_le _, rfl⟩
    · rintro i y σ H2 H3 hi ⟨last, es, v4, v5, v6, v7, v8, rfl, e02, hD2, hE, le, hm⟩ ⟨T1, y1, y2, rfl, nT, rfl, h1, h2⟩
      cases h1
      have h2 : (lines.map V.str)[i]? = some y2 := h2
      have hi' : i < lines.length := by rw [← lln]; exact hi
      rw [List.getElem?_map, List.getElem?_eq_getElem hi'] at h2
      have h2 := (Option.some.inj h2).symm
      subst h2
      have hml : lines[i] ∈ lines := List.getElem_mem hi'
      rw [List.drop_eq_getElem_cons hi'] at hm
      generalize lines[i] = line at hm hml ⊢
      have gl := gz line hml
      have eT := same_upd (o := HO.tup [V.int (i : Nat), V.str line]) nT
      refine ⟨T1, _, rfl, SqT.of upd_same, rfl, _, _, rfl, _, _, rfl, rfl, ?_⟩
      generalize upd H2 T1 (.tup [.int (i : Nat), V.str line]) = H3 at eT ⊢
      have e03 := Same.trans e02 eT
      refine ⟨_, rfl, _, 0, rfl, rfl, _, rfl, ?_⟩
      cases i with
      | zero =>
        refine if_no (decide_eq_false (by omega)) ?_
        exact ⟨last, es, _, _, _, _, _, rfl, e03, eT _ _ hD2, hE.same eT, by omega, hm⟩
      | succ k =>
        refine if_so (decide_eq_true (by omega)) ?_
        refine ⟨_, rfl, _, rfl, x, line, zs, ch, rfl, FA.same e03, nz, l12, gl, fun hn H4 e4 => ?_, fun l q hz p a z H4 e4 hp ha hzz => ?_⟩
        · refine ⟨_, rfl, rfl, _, rfl, ?_⟩
          refine iteT ?_
          refine iteT ?_
          have hm : (match sizeM ch zs line with
            | none => some (k + 2)
            | some (l, _) => if placeI ch zs l ≤ last then some (k + 2) else storeM ch zs (k + 2) (placeI ch zs l) (lines.drop (k + 1 + 1))) = storeM ch zs 0 (-1) lines := hm
          rw [hn] at hm
          exact mkO_of (fun R hR => ⟨_, rfl, _, _, rfl, rfl, hR⟩) (fun d H' hE => qe (k + 2) hm.symm H4 (Same.trans e03 e4) d H' (by
            have : ((k + 1 : Nat) : Int) + 1 = ((k + 2 : Nat) : Int) := by omega
            rw [← this]
            exact hE))
        · have hm : (match sizeM ch zs line with
            | none => some (k + 2)
            | some (l, _) => if placeI ch zs l ≤ last then some (k + 2) else storeM ch zs (k + 2) (placeI ch zs l) (lines.drop (k + 1 + 1))) = storeM ch zs 0 (-1) lines := hm
          rw [hz] at hm
          have hm : (if placeI ch zs l ≤ last then some (k + 2) else storeM ch zs (k + 2) (placeI ch zs l) (lines.drop (k + 1 + 1))) = storeM ch zs 0 (-1) lines := hm
          have ml := lotT_mem (sizeM_lot hz).1
          have num := sizeM_num hz gl
          have e04 := Same.trans e03 e4
          have pl := place_at (ch := ch) nz ml
          have ha' : H4 a = some (.tup ((l.map Sum.inr : List Key).map kV)) := by
            rw [ha, List.map_map]
            rfl
          have dg := DGet.t (e04 _ _ hpd) ha'
          rw [pl] at dg
          refine ⟨_, rfl, rfl, _, rfl, ?_⟩
          refine iteF ?_
          refine ⟨_, rfl, x, C, dx, _, _, rfl, e04 _ _ hx, T.cl, T.nP, look_places _ _ _, _, rfl, p, _, 0, .ref a, rfl, rfl, SqT.of hp, rfl, pd, _, rfl, dg, _, rfl, _, _, rfl, rfl, _, rfl, ?_⟩
          by_cases c : placeI ch zs l ≤ last
          · rw [if_pos c] at hm
            refine if_so (decide_eq_true c) ?_
            exact mkO_of (fun R hR => ⟨_, rfl, _, _, rfl, rfl, hR⟩) (fun d H' hE => qe (k + 2) hm.symm H4 e04 d H' (by
              have : ((k + 1 : Nat) : Int) + 1 = ((k + 2 : Nat) : Int) := by omega
              rw [← this]
              exact hE))
          · rw [if_neg c] at hm
            refine if_no (decide_eq_false c) ?_
            have hD4 := (Same.trans eT e4) _ _ hD2
            have fr : ∀ e ∈ es, e.1 ≠ l := fun e m z => by
              have := hE.le e m
              rw [z] at this
              exact c this
            have hE4 := (hE.same (Same.trans eT e4)).put ml (by omega) (v := .ref z) ⟨z, q, rfl, hzz, num.1, num.2⟩
            refine ⟨_, rfl, p, _, rfl, SqT.of hp, rfl, _, _, rfl, _, _, rfl, rfl, ?_⟩
            refine ⟨_, rfl, _, rfl, _, rfl, D, _, rfl, DPut.t (k := l.map Sum.inr) hD4 ha' ?_, ?_⟩
            · unfold entW
              rw [List.length_map]
              exact Evl.sz_lt (by omega)
            rw [entW_put fr]
            have kp : ∀ {b : Addr} {u : HO}, H b = some u → upd H4 D (.dT (entW (es ++ [(l, .ref z)]))) b = some u := fun {b u} h => by
              rw [upd_ne (ne_of_none h nD)]
              exact e04 _ _ h
            have a4 : a ≠ D := ne_of ha' hD4 (fun z => nomatch z)
            have dg2 := DGet.t (H := upd H4 D (.dT (entW (es ++ [(l, .ref z)])))) (kp hpd) (show upd H4 D (.dT (entW (es ++ [(l, .ref z)]))) a = some (.tup ((l.map Sum.inr : List Key).map kV)) by rw [upd_ne a4]; exact ha')
            rw [pl] at dg2
            refine ⟨_, rfl, x, C, dx, _, _, rfl, kp hx, T.cl, T.nP, look_places _ _ _, _, rfl, pd, _, rfl, dg2, ?_⟩
            refine ⟨_, _, _, _, _, _, _, rfl, fun b u h => kp h, upd_same, ⟨hE4.mem, hE4.le, fun e m => ?_, hE4.nd⟩, by rw [List.length_append]; show es.length + 1 ≤ _; omega, hm⟩
            obtain ⟨z1, q1, h1, h2, h3⟩ := hE4.sz e m
            refine ⟨z1, q1, h1, ?_, h3⟩
            rw [upd_ne (ne_of h2 hD4 (fun z => nomatch z))]
            exact h2
    · rintro σ H2 ⟨last, es, v4, v5, v6, v7, v8, rfl, e02, hD2, hE, le, hm⟩
      rw [lln, List.drop_length] at hm
      have hm : storeM ch zs 0 (-1) lines = none := by
        rw [← hm]
        cases lines.length <;> rfl
      have ex : ∀ l : List Str, ∃ q, Siz0 K H2 (valV (foundW zs es) (l.map Sum.inr)) q := fun l => by
        cases hv : valV (foundW zs es) (l.map Sum.inr) with
        | none => exact ⟨0, .inl ⟨rfl, rfl⟩⟩
        | some v =>
          obtain ⟨p, m, rfl⟩ := valV_mem hv
          obtain ⟨e, me, rfl⟩ := List.mem_map.mp m
          obtain ⟨q, hq⟩ := (hE.sz e me).siz (K := K)
          exact ⟨q, .inr ⟨_, rfl, hq⟩⟩
      refine ⟨_, rfl, _, rfl, fun s ds ns nds hne => ?_⟩
      have e3 := Same.grow (o := HO.ins CS ds []) (Same.grow (o := HO.own s) (Same.refl H2) nds) ns
      have e03 := Same.trans e02 e3
      have hls : ∀ e ∈ es, lotS zs e.1 = e.1 := fun e m => lotS_of lz nz (hE.mem e m)
      refine ⟨s, x, ds, dx, t, pd, .ref D, zs, ch, fun l => Classical.choose (ex l), rfl, upd_same, e03 _ _ hx, e03 _ _ ht, e03 _ _ hpd, nz, lz, .inr ⟨D, es, rfl, ne_of_none hpd nD, e3 _ _ hD2, ⟨by omega, fun e m => ?_, fun e m => ?_, ?_⟩, fun e m => ?_, fun l _ => (Classical.choose_spec (ex l)).same e3⟩, fun H' SA bt => ⟨rfl, qs hm s _ H' (fun b u h => bt b u (ne_of_none (e02 _ _ h) ns) (e03 _ _ h)) SA⟩⟩
      · rw [hls e m]
        exact lotOfV_lot lz nz (hE.mem e m)
      · have h := hls e m
        rw [← h]
        unfold lotS
        exact Nat.le_trans (List.length_filter_le ..) (by omega)
      · rw [List.map_congr_left hls]
        exact hE.nd
      · obtain ⟨q, hq⟩ := (hE.sz e m).siz (K := K)
        exact ⟨q, hq.same e3⟩
end
end Bk

/-! what a law keeps of a book's tellings -/
namespace Bk
open PySem PySem.Spec PyProof.Rows L2
section
variable {zs zs' : List Str} {ch ch' : Bool} {w w' : List Str → Int}
theorem eq_alike (h : ∀ l ∈ lotsFor ch zs, w l = w' l) : eqQ zs ch w zs ch w' = true := by
  unfold eqQ
  rw [decide_eq_true rfl, decide_eq_true rfl, sameT_eq h]
  rfl
theorem eq_apart (nd : zs.Nodup) (h : ∃ l ∈ lotsFor ch zs, w l ≠ w' l) : eqQ zs ch w zs ch w' = false := by
  cases e : eqQ zs ch w zs ch w' with
  | false => rfl
  | true =>
    unfold eqQ at e
    rw [decide_eq_true rfl, decide_eq_true rfl] at e
    obtain ⟨l, m, n⟩ := h
    exact absurd (sameT_ne nd e l m) n
theorem eq_strange (n : zs ≠ zs') : eqQ zs ch w zs' ch' w' = false := by
  unfold eqQ
  rw [decide_eq_false n]
  rfl
end
/-- the book's questions are the law's -/
structure Alike (zs : List Str) (ch : Bool) (wts : List (List Str → Int)) (ts : List ((List Str → Int) × V × V)) : Prop where
  len : wts.length = ts.length
  at_ : ∀ (i : Nat) (w : List Str → Int) (t : (List Str → Int) × V × V), wts[i]? = some w → ts[i]? = some t → ∀ l ∈ lotsFor ch zs, w l = t.1 l
/-- no question is told twice -/
def Once (zs : List Str) (ch : Bool) (ts : List ((List Str → Int) × V × V)) : Prop := ∀ (i j : Nat) (t u : (List Str → Int) × V × V), i < j → ts[i]? = some t → ts[j]? = some u → ∃ l ∈ lotsFor ch zs, t.1 l ≠ u.1 l
theorem place_told {zs : List Str} {ch : Bool} {wts : List (List Str → Int)} {ts : List ((List Str → Int) × V × V)} {i : Nat} {t : (List Str → Int) × V × V} (nd : zs.Nodup) (a : Alike zs ch wts ts) (o : Once zs ch ts) (h : ts[i]? = some t) : placeQ zs ch wts zs ch t.1 = some i := by
  have hi := (List.getElem?_eq_some_iff.mp h).1
  have hw : wts[i]? = some (wts[i]'(by rw [a.len]; exact hi)) := List.getElem?_eq_getElem _
  refine place_some hw (eq_alike (a.at_ i _ t hw h)) fun j u hj hu => ?_
  have hj2 : j < ts.length := by omega
  have ht : ts[j]? = some ts[j] := List.getElem?_eq_getElem hj2
  obtain ⟨l, m, n⟩ := o j i _ t hj ht h
  exact eq_apart nd ⟨l, m, by rw [a.at_ j u _ hu ht l m]; exact n⟩
theorem place_strange {zs zs' : List Str} {ch ch' : Bool} {wts : List (List Str → Int)} {w : List Str → Int} (n : zs ≠ zs') : placeQ zs ch wts zs' ch' w = none := place_none fun _ _ => eq_strange n
/-! ends as data -/
def EndV (v : V) : Prop := v = .non ∨ ∃ i, v = .int i
def dE : V → PyData
  | .int i => .int i
  | _ => .none
theorem dp_end {K : PySem.W.Frag} {H : Hp} {v : V} (h : EndV v) : Dp K H v (dE v) := by
  rcases h with rfl | ⟨i, rfl⟩
  · exact .non
  · exact .int i
theorem EndOk.v {lo hi : V} (h : EndOk lo hi) : EndV lo ∧ EndV hi := by
  rcases h with ⟨a, j, b⟩ | ⟨a, j, b⟩ | ⟨i, j, a, b, _⟩
  · exact ⟨.inl a, .inr ⟨j, b⟩⟩
  · exact ⟨.inr ⟨j, b⟩, .inl a⟩
  · exact ⟨.inr ⟨i, a⟩, .inr ⟨j, b⟩⟩
def dP (p : V × V) : PyData := .tuple [dE p.1, dE p.2]
theorem depth_e (v : V) : (dE v).depth = 0 := by cases v <;> simp [dE, PyData.depth]
theorem wide_e (v : V) : wide (dE v) = 0 := by cases v <;> simp [dE, wide]
theorem depth_p (p : V × V) : (dP p).depth ≤ 1 := by simp [dP, PyData.depth, PyData.depthAll, depth_e]
theorem wide_p (p : V × V) : wide (dP p) ≤ 2 := by simp [dP, wide, wideAll, wide_e]
theorem depth_ps : ∀ ps : List (V × V), PyData.depthAll (ps.map dP) ≤ 1
  | [] => by simp [PyData.depthAll]
  | p :: r => by
    have h1 := depth_ps r
    have h2 := depth_p p
    simp only [List.map_cons, PyData.depthAll]
    omega
theorem wide_ps : ∀ ps : List (V × V), wideAll (ps.map dP) ≤ 2
  | [] => by simp [wideAll]
  | p :: r => by
    have h1 := wide_ps r
    have h2 := wide_p p
    simp only [List.map_cons, wideAll]
    omega
theorem depth_lps (ps : List (V × V)) : (PyData.list (ps.map dP)).depth ≤ 3 := by
  have := depth_ps ps
  rw [PyData.depth]
  omega
theorem wide_lps (ps : List (V × V)) : wide (.list (ps.map dP)) ≤ ps.length + 2 := by
  have := wide_ps ps
  rw [wide, List.length_map]
  omega
theorem dp_ends {K : PySem.W.Frag} {H : Hp} : ∀ {ps : List (V × V)} {us : List V}, Told EndAt H us ps → (∀ p ∈ ps, EndV p.1 ∧ EndV p.2) → DpAll K H us (ps.map dP)
  | [], [], _, _ => .nil
  | [], _ :: _, t, _ => by cases t.1
  | _ :: _, [], t, _ => by cases t.1
  | p :: r, u :: us, t, h => .cons (by
      obtain ⟨T, rfl, hT⟩ := t.2 0 u p rfl rfl
      obtain ⟨h1, h2⟩ := h p List.mem_cons_self
      exact .tup (SqT.of hT) (.cons (dp_end h1) (.cons (dp_end h2) .nil))) (dp_ends (ps := r) (us := us) ⟨Nat.succ.inj t.1, fun k u l a b => t.2 (k + 1) u l a b⟩ fun p m => h p (List.mem_cons_of_mem _ m))
/-- [f(x) for x in xs], each told by a relation -/
theorem map_told {α : Type} {K : PySem.W.Frag} {Rel : Hp → V → α → Prop} {σ : L2.St} {H : Hp} {Q : VK} {vs : List Nat} {g : TG} {te : TE} {a : Addr} {i : Nat} {xs : List V} {ls : List α} (st : Stays Rel) (hv : σ[i]? = some (some (.ref a))) (hA : H a = some (.lst xs)) (lx : xs.length = ls.length) (hl : ls.length ≤ 1000)
    (hs : ∀ (k : Nat) (x : V) (l : α) (H2 : Hp) (R : VK), xs[k]? = some x → ls[k]? = some l → Same H H2 → (∀ u H3, Same H2 H3 → Rel H3 u l → R u H3) → g x (wipe σ vs) H2 fun σ2 H3 => wipe σ2 vs = wipe σ vs ∧ te σ2 H3 R)
    (hd : ∀ D us H', H D = none → Same H H' → H' D = some (.lst us) → Told Rel H' us ls → Q (.ref D) H') : tLc (iList K (tVar i)) g tYes te vs σ H Q := by
  refine ⟨_, hv, a, rfl, ⟨_, SqL.of hA⟩, fun D nD => lc_it (walk_list (xs := xs)) (fun k H' => ∃ us : List V, us.length = k ∧ Same H H' ∧ H' D = some (.lst us) ∧ Told Rel H' us (ls.take k)) ⟨[], rfl, same_upd nD, upd_same, Told.nil⟩ (fun k H' _ ⟨us, _, e, _, _⟩ => SqL.of (e _ _ hA)) ?_ ?_⟩
  · rintro k v H' H2 hk ⟨us, hu, e, hD, t⟩ ⟨rfl, hy⟩
    obtain ⟨l, hll⟩ : ∃ l, ls[k]? = some l := ⟨_, List.getElem?_eq_getElem (by omega)⟩
    have h := hs k v l H2 (fun y H5 => ∃ acc, H5 D = some (.lst acc) ∧ acc.length < sizeLine ∧ ∃ us : List V, us.length = k + 1 ∧ Same H (upd H5 D (.lst (acc ++ [y]))) ∧ (upd H5 D (.lst (acc ++ [y]))) D = some (.lst us) ∧ Told Rel (upd H5 D (.lst (acc ++ [y]))) us (ls.take (k + 1))) hy hll e fun u H3 e3 fu => by
      have hD3 := e3 _ _ hD
      refine ⟨us, hD3, Evl.sz_lt (by omega), us ++ [u], by rw [List.length_append, hu]; rfl, Same.grow (Same.trans e e3) nD, upd_same, ?_⟩
      rw [take_succ hll]
      exact ((t.same st e3).snoc fu).up st hD3
    exact h
  · rintro H' ⟨us, hu, e, hD, t⟩
    rw [lx, List.take_of_length_le (Nat.le_refl _)] at t
    exact hd D us H' nD e hD t
theorem look_told (x lq le : Addr) : (bookF x lq le).lookup ("told" : Str) = none := by rfl
theorem look_drop (x lq le : Addr) : (bookF x lq le).lookup ("drop" : Str) = none := by rfl
theorem look_copy (x lq le : Addr) : (bookF x lq le).lookup ("copy" : Str) = none := by rfl
theorem told_all {α : Type} {v : V} {H : Hp} {us : List V} {ls : List α} (t : Told (fun (_ : Hp) (u : V) (_ : α) => u = v) H us ls) : us = List.replicate ls.length v := by
  refine List.ext_getElem? fun i => ?_
  rw [List.getElem?_replicate]
  by_cases hi : i < ls.length
  · have h1 : us[i]? = some (us[i]'(by rw [t.1]; exact hi)) := List.getElem?_eq_getElem _
    rw [if_pos hi, h1, t.2 i _ _ h1 (List.getElem?_eq_getElem hi)]
  · rw [if_neg hi, List.getElem?_eq_none (by rw [t.1]; omega)]
theorem dp_tf {K : PySem.W.Frag} {H : Hp} : ∀ n : Nat, DpAll K H (List.replicate n (V.bl true) ++ [V.bl false]) (List.replicate n (PyData.bool true) ++ [PyData.bool false])
  | 0 => .cons (.bl false) .nil
  | n + 1 => by
    rw [List.replicate_succ, List.replicate_succ]
    exact .cons (.bl true) (dp_tf n)
theorem depth_tf : ∀ n : Nat, PyData.depthAll (List.replicate n (PyData.bool true) ++ [PyData.bool false]) = 0
  | 0 => by simp [PyData.depthAll, PyData.depth]
  | n + 1 => by
    have := depth_tf n
    rw [List.replicate_succ, List.cons_append]
    simp [PyData.depthAll, PyData.depth, this]
theorem wide_tf : ∀ n : Nat, wideAll (List.replicate n (PyData.bool true) ++ [PyData.bool false]) = 0
  | 0 => by simp [wideAll, wide]
  | n + 1 => by
    have := wide_tf n
    rw [List.replicate_succ, List.cons_append]
    simp [wideAll, wide, this]
theorem depth_ltf (n : Nat) : (PyData.list (List.replicate n (PyData.bool true) ++ [PyData.bool false])).depth ≤ 3 := by
  have := depth_tf n
  rw [PyData.depth]
  omega
theorem wide_ltf (n : Nat) : wide (.list (List.replicate n (PyData.bool true) ++ [PyData.bool false])) ≤ n + 1 := by
  have := wide_tf n
  rw [wide, List.length_append, List.length_replicate, this]
  show max (n + 1) 0 ≤ n + 1
  omega
end Bk

/-! what is frozen: flat things, lists and tuples of such, an empty dict -/
namespace Bk
open PySem PySem.Spec PyProof.Rows L2 L2H LamX
theorem flat_ty {K : PySem.W.Frag} {H : Hp} {v : V} (h : flatV v = true) : ∃ k, TyX K H v (.type k) ∧ kitB k "dict" = some false ∧ kitB k "list" = some false ∧ kitB k "tuple" = some false := by
  cases v with
  | non => exact ⟨"NoneType", .base .non, by decide +kernel, by decide +kernel, by decide +kernel⟩
  | bl b => exact ⟨"bool", .base (.bl b), by decide +kernel, by decide +kernel, by decide +kernel⟩
  | int i => exact ⟨"int", .base (.int i), by decide +kernel, by decide +kernel, by decide +kernel⟩
  | str z => exact ⟨"str", .base (.str z), by decide +kernel, by decide +kernel, by decide +kernel⟩
  | _ => cases h
def flatD : V → PyData
  | .bl b => .bool b
  | .int i => .int i
  | .str z => .str z
  | _ => .none
theorem dp_flat {K : PySem.W.Frag} {H : Hp} {v : V} (h : flatV v = true) : Dp K H v (flatD v) := by
  cases v with
  | non => exact .non
  | bl b => exact .bl b
  | int i => exact .int i
  | str z => exact .str z
  | _ => cases h
theorem dp_flats {K : PySem.W.Frag} {H : Hp} : ∀ {ks : List V}, (∀ k ∈ ks, flatV k = true) → DpAll K H ks (ks.map flatD)
  | [], _ => .nil
  | k :: r, h => .cons (dp_flat (h k List.mem_cons_self)) (dp_flats fun x m => h x (List.mem_cons_of_mem _ m))
theorem depth_flat (v : V) : (flatD v).depth = 0 := by cases v <;> simp [flatD, PyData.depth]
theorem depth_flats : ∀ ks : List V, PyData.depthAll (ks.map flatD) = 0
  | [] => rfl
  | k :: r => by simp [PyData.depthAll, depth_flat, depth_flats r]
theorem wide_flat (v : V) : wide (flatD v) = 0 := by cases v <;> simp [flatD, wide]
theorem wide_flats : ∀ ks : List V, wideAll (ks.map flatD) = 0
  | [] => rfl
  | k :: r => by simp [wideAll, wide_flat, wide_flats r]
/-- _law_frozen, its lists and tuples of flat things -/
def spFrzN (K : PySem.W.Frag) : Nat → Sp
  | 0 => fun _ _ _ _ => False
  | n + 1 => fun vs H Q _ => ∃ y, vs = [y] ∧ ((∃ k, TyX K H y (.type k) ∧ kitB k "dict" = some false ∧ kitB k "list" = some false ∧ kitB k "tuple" = some false ∧ ∀ H', Same H H' → Q y H') ∨
      (∃ (a : Addr) (ks : List V), y = .ref a ∧ 1 ≤ n ∧ (∀ k ∈ ks, flatV k = true) ∧ (H a = some (.lst ks) ∨ H a = some (.tup ks)) ∧ ks.length ≤ 1000 ∧ ∀ p H', H p = none → Same H H' → H' p = some (.tup ks) → Q (.ref p) H') ∨
      (∃ a : Addr, y = .ref a ∧ H a = some (.dK []) ∧ ∀ p H', H p = none → Same H H' → H' p = some (.dT []) → Q (.ref p) H'))
/-- what can be frozen here -/
inductive Fz (H : Hp) : V → Prop where
  | flat {v : V} (h : flatV v = true) : Fz H v
  | seq {a : Addr} {ks : List V} (hf : ∀ k ∈ ks, flatV k = true) (h : H a = some (.lst ks) ∨ H a = some (.tup ks)) (hl : ks.length ≤ 1000) : Fz H (.ref a)
  | mt {a : Addr} (h : H a = some (.dK [])) : Fz H (.ref a)
theorem Fz.same {H H' : Hp} {v : V} (h : Fz H v) (e : Same H H') : Fz H' v := by
  cases h with
  | flat h => exact .flat h
  | seq hf h hl => exact .seq hf (h.imp (fun z => e _ _ z) fun z => e _ _ z) hl
  | mt h => exact .mt (e _ _ h)
theorem Fz.ask {H : Hp} {v : V} (h : Fz H v) : (flatV v = true ∨ Box H v) := by
  cases h with
  | flat h => exact .inl h
  | seq hf h hl => exact .inr (h.elim .lst .tup)
  | mt h => exact .inr (.dK h)
/-- f is what is frozen of v -/
def FzTo (H H' : Hp) (v f : V) : Prop := (flatV v = true ∧ f = v) ∨ (∃ (a p : Addr) (ks : List V), v = .ref a ∧ (∀ k ∈ ks, flatV k = true) ∧ (H a = some (.lst ks) ∨ H a = some (.tup ks)) ∧ ks.length ≤ 1000 ∧ f = .ref p ∧ H' p = some (.tup ks)) ∨
  ∃ a p : Addr, v = .ref a ∧ H a = some (.dK []) ∧ f = .ref p ∧ H' p = some (.dT [])
theorem FzTo.same {H H' H2 : Hp} {v f : V} (h : FzTo H H' v f) (e : Same H' H2) : FzTo H H2 v f := by
  rcases h with h | ⟨a, p, ks, h1, hf, h2, h3, h4, h5⟩ | ⟨a, p, h1, h2, h3, h4⟩
  · exact .inl h
  · exact .inr (.inl ⟨a, p, ks, h1, hf, h2, h3, h4, e _ _ h5⟩)
  · exact .inr (.inr ⟨a, p, h1, h2, h3, e _ _ h4⟩)
theorem FzTo.back {H H' H2 : Hp} {v f : V} (h : FzTo H' H2 v f) (z : Fz H v) (e : Same H H') : FzTo H H2 v f := by
  rcases h with h | ⟨a, p, ks, rfl, hf, h2, h3, h4, h5⟩ | ⟨a, p, rfl, h2, h3, h4⟩
  · exact .inl h
  · refine .inr (.inl ⟨a, p, ks, rfl, hf, ?_, h3, h4, h5⟩)
    cases z with
    | flat z => cases z
    | seq hg z hl =>
      rcases h2 with h2 | h2 <;> rcases z with z | z <;> have z2 := e _ _ z <;> rw [h2] at z2 <;> have z3 := Option.some.inj z2
      · injection z3 with q
        rw [q]
        exact .inl z
      · cases z3
      · cases z3
      · injection z3 with q
        rw [q]
        exact .inr z
    | mt z =>
      have z2 := e _ _ z
      rcases h2 with h2 | h2 <;> rw [h2] at z2 <;> cases z2
  · refine .inr (.inr ⟨a, p, rfl, ?_, h3, h4⟩)
    cases z with
    | flat z => cases z
    | seq hg z hl =>
      rcases z with z | z <;> have z2 := e _ _ z <;> rw [h2] at z2 <;> cases z2
    | mt z => exact z
/-- _law_frozen of such a thing -/
theorem frz_call {K : PySem.W.Frag} {n : Nat} {H : Hp} {v : V} {Q : VK} {E : XK} (h : Fz H v) (q : ∀ f H', Same H H' → FzTo H H' v f → Q f H') : spFrzN K (n + 2) [v] H Q E := by
  refine ⟨v, rfl, ?_⟩
  cases h with
  | flat h =>
    refine .inl ?_
    have r : ∀ H', Same H H' → Q v H' := fun H' e => q v H' e (.inl ⟨h, rfl⟩)
    cases v with
    | non => exact ⟨"NoneType", .base .non, by decide +kernel, by decide +kernel, by decide +kernel, r⟩
    | bl b => exact ⟨"bool", .base (.bl b), by decide +kernel, by decide +kernel, by decide +kernel, r⟩
    | int i => exact ⟨"int", .base (.int i), by decide +kernel, by decide +kernel, by decide +kernel, r⟩
    | str z => exact ⟨"str", .base (.str z), by decide +kernel, by decide +kernel, by decide +kernel, r⟩
    | _ => cases h
  | seq hf h hl => exact .inr (.inl ⟨_, _, rfl, by omega, hf, h, hl, fun p H' np e hp => q _ H' e (.inr (.inl ⟨_, p, _, rfl, hf, h, hl, rfl, hp⟩))⟩)
  | mt h => exact .inr (.inr ⟨_, rfl, h, fun p H' np e hp => q _ H' e (.inr (.inr ⟨_, p, rfl, h, rfl, hp⟩))⟩)
/-- a thing frozen twice: alike -/
theorem frz_both {K : PySem.W.Frag} {H G : Hp} {v x y : V} (a : FzTo H G v x) (b : FzTo H G v y) :
    (∃ d, Dp K G x d ∧ Dp K G y d ∧ d.depth + 1 ≤ 2 ∧ wide d ≤ 90000) ∨ ∃ c e : Addr, x = .ref c ∧ y = .ref e ∧ G c = some (.dT []) ∧ G e = some (.dT []) := by
  rcases a with ⟨fl, ex⟩ | ⟨p, p2, ks, ev, hf, h1, h2, ex, h4⟩ | ⟨p, p2, ev, h1, ex, h3⟩
  · subst ex
    rcases b with ⟨_, ey⟩ | ⟨_, _, _, ev, _⟩ | ⟨_, _, ev, _⟩
    · subst ey
      exact .inl ⟨flatD _, dp_flat fl, dp_flat fl, by rw [depth_flat]; decide, by rw [wide_flat]; decide⟩
    · subst ev
      cases fl
    · subst ev
      cases fl
  · subst ev ex
    rcases b with ⟨fl, _⟩ | ⟨q, q2, ks', e, hg, g1, g2, ey, g4⟩ | ⟨q, q2, e, g1, _⟩
    · cases fl
    · cases e
      subst ey
      have ek : ks = ks' := by
        rcases h1 with h1 | h1 <;> rcases g1 with g1 | g1 <;> rw [h1] at g1 <;> have z := Option.some.inj g1
        · injection z
        · cases z
        · cases z
        · injection z
      subst ek
      refine .inl ⟨.tuple (ks.map flatD), .tup (SqT.of h4) (dp_flats hf), .tup (SqT.of g4) (dp_flats hf), ?_, ?_⟩
      · have := depth_flats ks
        simp [PyData.depth, this]
      · have := wide_flats ks
        simp only [wide, this, List.length_map]
        omega
    · cases e
      rcases h1 with h1 | h1 <;> rw [h1] at g1 <;> cases g1
  · subst ev ex
    rcases b with ⟨fl, _⟩ | ⟨q, q2, ks', e, hg, g1, _⟩ | ⟨q, q2, e, g1, ey, g3⟩
    · cases fl
    · cases e
      rcases g1 with g1 | g1 <;> rw [h1] at g1 <;> cases g1
    · cases e
      exact .inr ⟨p2, q2, rfl, ey, h3, g3⟩
/-- what such an error gives: its class's name, and what is frozen of its field -/
def FzErr (H H0 : Hp) (Q : VK) (E : XK) (X fld : Str) (C : Addr) : Prop := ∀ v, Fz H v → (∀ f p H2, Same H H2 → H p = none → H2 p = some (.tup [.str X, f]) → FzTo H H2 v f → Q (.ref p) H2) → ∀ d H', ExcAt H0 d fld v H' → E (.ref C) (some d) H'
/-- what _law_s_tried makes of what it got -/
def TSt (CF CN CM CT CL CZ CU : Addr) : (XK → Hp → VK → Prop) → Hp → VK → Prop := fun tl H Q => ∀ (E : XK) (Q' : VK) (H0 : Hp), Same H H0 →
  ((∀ p H2, Same H H2 → H p = none → H2 p = some (.tup [.str (Str.ofString "UnlikeFolders")]) → Q (.ref p) H2) → ∀ H', Same H0 H' → E (.ref CU) none H') →
  (∀ v, (∀ p H2, Same H H2 → H p = none → H2 p = some (.tup [.str (Str.ofString "BadFolders"), v]) → Q (.ref p) H2) → ∀ d H', ExcAt H0 d "index" v H' → E (.ref CF) (some d) H') →
  FzErr H H0 Q E (Str.ofString "NoFolder") "name" CN → FzErr H H0 Q E (Str.ofString "BadName") "name" CM → FzErr H H0 Q E (Str.ofString "Taken") "name" CT → FzErr H H0 Q E (Str.ofString "BadLot") "lot" CL → FzErr H H0 Q E (Str.ofString "BadSize") "size" CZ →
  (∀ v H', (∀ p H2, Same H' H2 → H' p = none → H2 p = some (.tup [.str (Str.ofString "told"), v]) → Q (.ref p) H2) → Q' v H') →
  tl E H0 Q'
/-- in an except suite the caught exception is the one that is handled -/
theorem hot_suite {X : Cx} {a : Addr} {oe : Obj} {cls : Value} {d : Option Addr} {pn : List (Addr × Obj)} (hz : L2N.Zn cls d oe) (hf : ∃ vs, oe.data = .fields vs) : HotC (X.suite a ((a, oe) :: pn)) := by
  obtain ⟨vs, hv⟩ := hf
  exact ⟨(a, oe), ⟨rfl, vs, hv, hz.2.2 vs hv⟩, List.mem_cons_self⟩
end Bk

/-! what tells no ends, and what is frozen of it: flat things, an empty dict, lists and tuples of flat things and of lists and tuples of such -/
namespace Bk
open PySem PySem.Spec PyProof.Rows L2 L2H LamX
theorem FnH_or {P : Program} {w : World} {K : PySem.W.Frag} {mg : Str → Option Value} {base : Heap} {CX : CXT} {k : Nat} {f : Addr} {fd : FuncData} {ps : List Str} {s1 s2 : Sp} (h1 : FnH P w K mg base CX k f fd ps s1) (h2 : FnH P w K mg base CX k f fd ps s2) :
    FnH P w K mg base CX k f fd ps (fun vs H Q E => s1 vs H Q E ∨ s2 vs H Q E) :=
  ⟨fun vs H Q E q => q.elim (h1.len vs H Q E) (h2.len vs H Q E), fun A outer s H args us vs Q E p hr ho hp he hb hv hs => hs.elim (h1.run A outer s H args us vs Q E p hr ho hp he hb hv) (h2.run A outer s H args us vs Q E p hr ho hp he hb hv)⟩
/-- an element: flat, or a list or a tuple of flat ones -/
inductive El where
  | f (v : V)
  | s (ks : List V)
def ElOk : El → Prop
  | .f v => flatV v = true
  | .s ks => (∀ k ∈ ks, flatV k = true) ∧ ks.length ≤ 1000
def ElAt (H : Hp) (u : V) : El → Prop
  | .f v => u = v
  | .s ks => ∃ a, u = .ref a ∧ (H a = some (.lst ks) ∨ H a = some (.tup ks))
def FelAt (H : Hp) (u : V) : El → Prop
  | .f v => u = v
  | .s ks => ∃ p, u = .ref p ∧ H p = some (.tup ks)
def elD : El → PyData
  | .f v => flatD v
  | .s ks => .tuple (ks.map flatD)
theorem stays_fel : Stays FelAt := ⟨fun H1 H2 u l e h => by
    cases l with
    | f v => exact h
    | s ks => obtain ⟨p, h1, h2⟩ := h; exact ⟨p, h1, e _ _ h2⟩, fun H1 D as bs u l hD h => by
    cases l with
    | f v => exact h
    | s ks => obtain ⟨p, h1, h2⟩ := h; exact ⟨p, h1, by rw [upd_ne (ne_of h2 hD (fun z => nomatch z))]; exact h2⟩⟩
theorem ElAt.same {H H' : Hp} {u : V} {l : El} (h : ElAt H u l) (e : Same H H') : ElAt H' u l := by
  cases l with
  | f v => exact h
  | s ks => obtain ⟨a, h1, h2⟩ := h; exact ⟨a, h1, h2.imp (fun z => e _ _ z) fun z => e _ _ z⟩
theorem told_el {H H' : Hp} {us : List V} {es : List El} (t : Told ElAt H us es) (e : Same H H') : Told ElAt H' us es := ⟨t.1, fun k u l h1 h2 => (t.2 k u l h1 h2).same e⟩
theorem FelAt.dp {K : PySem.W.Frag} {H : Hp} {u : V} {l : El} (h : FelAt H u l) (ok : ElOk l) : Dp K H u (elD l) := by
  cases l with
  | f v =>
    cases h
    exact dp_flat ok
  | s ks =>
    obtain ⟨p, rfl, h⟩ := h
    exact .tup (SqT.of h) (dp_flats ok.1)
theorem fels_dp {K : PySem.W.Frag} {H : Hp} : ∀ {us : List V} {es : List El}, Told FelAt H us es → (∀ e ∈ es, ElOk e) → DpAll K H us (es.map elD)
  | [], [], _, _ => .nil
  | [], _ :: _, t, _ => by cases t.1
  | _ :: _, [], t, _ => by cases t.1
  | u :: r, l :: s, t, ok => .cons ((t.2 0 u l rfl rfl).dp (ok _ List.mem_cons_self)) (fels_dp (us := r) (es := s) ⟨Nat.succ.inj t.1, fun k u l h1 h2 => t.2 (k + 1) u l h1 h2⟩ fun e m => ok e (List.mem_cons_of_mem _ m))
theorem depth_el (e : El) : (elD e).depth ≤ 1 := by
  cases e with
  | f v =>
    show (flatD v).depth ≤ 1
    rw [depth_flat]
    omega
  | s ks =>
    show (PyData.tuple (ks.map flatD)).depth ≤ 1
    have := depth_flats ks
    simp [PyData.depth, this]
theorem depth_els : ∀ es : List El, PyData.depthAll (es.map elD) ≤ 1
  | [] => by simp [PyData.depthAll]
  | e :: r => by
    have h1 := depth_el e
    have h2 := depth_els r
    simp only [List.map_cons, PyData.depthAll]
    omega
theorem wide_el {e : El} (ok : ElOk e) : wide (elD e) ≤ 1000 := by
  cases e with
  | f v =>
    show wide (flatD v) ≤ 1000
    rw [wide_flat]
    omega
  | s ks =>
    show wide (.tuple (ks.map flatD)) ≤ 1000
    simp only [wide, wide_flats, List.length_map]
    have := ok.2
    omega
theorem wide_els : ∀ {es : List El}, (∀ e ∈ es, ElOk e) → wideAll (es.map elD) ≤ 1000
  | [], _ => by simp [wideAll]
  | e :: r, ok => by
    have h1 := wide_el (ok e List.mem_cons_self)
    have h2 := wide_els fun x m => ok x (List.mem_cons_of_mem _ m)
    simp only [List.map_cons, wideAll]
    omega
/-- whether an element is an end -/
def endE : El → Bool
  | .f .non => true
  | .f (.int _) => true
  | _ => false
/-- whether elements tell no ends -/
def badE : List El → Bool
  | [x, y] => !endE x || !endE y || match x, y with
    | .f .non, .f .non => true
    | .f (.int i), .f (.int j) => decide (j < i)
    | _, _ => false
  | _ => true
/-- v tells no ends; r is what is frozen of it, none an empty dict -/
inductive Bad (H : Hp) : V → Option PyData → Prop where
  | flat {v : V} (h : flatV v = true) (n : ∀ i, v ≠ .int i) : Bad H v (some (flatD v))
  | mt {a : Addr} (h : H a = some (.dK [])) : Bad H (.ref a) none
  | seq {a : Addr} {us : List V} {es : List El} (h : H a = some (.lst us) ∨ H a = some (.tup us)) (t : Told ElAt H us es) (ok : ∀ e ∈ es, ElOk e) (l : es.length ≤ 1000) (b : badE es = true) : Bad H (.ref a) (some (.tuple (es.map elD)))
theorem Bad.same {H H' : Hp} {v : V} {r : Option PyData} (h : Bad H v r) (e : Same H H') : Bad H' v r := by
  cases h with
  | flat h n => exact .flat h n
  | mt h => exact .mt (e _ _ h)
  | seq h t ok l b => exact .seq (h.imp (fun z => e _ _ z) fun z => e _ _ z) (told_el t e) ok l b
/-- f is frozen so -/
def FzR (K : PySem.W.Frag) (H : Hp) (f : V) : Option PyData → Prop
  | some d => Dp K H f d
  | none => ∃ p, f = .ref p ∧ H p = some (.dT [])
/-- frozen lists and tuples -/
def spFrzL (K : PySem.W.Frag) : Sp := fun vs H Q _ => ∃ (a : Addr) (us : List V) (es : List El), vs = [.ref a] ∧ (H a = some (.lst us) ∨ H a = some (.tup us)) ∧ Told ElAt H us es ∧ (∀ e ∈ es, ElOk e) ∧ es.length ≤ 1000 ∧
  ∀ p us' H', H p = none → Same H H' → H' p = some (.tup us') → Told FelAt H' us' es → Q (.ref p) H'
def spFrzM (K : PySem.W.Frag) : Sp := fun vs H Q E => spFrzN K 3 vs H Q E ∨ spFrzL K vs H Q E
theorem frzM_call {K : PySem.W.Frag} {H : Hp} {v : V} {r : Option PyData} {Q : VK} {E : XK} (h : Bad H v r) (q : ∀ f H', Same H H' → FzR K H' f r → Q f H') : spFrzM K [v] H Q E := by
  cases h with
  | flat h n => exact .inl (frz_call (n := 1) (.flat h) fun f H' e t => q f H' e (by
      rcases t with ⟨_, rfl⟩ | ⟨a, p, ks, rfl, _⟩ | ⟨a, p, rfl, _⟩
      · exact dp_flat h
      · cases h
      · cases h))
  | mt h => exact .inl (frz_call (n := 1) (.mt h) fun f H' e t => q f H' e (by
      rcases t with ⟨z, _⟩ | ⟨a, p, ks, e1, _, h2, _⟩ | ⟨a, p, e1, h2, rfl, h4⟩
      · cases z
      · cases e1
        rcases h2 with h2 | h2 <;> rw [h] at h2 <;> cases h2
      · exact ⟨p, rfl, h4⟩))
  | seq h t ok l b => exact .inr ⟨_, _, _, rfl, h, t, ok, l, fun p us' H' np e hp tt => q _ _ e (.tup (SqT.of hp) (fels_dp tt ok))⟩
/-- as map_told, over a list or a tuple -/
theorem map_toldS {α : Type} {K : PySem.W.Frag} {Rel : Hp → V → α → Prop} {σ : L2.St} {H : Hp} {Q : VK} {vs : List Nat} {g : TG} {te : TE} {a : Addr} {i : Nat} {xs : List V} {ls : List α} (st : Stays Rel) (hv : σ[i]? = some (some (.ref a))) (hA : SqL K H a xs ∨ SqT K H a xs) (lx : xs.length = ls.length) (hl : ls.length ≤ 1000)
    (hs : ∀ (k : Nat) (x : V) (l : α) (H2 : Hp) (R : VK), xs[k]? = some x → ls[k]? = some l → Same H H2 → (∀ u H3, Same H2 H3 → Rel H3 u l → R u H3) → g x (wipe σ vs) H2 fun σ2 H3 => wipe σ2 vs = wipe σ vs ∧ te σ2 H3 R)
    (hd : ∀ D us H', H D = none → Same H H' → H' D = some (.lst us) → Told Rel H' us ls → Q (.ref D) H') : tLc (iLT K (tVar i)) g tYes te vs σ H Q :=
  walk_S hv hA fun J G wk kG D nD => lc_it wk (fun k H' => ∃ us : List V, us.length = k ∧ Same H H' ∧ H' D = some (.lst us) ∧ Told Rel H' us (ls.take k)) ⟨[], rfl, same_upd nD, upd_same, Told.nil⟩ (fun k H' _ ⟨us, _, e, _, _⟩ => kG H' e) (by
    rintro k v H' H2 hk ⟨us, hu, e, hD, t⟩ ⟨rfl, hy⟩
    obtain ⟨l, hll⟩ : ∃ l, ls[k]? = some l := ⟨_, List.getElem?_eq_getElem (by omega)⟩
    have h := hs k v l H2 (fun y H5 => ∃ acc, H5 D = some (.lst acc) ∧ acc.length < sizeLine ∧ ∃ us : List V, us.length = k + 1 ∧ Same H (upd H5 D (.lst (acc ++ [y]))) ∧ (upd H5 D (.lst (acc ++ [y]))) D = some (.lst us) ∧ Told Rel (upd H5 D (.lst (acc ++ [y]))) us (ls.take (k + 1))) hy hll e fun u H3 e3 fu => by
      have hD3 := e3 _ _ hD
      refine ⟨us, hD3, Evl.sz_lt (by omega), us ++ [u], by rw [List.length_append, hu]; rfl, Same.grow (Same.trans e e3) nD, upd_same, ?_⟩
      rw [take_succ hll]
      exact ((t.same st e3).snoc fu).up st hD3
    exact h) (by
    rintro H' ⟨us, hu, e, hD, t⟩
    rw [lx, List.take_length] at t
    exact hd D us H' nD e hD t)
end Bk

/-! raising an own error class without an own __init__, its context told; * of an instance and an odd thing, from both sides; the contrary of an instance -/
namespace Bk
open PySem PySem.Spec PyProof.Rows L2
/-- an own error class that takes nothing -/
structure BareT (K : PySem.W.Frag) (mg : Str → Option Value) (x : Str) (C : Addr) : Prop where
  q : PySem.W.excIn K C [.type "ValueError", .type "Exception", .type "BaseException", .type "object"] "ValueError.__new__" = true
  g : mg x = some (.ref C)
  kp : PySem.W.keepIn K (.ref C) = true
  sub : PySem.W.subIn K (.ref C) (.type "BaseException") = some true
  ty : PySem.W.typeIn K (.ref C) = some (.type "type")
section
variable {X : Cx} {C : Addr} {x : Str} {p pos : Pos}
/-- C() -/
theorem pmk_bareN (T : BareT X.K X.mg x C) (hg : Gl X x) (hdb : (x == ("__debug__" : Str)) = false := by decide) : L2N.PMk X (.Call (.Name x p) [] [] pos) (fun _ H Q => Q (.ref C) none H) := by
  intro pins s σ H Q I h
  refine wpAny_Call_Name_kw (ld_glob I hg T.g ?_ hdb)
  refine PySem.W.callWith_K0 I.kIn T.kp ?_
  show wpAny _ _ (call (.ref C) []) _ _ _
  obtain ⟨bm, N, nm, qn, bs, hdct, sn, sub, ab, col, dd, k0, k1, k2, k3, k5, mN, hC, hN, hni, Y⟩ := exc_obj I.kIn T.q
  refine wpAny_call_exc_subT F.excBase_ValueError Y hC hN hni (fun h' a hm => ?_) (Nat.zero_le _)
  exact L2N.mk_of I hm (raises_own T.sub T.ty) h (I.hok.gone hm.new)
end
/-- whether the class T fills the place of * -/
def mulFill (K : PySem.W.Frag) (T : String) : Option Bool :=
  match PySem.W.findIn K (.type T) (PySem.dunder "mul"), PySem.W.findIn K (.type T) (dunderR "mul") with
  | some fo, some ro => some ((fo.isSome && !isSeqSlot fo) || (ro.isSome && !isSeqSlot ro))
  | _, _ => none
theorem fill_of {K : PySem.W.Frag} {T : String} {b : Bool} (h : mulFill K T = some b) : ∃ fo ro, PySem.W.findIn K (.type T) (PySem.dunder "mul") = some fo ∧ PySem.W.findIn K (.type T) (dunderR "mul") = some ro ∧ b = ((fo.isSome && !isSeqSlot fo) || (ro.isSome && !isSeqSlot ro)) := by
  unfold mulFill at h
  cases e1 : PySem.W.findIn K (.type T) (PySem.dunder "mul") with
  | none => rw [e1] at h; cases h
  | some fo =>
    cases e2 : PySem.W.findIn K (.type T) (dunderR "mul") with
    | none => rw [e1, e2] at h; cases h
    | some ro =>
      rw [e1, e2] at h
      exact ⟨fo, ro, rfl, rfl, (Option.some.inj h).symm⟩
/-- what the top says of a class of odd things beside C -/
structure OddT (K : PySem.W.Frag) (C : Addr) (T : String) (b : Bool) : Prop where
  f : mulFill K T = some b
  s : PySem.W.subIn K (.type T) (.ref C) = some false
section
variable {X : Cx} {CX : CXT} {n : Nat} {C f : Addr} {fd : FuncData} {ps : List Str} {sp : Sp} {E : XK}
/-- x * y, y an odd thing: it only raises -/
def rMulOdd (K : PySem.W.Frag) (C : Addr) (sp : Sp) (E : XK) : R2 := fun x y H Q => ∃ (a dx : Addr) (fs : List (Str × V)) (T : String) (b : Bool), x = .ref a ∧ TyX K H y (.type T) ∧ OddT K C T b ∧ H a = some (.ins C dx fs) ∧ sp [.ref a, y] H (fun _ _ => False) E
theorem op_mulOdd {fR : Addr} (F : FnOk X.prog X.w X.K X.mg X.base CX n f fd ps sp) (hb : Binds X.K fd ps []) (hx : Passes CX X E) (hr : Room n X.A) (m : MulT X.K C f fR) : OpR X (binaryOp .Mult) (rMulOdd X.K C sp E) := by
  intro pins s σ H x y v u Q I rx ry h
  obtain ⟨a, dx, fs, T, b, rfl, ty, od, ha, hs⟩ := h
  cases rx
  obtain ⟨hh, g0, d0, tt, os⟩ := s
  obtain ⟨mA, J, _⟩ := ins_get I.hok ha
  obtain ⟨od', J, _⟩ := J.look
  obtain ⟨P, kit, hP, hbl⟩ := kit_of I ry ty
  obtain ⟨fo, ro, h1, h2, eb⟩ := fill_of od.f
  obtain ⟨_, hF⟩ := I.fr
  have KX : X.K.In hh := I.kIn
  have run : wpAny (model X.prog X.w) X.A (call (.ref f) [.ref a, u]) (PySem.W.CmpBack (EP X pins σ Q)) X.xe ⟨hh, g0, d0, tt, os⟩ := wpAny_mono (own_run (vs := [.ref a, y]) (us := [.ref a, u]) F hb hx ⟨hr, rfl⟩ I (.cons rfl (.cons ry .nil)) hs) (fun v s' hv => by
    obtain ⟨z, H', I', rv, k⟩ := hv
    exact k.elim) fun _ _ z => z
  have one := PySem.W.ksp_try (Q := EP X pins σ Q) (b := u) KX J m.m.at_ m.m.fn run
  obtain ⟨cd, rest, hcd, hm⟩ := PySem.W.ksp_first m.sf
  have L1 : PySem.W.Looks (model X.prog X.w) hh (typeOf (.ref a)) (.ref C) := J.type
  have L2 : PySem.W.Looks (model X.prog X.w) hh (typeOf u) (.type T) := kit.1 _ _ KX hP
  have L3 : PySem.W.Looks (model X.prog X.w) hh (fillsNumberSlot (.ref C) "mul") true := PySem.W.fills_K KX hcd hm m.m.at_
  have L4 : PySem.W.Looks (model X.prog X.w) hh (fillsNumberSlot (.type T) "mul") b := by
    rw [eb]
    exact PySem.W.ksp_fillsT KX h1 h2
  have L5 : PySem.W.Looks (model X.prog X.w) hh (isSubtype (.type T) (.ref C)) false := PySem.W.looks_subIn KX od.s
  have L6 : PySem.W.Looks (model X.prog X.w) hh (numberSlotInPython (.ref C) "mul") true := PySem.W.ksp_inPy KX m.m.at_ m.r.at_ (.inr ⟨_, rfl⟩)
  have L7 : PySem.W.Looks (model X.prog X.w) hh (numberSlotInPython (.type T) "mul") false := PySem.W.Looks.of_pure rfl
  have L8 : PySem.W.Looks (model X.prog X.w) hh (typeLookup (.type T) (dunderR "mul")) ro := PySem.W.looks_findIn KX h2
  have hne : (Value.ref C == Value.type T) = false := Bool.eq_false_iff.mpr fun q => by cases beq_iff_eq.mp q
  unfold binaryOp
  refine wpAny_holding (wpAny_bind ?_)
  unfold binaryOp1
  refine wpAny_bind (L1.here (wpAny_bind (L2.here (wpAny_bind (L3.here ?_)))))
  simp only [hne, Bool.false_eq_true, if_false]
  refine wpAny_bind (L4.here ?_)
  cases b with
  | false =>
    ksp_lk
    refine wpAny_mono one (fun w s2 hw => ?_) (fun _ _ z => z)
    obtain ⟨z, rfl, hz⟩ := hw
    ksp_lk
    exact hz
  | true =>
    ksp_lk
    refine wpAny_mono one (fun w s2 hw => ?_) (fun _ _ z => z)
    obtain ⟨z, rfl, hz⟩ := hw
    ksp_lk
    exact hz
/-- y * x, y an odd thing: it only raises -/
def rOddMul (K : PySem.W.Frag) (C : Addr) (sp : Sp) (E : XK) : R2 := fun y x H Q => ∃ (a dx : Addr) (fs : List (Str × V)) (T : String) (b : Bool), x = .ref a ∧ TyX K H y (.type T) ∧ OddT K C T b ∧ (b = false ∨ (∃ v, y = .bl v) ∧ PySem.W.subIn K (.ref C) (.type T) = some false) ∧ H a = some (.ins C dx fs) ∧ sp [.ref a, y] H (fun _ _ => False) E
theorem bool_mul_other (i : Bool) (l : Addr) (o : Obj) (ho : ∀ v, o.data ≠ .prim v) : Meets (Builtin.«int.__mul__» ⟨[.bool i, .ref l], []⟩) (fun _ R s => s.heap.get? l = some o ∧ R (.ok (.ret Value.notImplemented)) s) :=
  .of_wp fun prog w A R s h => by
    obtain ⟨hp, g, d, tk, os⟩ := s
    obtain ⟨hl, h⟩ := h
    obtain ⟨c, dd, dat, sl⟩ := o
    cases dat <;> first | exact absurd rfl (ho _) | (wp_walk; exact ⟨_, rfl, h⟩)
theorem op_oddMul {fM : Addr} (F : FnOk X.prog X.w X.K X.mg X.base CX n f fd ps sp) (hb : Binds X.K fd ps []) (hx : Passes CX X E) (hr : Room n X.A) (m : MulT X.K C fM f) : OpR X (binaryOp .Mult) (rOddMul X.K C sp E) := by
  intro pins s σ H y x u v Q I ry rx h
  obtain ⟨a, dx, fs, T, b, rfl, ty, od, hbt, ha, hs⟩ := h
  cases rx
  obtain ⟨hh, g0, d0, tt, os⟩ := s
  obtain ⟨mA, J, _⟩ := ins_get I.hok ha
  have hobj := J.obj
  obtain ⟨od', J, _⟩ := J.look
  obtain ⟨P, kit, hP, hbl⟩ := kit_of I ry ty
  obtain ⟨fo, ro, h1, h2, eb⟩ := fill_of od.f
  have KX : X.K.In hh := I.kIn
  have run : wpAny (model X.prog X.w) X.A (call (.ref f) [.ref a, u]) (PySem.W.CmpBack (EP X pins σ Q)) X.xe ⟨hh, g0, d0, tt, os⟩ := wpAny_mono (own_run (vs := [.ref a, y]) (us := [.ref a, u]) F hb hx ⟨hr, rfl⟩ I (.cons rfl (.cons ry .nil)) hs) (fun v s' hv => by
    obtain ⟨z, H', I', rv, k⟩ := hv
    exact k.elim) fun _ _ z => z
  have one := PySem.W.ksp_try (Q := EP X pins σ Q) (b := u) KX J m.r.at_ m.r.fn run
  obtain ⟨cd, rest, hcd, hm⟩ := PySem.W.ksp_first m.sf
  have L1 : PySem.W.Looks (model X.prog X.w) hh (typeOf (.ref a)) (.ref C) := J.type
  have L2 : PySem.W.Looks (model X.prog X.w) hh (typeOf u) (.type T) := kit.ty _ _ KX hP
  have L3 : PySem.W.Looks (model X.prog X.w) hh (fillsNumberSlot (.ref C) "mul") true := PySem.W.fills_K KX hcd hm m.m.at_
  have L4 : PySem.W.Looks (model X.prog X.w) hh (fillsNumberSlot (.type T) "mul") b := by
    rw [eb]
    exact PySem.W.ksp_fillsT KX h1 h2
  have L7 : PySem.W.Looks (model X.prog X.w) hh (numberSlotInPython (.type T) "mul") false := PySem.W.Looks.of_pure rfl
  have hne : (Value.type T == Value.ref C) = false := Bool.eq_false_iff.mpr fun q => by cases beq_iff_eq.mp q
  unfold binaryOp
  refine wpAny_holding (wpAny_bind ?_)
  unfold binaryOp1
  refine wpAny_bind (L2.here (wpAny_bind (L1.here (wpAny_bind (L4.here ?_)))))
  simp only [hne, Bool.false_eq_true, if_false]
  refine wpAny_bind (L3.here ?_)
  rcases hbt with rfl | ⟨⟨w0, rfl⟩, hsub⟩
  · ksp_lk
    refine wpAny_mono one (fun w s2 hw => ?_) (fun _ _ z => z)
    obtain ⟨z, rfl, hz⟩ := hw
    ksp_lk
    exact hz
  · obtain rfl : u = .bool w0 := ry
    have L5 : PySem.W.Looks (model X.prog X.w) hh (isSubtype (.ref C) (.type T)) false := PySem.W.looks_subIn KX hsub
    have nomul : ∀ {Q' : Option Value → Shared → Prop}, Q' none ⟨hh, g0, d0, tt, os⟩ → wpAny (model X.prog X.w) X.A (tryMethod (.bool w0) (PySem.dunder "mul") (.ref a)) Q' X.xe ⟨hh, g0, d0, tt, os⟩ := fun {Q'} q => by
      unfold tryMethod
      have hi : Shared.TypeIs ⟨hh, g0, d0, tt, os⟩ (.bool w0) "bool" := rfl
      refine wpAny_bind (wpAny_callSpecial?_slot hi PySem.F.slot_bool_mul (call_meets PySem.F.slot_bool_mul hi PySem.F.entry_int_mul (PySem.F.args_int_mul_2 _ _) (bool_mul_other w0 a _ (fun v z => by cases z)) ⟨hobj, ?_⟩))
      exact wpAny_pure q
    cases b with
    | false =>
      ksp_lk
      refine wpAny_mono one (fun w s2 hw => ?_) (fun _ _ z => z)
      obtain ⟨z, rfl, hz⟩ := hw
      ksp_lk
      exact hz
    | true =>
      ksp_lk
      refine nomul ?_
      ksp_lk
      refine wpAny_mono one (fun w s2 hw => ?_) (fun _ _ z => z)
      obtain ⟨z, rfl, hz⟩ := hw
      ksp_lk
      exact hz
theorem kMulOdd {fR : Addr} (K : PySem.W.Frag) (F : FnOk X.prog X.w X.K X.mg X.base CX n f fd ps sp) (hb : Binds X.K fd ps []) (hx : Passes CX X E) (hr : Room n X.A) (m : MulT X.K C f fR) (e : X.K = K := by rfl) : OpR X (binaryOp .Mult) (rMulOdd K C sp E) := e ▸ op_mulOdd F hb hx hr m
theorem kOddMul {fM : Addr} (K : PySem.W.Frag) (F : FnOk X.prog X.w X.K X.mg X.base CX n f fd ps sp) (hb : Binds X.K fd ps []) (hx : Passes CX X E) (hr : Room n X.A) (m : MulT X.K C fM f) (e : X.K = K := by rfl) : OpR X (binaryOp .Mult) (rOddMul K C sp E) := e ▸ op_oddMul F hb hx hr m
/-- - x -/
def rNegOwn (C : Addr) (sp : Sp) (E : XK) : V → Hp → VK → Prop := fun x H Q => ∃ (a dx : Addr) (fs : List (Str × V)), x = .ref a ∧ H a = some (.ins C dx fs) ∧ sp [.ref a] H (fun v H' => ∃ p : Addr, v = .ref p ∧ Q (.ref p) H') E
theorem un_negOwn (F : FnOk X.prog X.w X.K X.mg X.base CX n f fd ps sp) (hb : Binds X.K fd ps []) (hx : Passes CX X E) (hr : Room n X.A) (m : Own X.K C "__neg__" f) : UnR X (unaryOp .USub) (rNegOwn C sp E) := by
  intro pins s σ H x v Q I rx h
  obtain ⟨a, dx, fs, rfl, ha, hs⟩ := h
  cases rx
  obtain ⟨mA, J, _⟩ := ins_get I.hok ha
  obtain ⟨od, J, _⟩ := J.look
  obtain ⟨_, hF⟩ := I.fr
  refine PySem.W.ksp_neg hF I.ok.mod.kin J m.at_ m.fn (wpAny_mono (own_run (vs := [.ref a]) F hb hx ⟨hr, rfl⟩ I (.cons rfl .nil) hs) (fun v s' hv => ?_) fun _ _ z => z)
  obtain ⟨z, H', I', rv, p, rfl, q⟩ := hv
  cases rv
  exact ⟨.ref p, H', I', rfl, q⟩
end
end Bk

namespace Bk
open PySem PySem.Spec PyProof.Rows L2
theorem seq_ty {K : PySem.W.Frag} {H : Hp} {a : Addr} {us : List V} (hS : H a = some (.lst us) ∨ H a = some (.tup us)) : ∃ T, TyX K H (.ref a) (.type T) ∧ kitB T "dict" = some false ∧ kitB T "int" = some false ∧ kitB T "bool" = some false ∧ ∃ b1 b2, kitB T "list" = some b1 ∧ kitB T "tuple" = some b2 ∧ (b1 || b2) = true := by
  rcases hS with h | h
  · exact ⟨"list", .base (.lst h), by decide +kernel, by decide +kernel, by decide +kernel, true, false, by decide +kernel, by decide +kernel, rfl⟩
  · exact ⟨"tuple", .base (.tup h), by decide +kernel, by decide +kernel, by decide +kernel, false, true, by decide +kernel, by decide +kernel, rfl⟩
theorem endE_of {e : El} (h : endE e = true) : e = .f .non ∨ ∃ i, e = .f (.int i) := by
  cases e with
  | f v =>
    cases v with
    | non => exact .inl rfl
    | int i => exact .inr ⟨i, rfl⟩
    | _ => cases h
  | s ks => cases h
/-- flat things that are no whole numbers -/
theorem bad_ty {K : PySem.W.Frag} {H : Hp} {v : V} (h : flatV v = true) (n : ∀ i, v ≠ .int i) : ∃ k b1 b2, TyX K H v (.type k) ∧ kitB k "int" = some b1 ∧ kitB k "bool" = some b2 ∧ (b1 && !b2) = false ∧ kitB k "list" = some false ∧ kitB k "tuple" = some false := by
  cases v with
  | non => exact ⟨"NoneType", false, false, .base .non, by decide +kernel, by decide +kernel, rfl, by decide +kernel, by decide +kernel⟩
  | bl b => exact ⟨"bool", true, true, .base (.bl b), by decide +kernel, by decide +kernel, rfl, by decide +kernel, by decide +kernel⟩
  | int i => exact absurd rfl (n i)
  | str z => exact ⟨"str", false, false, .base (.str z), by decide +kernel, by decide +kernel, rfl, by decide +kernel, by decide +kernel⟩
  | _ => cases h
def spIsEndA : Sp := fun vs H Q _ => ∃ (u : V) (e : El), vs = [u] ∧ ElAt H u e ∧ ElOk e ∧ Q (.bl (endE e)) H
/-- ends_of(told), which tells none -/
def spEndsNo : Sp := fun vs H Q _ => ∃ (v : V) (r : Option PyData), vs = [v] ∧ Bad H v r ∧ ∀ H', Same H H' → Q .non H'
/-- book[question] that is not told -/
def spBGetNo (C CQ CB CN : Addr) : Sp := fun vs H Q E => ∃ (b x q x' : Addr) (zs zs' : List Str) (ch ch' : Bool) (wts : List (List Str → Int)) (ps : List (V × V)) (wt : List Str → Int), vs = [.ref b, .ref q] ∧ BookAt C CQ CB H b x zs ch wts ps ∧ QuestAt C CQ H q x' zs' ch' wt ∧ (∀ z ∈ zs, isNameS z = true) ∧ (∀ z ∈ zs', isNameS z = true) ∧ placeQ zs ch wts zs' ch' wt = none ∧
  ∀ H0, Same H H0 → ∀ d H', ExcAt H0 d "question" (.ref q) H' → E (.ref CN) (some d) H'
/-- book[question] = ends, about other folders -/
def spBSetU (C CQ CB CU : Addr) : Sp := fun vs H Q E => ∃ (b x q x' : Addr) (v : V) (zs zs' : List Str) (ch ch' : Bool) (wts : List (List Str → Int)) (ps : List (V × V)) (wt : List Str → Int), vs = [.ref b, .ref q, v] ∧ BookAt C CQ CB H b x zs ch wts ps ∧ QuestAt C CQ H q x' zs' ch' wt ∧ (∀ z ∈ zs, isNameS z = true) ∧ (∀ z ∈ zs', isNameS z = true) ∧ (decide (zs = zs') && decide (ch = ch')) = false ∧
  ∀ H', Same H H' → E (.ref CU) none H'
/-- book[question] = what tells no ends -/
def spBSetN (C CQ CB CT : Addr) : Sp := fun vs H Q E => ∃ (b x q x' : Addr) (v : V) (r : Option PyData) (zs : List Str) (ch : Bool) (wts : List (List Str → Int)) (ps : List (V × V)) (wt : List Str → Int), vs = [.ref b, .ref q, v] ∧ BookAt C CQ CB H b x zs ch wts ps ∧ QuestAt C CQ H q x' zs ch wt ∧ (∀ z ∈ zs, isNameS z = true) ∧ Bad H v r ∧
  ∀ H0, Same H H0 → ∀ d H', ExcAt H0 d "ends" v H' → E (.ref CT) (some d) H'
section
variable {P : Program} {w : World} {K : PySem.W.Frag} {mg : Str → Option Value} {base : Heap}
theorem ok_is_endA (B : Bi mg) {f f1 : Addr} {fd fd1 : FuncData} (c_is_integer : Cal P w K mg base CX0 1 "is_integer" f1 fd1 ["thing"] (spIsInt K))
    (F : Fun K "is_end" "is_end" (topS 61) f fd) : FnOk P w K mg base CX0 2 f fd ["thing"] spIsEndA := by
  refine F.ok scIsEnd (fun vs H Q E h => ?_) (fun cdv A outer s H vs Q E hr h => ?_)
  · obtain ⟨u, e, rfl, _⟩ := h
    rfl
  · obtain ⟨u, e, rfl, hv, ok, q⟩ := h
    have nd := scIsEnd.nd
    have hr_is_integer : Room 1 _ := hr.mono (by decide)
    refine ⟨_, (pss_one (ps_ret (pe_or (pe_cmpR op_isN (pv 0) pe_non (nomark _)) (pe_one (pe_call c_is_integer.ok hr_is_integer (by rfl) c_is_integer.g c_is_integer.kp c_is_integer.b .nil pass0 (pa_cons (pv 0) pa_nil)))))), ?_⟩
    have ki : kitB "int" "int" = some true := by decide +kernel
    have kb : kitB "int" "bool" = some false := by decide +kernel
    cases e with
    | f v =>
      cases hv
      by_cases hn : u = .non
      · subst hn
        refine ⟨_, rfl, rfl, _, rfl, ?_⟩
        exact iteT q
      · refine ⟨_, rfl, rfl, _, rfl, ?_⟩
        refine if_no (decide_eq_false hn) ?_
        by_cases hi : ∃ i, u = .int i
        · obtain ⟨i, rfl⟩ := hi
          exact ⟨_, rfl, .int i, .type "int", true, false, rfl, .base (.int _), kit_ty ki, kit_ty kb, q⟩
        · obtain ⟨k, b1, b2, ty, h1, h2, h3, _⟩ := bad_ty (K := K) (H := H) ok fun i z => hi ⟨i, z⟩
          refine ⟨_, rfl, u, .type k, b1, b2, rfl, ty, kit_ty h1, kit_ty h2, ?_⟩
          rw [h3]
          have : endE (.f u) = false := by
            cases u with
            | non => exact absurd rfl hn
            | int i => exact absurd ⟨i, rfl⟩ hi
            | _ => rfl
          rw [this] at q
          exact q
    | s ks =>
      obtain ⟨a, rfl, hS⟩ := hv
      obtain ⟨T, ty, _, n1, n2, _⟩ := seq_ty (K := K) hS
      refine ⟨_, rfl, rfl, _, rfl, ?_⟩
      refine iteF ?_
      exact ⟨_, rfl, .ref a, .type T, false, false, rfl, ty, kit_ty n1, kit_ty n2, q⟩
theorem ok_ends_no (B : Bi mg) {f f1 f2 f3 : Addr} {fd fd1 fd2 fd3 : FuncData} (c_is_integer : Cal P w K mg base CX0 1 "is_integer" f1 fd1 ["thing"] (spIsInt K)) (c_is_list : Cal P w K mg base CX0 1 "is_list" f2 fd2 ["thing"] (spIsList K)) (c_is_end : Cal P w K mg base CX0 2 "is_end" f3 fd3 ["thing"] spIsEndA)
    (F : Fun K "ends_of" "ends_of" (topS 62) f fd) : FnOk P w K mg base CX0 3 f fd ["told"] spEndsNo := by
  refine F.ok scEndsOf (fun vs H Q E h => ?_) (fun cdv A outer s H vs Q E hr h => ?_)
  · obtain ⟨v, r, rfl, _⟩ := h
    rfl
  · obtain ⟨v, r, rfl, hv, qq⟩ := h
    have nd := scEndsOf.nd
    have hr_is_end : Room 2 _ := hr.mono (by decide)
    have hr_is_integer : Room 1 _ := hr.mono (by decide)
    have hr_is_list := hr_is_integer
    refine ⟨_, (Evl.pss_cut (ps_if (pt_val (pe_call c_is_integer.ok hr_is_integer (by rfl) c_is_integer.g c_is_integer.kp c_is_integer.b .nil pass0 (pa_cons (pv 0) pa_nil))) (pss_one (ps_ret (pe_tup (pa_cons (pv 0) (pa_cons (pv 0) pa_nil))))) pss_nil)
      (Evl.pss_cut (ps_if (PW.pt (pw_or (pt_not (pt_val (pe_call c_is_list.ok hr_is_list (by rfl) c_is_list.g c_is_list.kp c_is_list.b .nil pass0 (pa_cons (pv 0) pa_nil)))) (pw_or1 (pt_cmpR op_ne (pe_callB (kLen K) (by rfl) B.len PySem.boot_len (pa_cons (pv 0) pa_nil)) pe_int (nomark _))))) (pss_one (ps_ret pe_non)) pss_nil)
      (pss_cons (ps_asg (pv 0) (kTgA K 2 rfl (pgs_cons (pg_name (i := 1) nd rfl (Or.inl rfl)) (pgs_cons (pg_name (i := 2) nd rfl (Or.inl rfl)) pgs_nil))))
      (pss_cons (ps_if (PW.pt (pw_or (pt_not (pt_val (pe_call c_is_end.ok hr_is_end (by rfl) c_is_end.g c_is_end.kp c_is_end.b .nil pass0 (pa_cons (pv 1) pa_nil)))) (pw_or (pt_not (pt_val (pe_call c_is_end.ok hr_is_end (by rfl) c_is_end.g c_is_end.kp c_is_end.b .nil pass0 (pa_cons (pv 2) pa_nil)))) (pw_or1 (PW.pt (pw_and (pt_cmpR op_isN (pv 1) pe_non (nomark _)) (pw_and1 (pt_cmpR op_isN (pv 2) pe_non (nomark _))))))))) (pss_one (ps_ret pe_non)) pss_nil)
      (pss_cons (ps_if (PW.pt (pw_and (pt_cmpR op_notN (pv 1) pe_non (nomark _)) (pw_and (pt_cmpR op_notN (pv 2) pe_non (nomark _)) (pw_and1 (pt_cmpR op_gt (pv 1) (pv 2) (nomark _)))))) (pss_one (ps_ret pe_non)) pss_nil)
      (pss_one (ps_ret (pe_tup (pa_cons (pv 1) (pa_cons (pv 2) pa_nil)))))))))), ?_⟩
    obtain ⟨k, b1, b2, b3, ty, h1, h2, h3, h4, alt⟩ : ∃ k b1 b2 b3, TyX K H v (.type k) ∧ kitB k "int" = some b1 ∧ kitB k "bool" = some b2 ∧ (b1 && !b2) = false ∧ PySem.W.kitAny K (.type k) [.type "list", .type "tuple"] = some b3 ∧ (b3 = false ∨ b3 = true ∧ ∃ (a : Addr) (us : List V) (es : List El), v = .ref a ∧ (H a = some (.lst us) ∨ H a = some (.tup us)) ∧ Told ElAt H us es ∧ (∀ e ∈ es, ElOk e) ∧ es.length ≤ 1000 ∧ badE es = true) := by
      cases hv with
      | flat h n =>
        obtain ⟨k, b1, b2, g1, g2, g3, g4, g5, g6⟩ := bad_ty (K := K) (H := H) h n
        exact ⟨k, b1, b2, false, g1, g2, g3, g4, kit2 g5 g6, .inl rfl⟩
      | mt h => exact ⟨"dict", false, false, false, .base (.dK h), by decide +kernel, by decide +kernel, rfl, kit2 (show kitB "dict" "list" = some false by decide +kernel) (show kitB "dict" "tuple" = some false by decide +kernel), .inl rfl⟩
      | seq h t ok l b =>
        obtain ⟨T, ty, _, n1, n2, b1, b2, e1, e2, eb⟩ := seq_ty (K := K) h
        exact ⟨T, false, false, true, ty, n1, n2, rfl, by rw [kit2 e1 e2, eb], .inr ⟨rfl, _, _, _, rfl, h, t, ok, l, b⟩⟩
    refine ⟨fun σ' H' => σ' = [some v, none, none] ∧ H = H', ?_, ?_⟩
    · refine ⟨_, rfl, v, .type k, b1, b2, rfl, ty, kit_ty h1, kit_ty h2, _, rfl, ?_⟩
      refine if_no h3 ?_
      exact ⟨rfl, rfl⟩
    rintro σ' H' ⟨rfl, rfl⟩
    refine ⟨fun σ' H' => ∃ (a : Addr) (u1 u2 : V) (e1 e2 : El), v = .ref a ∧ σ' = [some (.ref a), none, none] ∧ Same H H' ∧ (SqL K H' a [u1, u2] ∨ SqT K H' a [u1, u2]) ∧ ElAt H' u1 e1 ∧ ElAt H' u2 e2 ∧ ElOk e1 ∧ ElOk e2 ∧ badE [e1, e2] = true, ?_, ?_⟩
    · refine ⟨_, rfl, v, b3, rfl, ⟨_, ty, h4⟩, fun H1 e1 => ⟨_, rfl, ?_⟩⟩
      rcases alt with rfl | ⟨rfl, a, us, es, rfl, h, t, ok, l, b⟩
      · exact iteT (qq H1 e1)
      · refine iteF ?_
        have h1 : SqL K H1 a us ∨ SqT K H1 a us := h.imp (fun z => SqL.of (e1 _ _ z)) fun z => SqT.of (e1 _ _ z)
        refine ⟨_, rfl, _, us.length, rfl, h1.elim (fun z => .inl ⟨_, z, rfl⟩) (fun z => .inr ⟨_, z, rfl⟩), rfl, _, rfl, ?_⟩
        have lu := t.1
        by_cases l2 : us.length = 2
        · refine if_no (by rw [l2]; decide) ?_
          match us, es, l2, lu, t, ok, b, h1 with
          | [u1, u2], [x1, x2], _, _, t, ok, b, h1 => exact ⟨a, u1, u2, x1, x2, rfl, rfl, e1, h1, (t.2 0 _ _ rfl rfl).same e1, (t.2 1 _ _ rfl rfl).same e1, ok _ (by simp), ok _ (by simp), b⟩
        · refine if_so (by
            have z : ¬ ((us.length : Int) = 2) := by omega
            simp [z]) ?_
          exact qq H1 e1
    rintro σ' H1 ⟨a, u1, u2, x1, x2, rfl, rfl, e1, hS, a1, a2, o1, o2, bad⟩
    have go : tSeq
        (tIfS
          (tOr (tNot (tB (tCall spIsEndA [] E0 (tCons (tVar 1) tNil))))
            (tOr (tNot (tB (tCall spIsEndA [] E0 (tCons (tVar 2) tNil))))
              (tAnd (tTest (tOp (fun x y H Q => y = V.non ∧ Q (V.bl (decide (x = V.non))) H) (tVar 1) (tC V.non)))
                (tTest (tOp (fun x y H Q => y = V.non ∧ Q (V.bl (decide (x = V.non))) H) (tVar 2) (tC V.non))))))
          (tRet (tC V.non)) tNext)
        (tSeq
          (tIfS
            (tAnd (tTest (tOp (fun x y H Q => y = V.non ∧ Q (V.bl !decide (x = V.non)) H) (tVar 1) (tC V.non)))
              (tAnd (tTest (tOp (fun x y H Q => y = V.non ∧ Q (V.bl !decide (x = V.non)) H) (tVar 2) (tC V.non)))
                (tTest (tOp (rI0 fun i j => V.bl (decide (j < i))) (tVar 1) (tVar 2)))))
            (tRet (tC V.non)) tNext)
          (tRet (tTup (tCons (tVar 1) (tCons (tVar 2) tNil))))) { nx := fun x H' => Q V.non H', rt := Q } [some (.ref a), some u1, some u2] H1 := by
      refine ⟨_, rfl, u1, x1, rfl, a1, o1, _, rfl, ?_⟩
      cases w1 : endE x1 with
      | false => exact if_so rfl (qq H1 e1)
      | true =>
        refine if_no rfl ?_
        refine ⟨_, rfl, u2, x2, rfl, a2, o2, _, rfl, ?_⟩
        cases w2 : endE x2 with
        | false => exact if_so rfl (qq H1 e1)
        | true =>
          refine if_no rfl ?_
          rcases endE_of w1 with rfl | ⟨i, rfl⟩ <;> rcases endE_of w2 with rfl | ⟨j, rfl⟩ <;> cases a1 <;> cases a2
          · refine ⟨_, rfl, rfl, _, rfl, ?_⟩
            refine iteT ?_
            refine ⟨_, rfl, rfl, _, rfl, ?_⟩
            exact iteT (qq H1 e1)
          · cases bad
          · cases bad
          · refine ⟨_, rfl, rfl, _, rfl, ?_⟩
            refine iteF ?_
            refine iteF ?_
            refine ⟨_, rfl, rfl, _, rfl, ?_⟩
            refine iteT ?_
            refine ⟨_, rfl, rfl, _, rfl, ?_⟩
            refine iteT ?_
            refine ⟨_, rfl, _, rfl, i, j, rfl, rfl, _, rfl, ?_⟩
            refine if_so ?_ (qq H1 e1)
            simpa [badE, endE] using bad
    refine ⟨_, rfl, ?_⟩
    exact hS.elim (fun z => .inr ⟨a, _, rfl, z, rfl, _, _, rfl, _, _, rfl, rfl, go⟩) (fun z => .inl ⟨a, _, rfl, z, rfl, _, _, rfl, _, _, rfl, rfl, go⟩)
end
end Bk

namespace Bk
open PySem PySem.Spec PyProof.Rows L2
/-- found[lot] = number -/
def putE (es : List (List Str × Int)) (l : List Str) (n : Int) : List (List Str × Int) := if (es.any fun e => decide (e.1 = l)) = true then es.map (fun e => if e.1 = l then (e.1, n) else e) else es ++ [(l, n)]
theorem putE_tab (es : List (List Str × Int)) (l : List Str) (n : Int) : putK (tabV (entT es)) (l.map Sum.inr) (.int n) = tabV (entT (putE es l n)) := by
  have a : ((tabV (entT es)).any fun kv => decide (kv.1 = (l.map Sum.inr : List Key))) = es.any fun e => decide (e.1 = l) := by
    unfold tabV entT
    rw [List.any_map, List.any_map]
    congr 1
    funext e
    exact decide_eq_decide.mpr ⟨fun h => inr_inj h, fun h => by
      show (e.1.map Sum.inr : List Key) = l.map Sum.inr
      rw [h]⟩
  unfold putK putE
  rw [a]
  split
  · unfold tabV entT
    rw [List.map_map, List.map_map, List.map_map, List.map_map]
    refine List.map_congr_left fun e _ => ?_
    by_cases c : e.1 = l
    · have c2 : (e.1.map Sum.inr : List Key) = l.map Sum.inr := by rw [c]
      simp [c, c2]
    · have c2 : ¬ (e.1.map Sum.inr : List Key) = l.map Sum.inr := fun h => c (inr_inj h)
      simp [c, c2]
  · unfold tabV entT
    rw [List.map_append, List.map_append]
    rfl
theorem putE_keys {es : List (List Str × Int)} {l : List Str} {n : Int} : (putE es l n).map (·.1) = if l ∈ es.map (·.1) then es.map (·.1) else es.map (·.1) ++ [l] := by
  have a : (es.any fun e => decide (e.1 = l)) = decide (l ∈ es.map (·.1)) := by
    rw [Bool.eq_iff_iff, List.any_eq_true, decide_eq_true_iff, List.mem_map]
    exact ⟨fun ⟨e, m, h⟩ => ⟨e, m, of_decide_eq_true h⟩, fun ⟨e, m, h⟩ => ⟨e, m, decide_eq_true h⟩⟩
  unfold putE
  rw [a]
  by_cases c : l ∈ es.map (·.1)
  · rw [decide_eq_true c, if_pos rfl, if_pos c, List.map_map]
    refine List.map_congr_left fun e _ => ?_
    show (if e.1 = l then (e.1, n) else e).1 = e.1
    split <;> rfl
  · rw [decide_eq_false c, if_neg Bool.false_ne_true, if_neg c, List.map_append]
    rfl
def figM (p : Str) : Str := (Txt.partition p (Str.ofString ":")).1
def namesM (p : Str) : Str := (Txt.partition p (Str.ofString ":")).2.2
def weightsM (ch : Bool) (zs : List Str) : List (List Str × Int) → List Str → Option (List (List Str × Int))
  | es, [] => some es
  | es, p :: r => match lotT ch zs (namesM p), intM (figM p) with
    | some l, some n => weightsM ch zs (putE es l n) r
    | _, _ => none
def gPart (p : Str) : Bool := decide (p.length ≤ 1000) && (gLot (namesM p) && gInt (figM p))
structure EsW (ch : Bool) (zs : List Str) (es : List (List Str × Int)) : Prop where
  mem : ∀ e ∈ es, e.1 ∈ lotsFor ch zs
  nd : (es.map (·.1)).Nodup
theorem EsW.put {ch : Bool} {zs l : List Str} {es : List (List Str × Int)} {n : Int} (h : EsW ch zs es) (m : l ∈ lotsFor ch zs) : EsW ch zs (putE es l n) := by
  have k := putE_keys (es := es) (l := l) (n := n)
  refine ⟨fun e me => ?_, ?_⟩
  · have : e.1 ∈ (putE es l n).map (·.1) := List.mem_map_of_mem me
    rw [k] at this
    by_cases c : l ∈ es.map (·.1)
    · rw [if_pos c] at this
      obtain ⟨e', m', h'⟩ := List.mem_map.mp this
      rw [← h']
      exact h.mem e' m'
    · rw [if_neg c] at this
      rcases List.mem_append.mp this with this | this
      · obtain ⟨e', m', h'⟩ := List.mem_map.mp this
        rw [← h']
        exact h.mem e' m'
      · rw [List.mem_singleton.mp this]
        exact m
  · rw [k]
    by_cases c : l ∈ es.map (·.1)
    · rw [if_pos c]
      exact h.nd
    · rw [if_neg c]
      exact List.nodup_append.mpr ⟨h.nd, by simp, fun a ma b mb e => by
        rw [List.mem_singleton.mp mb] at e
        exact c (e ▸ ma)⟩
theorem putE_len (es : List (List Str × Int)) (l : List Str) (n : Int) : (putE es l n).length ≤ es.length + 1 := by
  have k := congrArg List.length (putE_keys (es := es) (l := l) (n := n))
  rw [List.length_map] at k
  rw [k]
  split
  · rw [List.length_map]
    omega
  · rw [List.length_append, List.length_map]
    exact Nat.le_refl _
/-- weights_told(folders, parts) -/
def spWeiT (C : Addr) : Sp := fun vs H Q _ => ∃ (x ls : Addr) (parts zs : List Str) (ch : Bool), vs = [.ref x, .ref ls] ∧ FoldersAt C H x zs ch ∧ zs.Nodup ∧ zs.length ≤ 12 ∧ H ls = some (.lst (parts.map V.str)) ∧ parts.length ≤ 1000 ∧ (∀ p ∈ parts, gPart p = true) ∧
  (weightsM ch zs [] parts = none → ∀ H', Same H H' → Q .non H') ∧ ∀ es, weightsM ch zs [] parts = some es → ∀ D H', H D = none → Same H H' → H' D = some (.dT (tabV (entT es))) → EsW ch zs es → es.length ≤ parts.length → Q (.ref D) H'
section
variable {P : Program} {w : World} {K : PySem.W.Frag} {mg : Str → Option Value} {base : Heap}
theorem scWeiT : FnScope ["folders", "parts", "found", "part", "figures", "colon", "names", "lot", "number"] ["folders", "parts"] (defScope (topS 81)) := ⟨rfl, rfl, rfl, by decide +kernel, rfl, by decide +kernel, by decide +kernel⟩
theorem ok_weiT (B : Bi mg) {C f f1 f2 : Addr} {fd fd1 fd2 : FuncData} (c_lot_of : Cal P w K mg base CX0 2 "lot_of" f1 fd1 ["folders", "thing"] (spLotOf K C)) (c_integer_told : Cal P w K mg base CX0 1 "integer_told" f2 fd2 ["text"] spIntT)
    (F : Fun K "weights_told" "weights_told" (topS 81) f fd) : FnOk P w K mg base CX0 3 f fd ["folders", "parts"] (spWeiT C) := by
  refine F.ok scWeiT (fun vs H Q E h => ?_) (fun cdv A outer s H vs Q E hr h => ?_)
  · obtain ⟨x, ls, parts, zs, ch, rfl, _⟩ := h
    rfl
  · obtain ⟨x, ls, parts, zs, ch, rfl, FA, nz, z12, hls, lp, gp, qn, qs⟩ := h
    have nd := scWeiT.nd
    have hu := hu_of hr
    have sl : sizeLine = 16777216 := sizeLine_eq
    have hr_lot_of := hr
    have hr_integer_told : Room 1 _ := hr.mono (by decide)
    refine ⟨_, (Evl.pss_cut (ps_set (i := 2) nd rfl (Or.inl rfl) pe_dnewT)
      (pss_cons (ps_for PassesOwn.never rfl (kPiL K (pv 1)) (pg_name (i := 3) nd rfl (Or.inl rfl)) (pss_cons (ps_asg (pe_partition (pv 3) pe_str) (kTg K 3 rfl (pgs_cons (pg_name (i := 4) nd rfl (Or.inl rfl)) (pgs_cons (pg_name (i := 5) nd rfl (Or.inl rfl)) (pgs_cons (pg_name (i := 6) nd rfl (Or.inl rfl)) pgs_nil)))))
      (pss_cons (ps_set (i := 7) nd rfl (Or.inl rfl) (pe_call c_lot_of.ok hr_lot_of (by rfl) c_lot_of.g c_lot_of.kp c_lot_of.b .nil pass0 (pa_cons (pv 0) (pa_cons (pe_split (pv 6) pe_str) pa_nil))))
      (pss_cons (ps_set (i := 8) nd rfl (Or.inl rfl) (pe_call c_integer_told.ok hr_integer_told (by rfl) c_integer_told.g c_integer_told.kp c_integer_told.b .nil pass0 (pa_cons (pv 4) pa_nil)))
      (pss_cons (ps_if (PW.pt (pw_or (pt_cmpR op_isN (pv 7) pe_non (nomark _)) (pw_or1 (pt_cmpR op_isN (pv 8) pe_non (nomark _))))) (pss_one (ps_ret pe_non)) pss_nil)
      (pss_one (ps_dput hu (pv 2) (pv 7) (pv 8) rfl)))))))
      (pss_one (ps_ret (pv 2))))), ?_⟩
    refine ⟨fun σ H1 => ∃ D, σ = [some (.ref x), some (.ref ls), some (.ref D), none, none, none, none, none, none] ∧ H D = none ∧ Same H H1 ∧ H1 D = some (.dT []), ?_, ?_⟩
    · exact fun D nD => ⟨D, rfl, nD, same_upd nD, upd_same⟩
    rintro σ H1 ⟨D, rfl, nD, e1, hD1⟩
    have lln : (parts.map V.str).length = parts.length := List.length_map ..
    refine st_seq ?_
    refine ⟨_, rfl, ls, rfl, ⟨_, SqL.of (e1 _ _ hls)⟩, ?_⟩
    refine for_it walk_list (fun i σ H2 => ∃ (es : List (List Str × Int)) (v3 v4 v5 v6 v7 v8 : Option V), σ = [some (.ref x), some (.ref ls), some (.ref D), v3, v4, v5, v6, v7, v8] ∧ Same H H2 ∧ H2 D = some (.dT (tabV (entT es))) ∧ EsW ch zs es ∧ es.length ≤ i ∧ weightsM ch zs es (parts.drop i) = weightsM ch zs [] parts) ?_ (fun i σ H2 _ ⟨_, _, _, _, _, _, _, _, e, _⟩ => SqL.of (e _ _ hls)) ?_ ?_
    · exact ⟨[], _, _, _, _, _, _, rfl, e1, hD1, ⟨fun e m => (nomatch m), by simp⟩, Nat.zero_le _, rfl⟩
    · rintro i y σ H2' H2 hi ⟨es, v3, v4, v5, v6, v7, v8, rfl, e02, hD2, hE, le, hm⟩ ⟨rfl, hy⟩
      have hi' : i < parts.length := by rw [← lln]; exact hi
      have hy : (parts.map V.str)[i]? = some y := hy
      rw [List.getElem?_map, List.getElem?_eq_getElem hi'] at hy
      have hy := (Option.some.inj hy).symm
      subst hy
      have hml : parts[i] ∈ parts := List.getElem_mem hi'
      rw [List.drop_eq_getElem_cons hi'] at hm
      generalize parts[i] = p at hm hml ⊢
      have g := gp p hml
      unfold gPart gLot at g
      obtain ⟨g1, g⟩ := Bool.and_eq_true_iff.mp g
      obtain ⟨g2, g4⟩ := Bool.and_eq_true_iff.mp g
      obtain ⟨g2, g3⟩ := Bool.and_eq_true_iff.mp g2
      have g1 := of_decide_eq_true g1
      have g2 := of_decide_eq_true g2
      have g3 := of_decide_eq_true g3
      refine ⟨_, rfl, ⟨p, rfl⟩, p, _, rfl, rfl, by decide +kernel, by omega, fun P1 nP1 => ?_⟩
      have e3 := same_upd (o := HO.tup [.str (Txt.partition p (Str.ofString ":")).1, .str (Txt.partition p (Str.ofString ":")).2.1, .str (Txt.partition p (Str.ofString ":")).2.2]) nP1
      refine ⟨P1, _, rfl, SqT.of upd_same, rfl, _, _, rfl, _, _, rfl, _, _, rfl, rfl, ?_⟩
      generalize upd H2 P1 (.tup [.str (Txt.partition p (Str.ofString ":")).1, .str (Txt.partition p (Str.ofString ":")).2.1, .str (Txt.partition p (Str.ofString ":")).2.2]) = H3 at e3 ⊢
      refine ⟨_, rfl, _, rfl, ⟨_, rfl⟩, namesM p, _, rfl, rfl, by decide +kernel, by omega, fun P2 nP2 => ?_⟩
      have e4 := same_upd (o := HO.lst ((Txt.split (namesM p) (Str.ofString "+")).map V.str)) nP2
      have hP2 : upd H3 P2 (.lst ((Txt.split (namesM p) (Str.ofString "+")).map V.str)) P2 = some (.lst ((Txt.split (namesM p) (Str.ofString "+")).map V.str)) := upd_same
      generalize upd H3 P2 (.lst ((Txt.split (namesM p) (Str.ofString "+")).map V.str)) = H4 at e4 hP2 ⊢
      have e24 := Same.trans e3 e4
      have e04 := Same.trans e02 e24
      have hm : (match lotT ch zs (namesM p), intM (figM p) with
        | some l, some n => weightsM ch zs (putE es l n) (parts.drop (i + 1))
        | _, _ => none) = weightsM ch zs [] parts := hm
      refine ⟨x, .ref P2, zs, ch, rfl, FA.same e04, nz, z12, .inr ⟨P2, _, rfl, .inl (SqL.of hP2), sqs_of (.inl (SqL.of hP2)), ?_, by rw [List.length_map]; omega, fun H5 e5 hl => ?_, fun t l H5 nt e5 hl ht => ?_⟩⟩
      · rw [List.all_eq_true]
        intro v m
        obtain ⟨z, _, rfl⟩ := List.mem_map.mp m
        rfl
      · have hl : lotT ch zs (namesM p) = none := hl
        rw [hl] at hm
        refine ⟨_, rfl, figM p, rfl, g4, fun H6 e6 => ?_⟩
        refine ⟨_, rfl, rfl, _, rfl, ?_⟩
        refine iteT ?_
        exact qn hm.symm H6 (Same.trans e04 (Same.trans e5 e6))
      · have hl : lotT ch zs (namesM p) = some l := hl
        rw [hl] at hm
        have ml := lotT_mem hl
        refine ⟨_, rfl, figM p, rfl, g4, fun H6 e6 => ?_⟩
        have e06 := Same.trans e04 (Same.trans e5 e6)
        refine ⟨_, rfl, rfl, _, rfl, ?_⟩
        refine iteF ?_
        cases hn : intM (figM p) with
        | none =>
          rw [hn] at hm
          refine ⟨_, rfl, rfl, _, rfl, ?_⟩
          refine iteT ?_
          exact qn hm.symm H6 e06
        | some n =>
          rw [hn] at hm
          refine ⟨_, rfl, rfl, _, rfl, ?_⟩
          refine iteF ?_
          have hD6 := (Same.trans e24 (Same.trans e5 e6)) _ _ hD2
          have ht6 : H6 t = some (.tup ((l.map Sum.inr : List Key).map kV)) := by
            rw [e6 _ _ ht, List.map_map]
            rfl
          refine ⟨_, rfl, _, rfl, _, rfl, D, _, rfl, DPut.t (k := l.map Sum.inr) hD6 ht6 ?_, ?_⟩
          · rw [tab_len]
            unfold entT
            rw [List.length_map]
            exact Evl.sz_lt (by omega)
          have pe : putK (tabV (entT es)) (l.map Sum.inr) (optI (some n)) = tabV (entT (putE es l n)) := putE_tab es l n
          rw [pe]
          exact ⟨putE es l n, _, _, _, _, _, _, rfl, Same.grow e06 nD, upd_same, hE.put ml, Nat.le_trans (putE_len es l n) (by omega), hm⟩
    · rintro σ H2 ⟨es, v3, v4, v5, v6, v7, v8, rfl, e02, hD2, hE, le, hm⟩
      rw [lln, List.drop_length] at hm
      exact ⟨_, rfl, qs es hm.symm D H2 nD e02 hD2 hE (by rw [← lln]; exact le)⟩
end
end Bk

namespace Bk
open PySem PySem.Spec PyProof.Rows L2
theorem tab_at {ls : List (List Str)} {f : List Str → Int} {i : Nat} {k : List Key} {v : V} (h : (tabV (tabL ls f))[i]? = some (k, v)) : ∃ l, ls[i]? = some l ∧ k = l.map Sum.inr ∧ v = .int (f l) := by
  unfold tabV tabL at h
  rw [List.map_map, List.getElem?_map] at h
  obtain ⟨l, h1, h2⟩ := Option.map_eq_some_iff.mp h
  obtain ⟨rfl, rfl⟩ := Prod.mk.inj h2
  exact ⟨l, h1, rfl, rfl⟩
theorem tab_length (ls : List (List Str)) (f : List Str → Int) : (tabV (tabL ls f)).length = ls.length := by
  rw [tab_len]
  exact List.length_map ..
section
variable {P : Program} {w : World} {K : PySem.W.Frag} {mg : Str → Option Value} {base : Heap}
theorem scMul : FnScope ["self", "other", "lot"] ["self", "other"] (defScope (inClass (topS 45) 6)) := ⟨rfl, rfl, rfl, by decide +kernel, rfl, by decide +kernel, by decide +kernel⟩
theorem ok_mul (B : Bi mg) {C CQ fQ f f1 : Addr} {fdQ fd fd1 : FuncData} (TQ : QueT K mg CQ fQ) (GQ : FnOk P w K mg base CX0 4 fQ fdQ ["self", "folders", "weights"] (spQuest K C CQ)) (bQ : Binds K fdQ ["self", "folders", "weights"] [])
    (c_is_integer : Cal P w K mg base CX0 1 "is_integer" f1 fd1 ["thing"] (spIsInt K)) (F : Fun K "__mul__" "Question.__mul__" (inClass (topS 45) 6) f fd) : FnOk P w K mg base CX0 6 f fd ["self", "other"] (spTimes C CQ) := by
  refine F.ok scMul (fun vs H Q E h => ?_) (fun cdv A outer s H vs Q E hr h => ?_)
  · obtain ⟨q, x, zs, ch, wt, k, rfl, _⟩ := h
    rfl
  · obtain ⟨q, x, zs, ch, wt, k, rfl, QA, nz, lz, hm, qq⟩ := h
    have nd := scMul.nd
    have hu := hu_of hr
    have hr_is_integer : Room 1 _ := hr.mono (by decide)
    refine ⟨_, (pss_cons (ps_if (pt_not (pt_val (pe_call c_is_integer.ok hr_is_integer (by rfl) c_is_integer.g c_is_integer.kp c_is_integer.b .nil pass0 (pa_cons (pv 1) pa_nil)))) (pss_one ps_no) pss_nil)
      (pss_one (ps_ret (pe_make TQ.make GQ hr (by rfl) TQ.g bQ .nil pass0 (pa_cons (pe_fld (pv 0) rfl) (pa_cons (pe_lock (pe_dcT (own := [("lot", 2)]) hr.units0 rfl nd (pi_keys (pe_fld (pv 0) rfl)) (blkOk_by (N := ["self", "other", "lot"]) (sc := defScope (inClass (topS 45) 6)) (by decide +kernel)) (fun _ _ _ _ _ => (pg_name (i := 2) nd rfl (Or.inl rfl))) (fun _ _ _ _ _ => (pv 2)) (fun _ _ _ _ _ => (pe_op op_mul (pe_dget hu (kFld K (pv 0)) (pv 2) (fun _ _ => rfl)) (pv 1))))) pa_nil)))))), ?_⟩
    obtain ⟨dq, td, hq, FA, htd⟩ := id QA
    refine ⟨_, rfl, .int k, .type "int", true, false, rfl, .base (.int k), kit_ty (show kitB "int" "int" = some true by decide +kernel), kit_ty (show kitB "int" "bool" = some false by decide +kernel), true, rfl, ?_⟩
    refine iteF ?_
    refine ⟨_, rfl, q, CQ, dq, _, _, rfl, hq, TQ.cl, TQ.nF, look_folders _ _, td, _, htd, trivial, fun od => ?_⟩
    have hp3 : upd H td (.frz od (.dT (tabV (tableOf ch zs wt)))) td = some (.frz od (.dT (tabV (tableOf ch zs wt)))) := upd_same
    have hqt : q ≠ td := ne_of hq htd (fun z => nomatch z)
    refine ⟨_, rfl, q, CQ, dq, _, _, rfl, by rw [upd_ne hqt]; exact hq, TQ.cl, TQ.nT, look_table _ _, td, od, rfl, .inr ⟨_, hp3, fun D2 nD2 => ?_⟩⟩
    have hDt : D2 ≠ td := (ne_of_none hp3 nD2).symm
    have nD : H D2 = none := by rw [upd_ne hDt] at nD2; exact nD2
    have lots3 : (lotsFor ch zs).length ≤ 2000 := lots_few lz
    generalize els : (lotsFor ch zs).filter (fun l => decide (wt l ≠ 0)) = ls at *
    have etab : tableOf ch zs wt = tabL ls wt := by
      unfold tableOf
      rw [els]
    have sub : ∀ l ∈ ls, l ∈ lotsFor ch zs := fun l m => by
      rw [← els] at m
      exact (List.mem_filter.mp m).1
    have nl : ls.Nodup := by
      rw [← els]
      exact (lots_nodup nz).filter _
    have len : ls.length ≤ 2000 := by
      have := pigeon ls (lotsFor ch zs) nl sub
      omega
    rw [etab] at hp3 nD2 htd ⊢
    refine dcT_itw walk_keysT (fun i H' => Same (upd H td (.frz od (.dT (tabV (tabL ls wt))))) H' ∧ H' D2 = some (.dT (tabV (tabL (ls.take i) fun l => wt l * k)))) ⟨same_upd nD2, upd_same⟩ (fun i H' _ ⟨e3, _⟩ => e3 _ _ hp3) ?_ ?_
    · rintro i y H3 H4 hi ⟨e3, hd3⟩ ⟨rfl, kk, v, qa, hk, rfl, hqa⟩
      obtain ⟨l, hl, rfl, rfl⟩ := tab_at hk
      have ml := List.mem_of_getElem? hl
      have hq4 : H4 q = some (.ins CQ dq (questF x td)) := e3 _ _ (by rw [upd_ne hqt]; exact hq)
      have g : DGet H4 td (.ref qa) (some (.int (wt l))) := by
        have g : valV (tabV (tabL ls wt)) (l.map Sum.inr) = some (.int (wt l)) := by
          rw [valV_tab, getT_tab, if_pos ml]
          rfl
        exact .inr ⟨_, _, qa, .inr ⟨od, e3 _ _ hp3⟩, rfl, hqa, g.symm⟩
      refine ⟨rfl, _, rfl, _, rfl, q, CQ, dq, _, _, rfl, hq4, TQ.cl, TQ.nT, look_table _ _, _, rfl, td, .int (wt l), rfl, g, _, rfl, wt l, k, rfl, rfl, hm l (sub l ml), _, l.map Sum.inr, qa, rfl, hqa, hd3, ?_, Same.grow e3 nD2, ?_⟩
      · rw [tab_length, List.length_take]
        exact Evl.sz_lt (by omega)
      · have := tab_put (f := fun l => wt l * k) (take_fresh nl hl)
        rw [upd_same, this, take_succ hl]
    · rintro H3 ⟨e3, hd3⟩
      rw [tab_length, List.take_length] at hd3
      have e1 := unlock htd e3
      have hD : upd H3 td (.dT (tabV (tabL ls wt))) D2 = some (.dT (tabV (tabL ls fun l => wt l * k))) := by rw [upd_ne hDt]; exact hd3
      refine ⟨e3 _ _ hp3, make_quest (FA.same e1) nz lz hD (far_new FA nD e1) sub nl (fun l m => ?_) fun y H' ny e QY => qq y H' (e1.free ny) (Same.trans e1 e) QY⟩
      by_cases z : l ∈ ls
      · rw [if_pos z]
      · rw [if_neg z]
        have : wt l = 0 := by
          rw [← els] at z
          by_cases h : wt l = 0
          · exact h
          · exact absurd (List.mem_filter.mpr ⟨m, decide_eq_true h⟩) z
        rw [this, Int.zero_mul]
theorem scRmul : FnScope ["self", "other"] ["self", "other"] (defScope (inClass (topS 45) 7)) := ⟨rfl, rfl, rfl, by decide +kernel, rfl, by decide +kernel, by decide +kernel⟩
theorem ok_rmul (B : Bi mg) {C CQ fM f : Addr} {fdM fd : FuncData} (GM : FnOk P w K mg base CX0 6 fM fdM ["self", "other"] (spTimes C CQ)) (bM : Binds K fdM ["self", "other"] []) (M : MulT K CQ fM f)
    (F : Fun K "__rmul__" "Question.__rmul__" (inClass (topS 45) 7) f fd) : FnOk P w K mg base CX0 7 f fd ["self", "other"] (spTimes C CQ) := by
  refine F.ok scRmul (fun vs H Q E h => ?_) (fun cdv A outer s H vs Q E hr h => ?_)
  · obtain ⟨q, x, zs, ch, wt, k, rfl, _⟩ := h
    rfl
  · obtain ⟨q, x, zs, ch, wt, k, rfl, QA, nz, lz, hm, qq⟩ := h
    have nd := scRmul.nd
    have hu := hu_of hr
    refine ⟨_, (pss_one (ps_ret (pe_op (op_mulInt GM bM pass0 hr M) (pv 0) (pv 1)))), ?_⟩
    obtain ⟨dq, td, hq, FA, htd⟩ := id QA
    exact ⟨_, rfl, _, rfl, q, dq, _, k, rfl, rfl, hq, q, x, zs, ch, wt, k, rfl, QA, nz, lz, hm, fun y H' ny e QY => ⟨y, rfl, qq y H' ny e QY⟩⟩
end
end Bk

/-! the pairs of a dict that nothing else holds, walked: it is locked for good -/
namespace Bk
open PySem PySem.Spec PyProof.Rows L2
def iItemsL (td : TE) : TI := fun σ H R => td σ H fun x H1 => ∃ d kvs, x = .ref d ∧ H1 d = some (.dT kvs) ∧ ∀ o, R (Itit d o kvs) (upd H1 d (.frz o (.dT kvs)))
section
variable {X : Cx} {tg e : Expr} {td : TE} {apos cpos : Pos}
theorem pi_itemsL {elts : List Expr} {kk : Nat} {tpos : Pos} (he : PE X e td) (hbase : attributeBase e "items" X.env (eval e X.env) = eval e X.env := by rfl) (hline : (apos.endLine == cpos.line) = true := by rfl) :
    PI X (.Tuple elts kk tpos) (.Call (.Attribute e "items" apos) [] [] cpos) (iItemsL td) := by
  refine ⟨fun pins s σ H R I h => ?_⟩
  refine wpAny_Call_method (T := "dict") (id := "dict.items") hbase rfl hline F.plainAttrs_dict F.slot_dict_items F.type_dict_items (thn (he.run pins s σ H _ I h) fun u s1 ⟨x, H0, I0, rx, d, kvs, ex, hd0, q⟩ => ?_)
  subst ex
  obtain rfl : u = Value.ref d := rx
  obtain ⟨o, I1⟩ := I0.lock hd0 trivial
  have q := q o
  have hd : upd H0 d (.frz o (.dT kvs)) d = some (.frz o (.dT kvs)) := upd_same
  generalize upd H0 d (.frz o (.dT kvs)) = H1 at I1 q hd
  obtain ⟨hs, hgd, hx, es, ep, hdt, hsz, ent⟩ := frzTV I1 hd
  have hm : DT.Raw s1.heap d es ep := ⟨o, hgd, hx, hdt⟩
  refine ⟨hm.typeIs, fun a e => by cases e; exact ⟨o, hgd, hx.2.1⟩, ?_⟩
  have I2 : Inv X pins σ H1 { s1 with heap := s1.heap.push { cls := .type "dict_items", data := .fields #[.ref d] } } := I1.kept (t' := s1.toks) fun b ob q => Heap.get?_push_of_some _ q
  have fin : wpAny (model X.prog X.w) X.A (pyIter (.ref s1.heap.objs.size)) (PIE X pins σ (.Tuple elts kk tpos) R) X.xe { s1 with heap := s1.heap.push { cls := .type "dict_items", data := .fields #[.ref d] } } := by
    refine DT.iterI (d := d) ⟨_, Heap.get?_push_size _ rfl, rfl, rfl⟩ (hm.push _) (pi_one (tk := s1.toks) I2 _ (turn_itemsT _ hdt) ⟨.none, .none, ?_⟩ q)
    rw [← hsz]
    exact Heap.get?_push_size _ rfl
  show wpAny _ _ (callWith cpos (.builtin "dict.items") [.ref d] [] []) _ X.xe s1
  exact method_meetsIn F.slot_dict_items F.entry_dict_items rfl (PySem.evalArgs_none ⟨rfl, hm.typeIs, F.args_dict_items_1 _, _, DT.meetsItems (es := es) (ep := ep) hs, ⟨hm, fin⟩⟩)
end
end Bk

namespace Bk
open PySem PySem.Spec PyProof.Rows L2
def rJoin (K : PySem.W.Frag) : V → List V → Hp → VK → Prop := fun x xs H Q => ∃ a p, ∃ ys : List Str, x = .str a ∧ xs = [.ref p] ∧ (SqL K H p (ys.map V.str) ∨ SqT K H p (ys.map V.str)) ∧ (ys.map (·.length)).sum + ys.length * a.length ≤ 16777216 ∧ Q (.str (Txt.join a ys)) H
theorem kJoin {X : Cx} (K : PySem.W.Frag) {o e : Expr} {to te : TE} {apos pos : Pos} (ho : PE X o to) (he : PE X e te) (hs : starEach [e] X.env = [(false, eval e X.env)] := by rfl) (hbase : attributeBase o "join" X.env (eval o X.env) = eval o X.env := by rfl) (hline : (apos.endLine == pos.line) = true := by rfl) (h : X.K = K := by rfl) :
    PE X (.Call (.Attribute o "join" apos) [e] [] pos) (tM1 (rJoin K) to te) := by
  subst h
  exact pe_join ho he hs hbase hline
def endS : V → Str
  | .int i => intS i
  | _ => Str.ofString "-"
def wS (wt : List Str → Int) (l : List Str) : Str := Str.empty ++ intS (wt l) ++ Str.ofString ":" ++ Txt.join (Str.ofString "+") l
def partsS (ch : Bool) (zs : List Str) (wt : List Str → Int) (lo hi : V) : List Str := [endS lo, endS hi] ++ ((lotsFor ch zs).filter fun l => decide (wt l ≠ 0)).map (wS wt)
/-- the line of a telling -/
def telS (ch : Bool) (zs : List Str) (wt : List Str → Int) (lo hi : V) : Str := Txt.join (Str.ofString " ") (partsS ch zs wt lo hi)
def gEnd : V → Bool
  | .int i => decide (i.natAbs.log2 < 1920)
  | .non => true
  | _ => false
def gWt (wt : List Str → Int) (l : List Str) : Bool := decide ((wt l).natAbs.log2 < 1920) && (decide ((intS (wt l)).length ≤ 100000) && (decide ((l.map (·.length)).sum + l.length * (Str.ofString "+").length ≤ 100000) && decide ((Txt.join (Str.ofString "+") l).length ≤ 100000)))
def gTel (ch : Bool) (zs : List Str) (wt : List Str → Int) (lo hi : V) : Bool := gEnd lo && (gEnd hi && ((lotsFor ch zs).all (gWt wt) && (decide ((lotsFor ch zs).length ≤ 10000) && decide (((partsS ch zs wt lo hi).map (·.length)).sum + (partsS ch zs wt lo hi).length * (Str.ofString " ").length ≤ 16777216))))
/-- line_of_telling(question, low, high) -/
def spLineT (C CQ : Addr) : Sp := fun vs H Q _ => ∃ (q x : Addr) (lo hi : V) (zs : List Str) (ch : Bool) (wt : List Str → Int), vs = [.ref q, lo, hi] ∧ QuestAt C CQ H q x zs ch wt ∧ zs.Nodup ∧ zs.length ≤ mostFor ch ∧ gTel ch zs wt lo hi = true ∧ ∀ H', Same H H' → Q (.str (telS ch zs wt lo hi)) H'
def spCounts (C CQ : Addr) : Sp := fun vs H Q _ => ∃ (q x : Addr) (zs : List Str) (ch : Bool) (wt : List Str → Int), vs = [.ref q] ∧ QuestAt C CQ H q x zs ch wt ∧ zs.Nodup ∧ zs.length ≤ mostFor ch ∧
  ∀ D H', H D = none → Same H H' → H' D = some (.dT (tabV (tableOf ch zs wt))) → Q (.ref D) H'
section
variable {P : Program} {w : World} {K : PySem.W.Frag} {mg : Str → Option Value} {base : Heap}
theorem scCounts : FnScope ["self", "lot"] ["self"] (defScope (inClass (topS 45) 9)) := ⟨rfl, rfl, rfl, by decide +kernel, rfl, by decide +kernel, by decide +kernel⟩
theorem ok_counts (B : Bi mg) {C CQ fQ f : Addr} {fd : FuncData} (TQ : QueT K mg CQ fQ) (F : Fun K "counts" "Question.counts" (inClass (topS 45) 9) f fd) : FnOk P w K mg base CX0 1 f fd ["self"] (spCounts C CQ) := by
  refine F.ok scCounts (fun vs H Q E h => ?_) (fun cdv A outer s H vs Q E hr h => ?_)
  · obtain ⟨q, x, zs, ch, wt, rfl, _⟩ := h
    rfl
  · obtain ⟨q, x, zs, ch, wt, rfl, QA, nz, lz, qq⟩ := h
    have nd := scCounts.nd
    have hu := hu_of hr
    refine ⟨_, (pss_one (ps_ret (pe_lock (pe_dcT (own := [("lot", 1)]) hr.units0 rfl nd (pi_keys (pe_fld (pv 0) rfl)) (blkOk_by (N := ["self", "lot"]) (sc := defScope (inClass (topS 45) 9)) (by decide +kernel)) (fun _ _ _ _ _ => (pg_name (i := 1) nd rfl (Or.inl rfl))) (fun _ _ _ _ _ => (pv 1)) (fun _ _ _ _ _ => (pe_dget hu (kFld K (pv 0)) (pv 1) (fun _ _ => rfl))))))), ?_⟩
    obtain ⟨dq, td, hq, FA, htd⟩ := id QA
    refine ⟨td, _, htd, trivial, fun od => ?_⟩
    have hp3 : upd H td (.frz od (.dT (tabV (tableOf ch zs wt)))) td = some (.frz od (.dT (tabV (tableOf ch zs wt)))) := upd_same
    have hqt : q ≠ td := ne_of hq htd (fun z => nomatch z)
    refine ⟨_, rfl, q, CQ, dq, _, _, rfl, by rw [upd_ne hqt]; exact hq, TQ.cl, TQ.nT, look_table _ _, td, od, rfl, .inr ⟨_, hp3, fun D2 nD2 => ?_⟩⟩
    have hDt : D2 ≠ td := (ne_of_none hp3 nD2).symm
    have nD : H D2 = none := by rw [upd_ne hDt] at nD2; exact nD2
    have lots3 : (lotsFor ch zs).length ≤ 2000 := lots_few lz
    generalize els : (lotsFor ch zs).filter (fun l => decide (wt l ≠ 0)) = ls at *
    have etab : tableOf ch zs wt = tabL ls wt := by
      unfold tableOf
      rw [els]
    have sub : ∀ l ∈ ls, l ∈ lotsFor ch zs := fun l m => by
      rw [← els] at m
      exact (List.mem_filter.mp m).1
    have nl : ls.Nodup := by
      rw [← els]
      exact (lots_nodup nz).filter _
    have len : ls.length ≤ 2000 := by
      have := pigeon ls (lotsFor ch zs) nl sub
      omega
    rw [etab] at hp3 nD2 htd qq ⊢
    refine dcT_itw walk_keysT (fun i H' => Same (upd H td (.frz od (.dT (tabV (tabL ls wt))))) H' ∧ H' D2 = some (.dT (tabV (tabL (ls.take i) wt)))) ⟨same_upd nD2, upd_same⟩ (fun i H' _ ⟨e3, _⟩ => e3 _ _ hp3) ?_ ?_
    · rintro i y H3 H4 hi ⟨e3, hd3⟩ ⟨rfl, kk, v, qa, hk, rfl, hqa⟩
      obtain ⟨l, hl, rfl, rfl⟩ := tab_at hk
      have ml := List.mem_of_getElem? hl
      have hq4 : H4 q = some (.ins CQ dq (questF x td)) := e3 _ _ (by rw [upd_ne hqt]; exact hq)
      have g : DGet H4 td (.ref qa) (some (.int (wt l))) := by
        have g : valV (tabV (tabL ls wt)) (l.map Sum.inr) = some (.int (wt l)) := by
          rw [valV_tab, getT_tab, if_pos ml]
          rfl
        exact .inr ⟨_, _, qa, .inr ⟨od, e3 _ _ hp3⟩, rfl, hqa, g.symm⟩
      refine ⟨rfl, _, rfl, _, rfl, q, CQ, dq, _, _, rfl, hq4, TQ.cl, TQ.nT, look_table _ _, _, rfl, td, .int (wt l), rfl, g, _, l.map Sum.inr, qa, rfl, hqa, hd3, ?_, Same.grow e3 nD2, ?_⟩
      · rw [tab_length, List.length_take]
        exact Evl.sz_lt (by omega)
      · have := tab_put (f := wt) (take_fresh nl hl)
        rw [upd_same, this, take_succ hl]
    · rintro H3 ⟨e3, hd3⟩
      rw [tab_length, List.take_length] at hd3
      have e1 := unlock htd e3
      have hD : upd H3 td (.dT (tabV (tabL ls wt))) D2 = some (.dT (tabV (tabL ls wt))) := by rw [upd_ne hDt]; exact hd3
      exact ⟨e3 _ _ hp3, qq D2 _ nD e1 hD⟩
theorem scLineT : FnScope ["question", "low", "high", "ends", "end", "lot", "number"] ["question", "low", "high"] (defScope (topS 75)) := ⟨rfl, rfl, rfl, by decide +kernel, rfl, by decide +kernel, by decide +kernel⟩
theorem ok_lineT (B : Bi mg) {C CQ fC f : Addr} {fdC fd : FuncData} (TQ : Cls K CQ) (GC : FnOk P w K mg base CX0 1 fC fdC ["self"] (spCounts C CQ)) (bC : Binds K fdC ["self"] []) (mC : Meth K CQ "counts" fC) (F : Fun K "line_of_telling" "line_of_telling" (topS 75) f fd) : FnOk P w K mg base CX0 2 f fd ["question", "low", "high"] (spLineT C CQ) := by
  refine F.ok scLineT (fun vs H Q E h => ?_) (fun cdv A outer s H vs Q E hr h => ?_)
  · obtain ⟨q, x, lo, hi, zs, ch, wt, rfl, _⟩ := h
    rfl
  · obtain ⟨q, x, lo, hi, zs, ch, wt, rfl, QA, nz, lz, g, qq⟩ := h
    have nd := scLineT.nd
    have hu := hu_of hr
    have hrC := hr
    have sl : sizeLine = 16777216 := sizeLine_eq
    refine ⟨_, (Evl.pss_cut (ps_setLc (i := 3) (own := [("end", 4)]) rfl nd rfl rfl (sw_true rfl rfl rfl (by decide +kernel)) (kPiT K (pe_tup (pa_cons (pv 1) (pa_cons (pv 2) pa_nil)))) (blkOk_by (N := ["question", "low", "high", "ends", "end", "lot", "number"]) (sc := defScope (topS 75)) (by decide +kernel)) (fun _ _ _ _ _ => (pg_name (i := 4) nd rfl (Or.inl rfl))) (fun _ _ _ _ _ => pts_nil) (fun _ _ _ _ _ => (pe_ifExp (pt_cmpR op_isN (pv 4) pe_non (nomark _)) pe_str (pe_joined1 (pe_fmt (pv 4))))))
      (pss_one (ps_ret (pe_join pe_str (pe_op op_cat (pv 3) (pe_lc (own := [("lot", 5), ("number", 6)]) rfl nd (pi_itemsL (pe_meth0 (pv 0) TQ mC GC hrC bC .nil pass0)) (blkOk_by (N := ["question", "low", "high", "ends", "end", "lot", "number"]) (sc := defScope (topS 75)) (by decide +kernel)) (fun _ _ _ _ _ => (kTg K 2 rfl (pgs_cons (pg_name (i := 5) nd rfl (Or.inl rfl)) (pgs_cons (pg_name (i := 6) nd rfl (Or.inl rfl)) pgs_nil)))) (fun _ _ _ _ _ => pts_nil) (fun _ _ _ _ _ => (by exact (pe_op op_add_str (by exact (pe_joined (PJ.cons (pe_fmt (pv 6)) (PJ.cons pe_str PJ.nil)))) (kJoin K pe_str (pv 5))))))))))), ?_⟩
    unfold gTel at g
    obtain ⟨g1, g⟩ := Bool.and_eq_true_iff.mp g
    obtain ⟨g2, g⟩ := Bool.and_eq_true_iff.mp g
    obtain ⟨g3, g⟩ := Bool.and_eq_true_iff.mp g
    obtain ⟨g4, g5⟩ := Bool.and_eq_true_iff.mp g
    have g4 := of_decide_eq_true g4
    have g5 := of_decide_eq_true g5
    have ge : ∀ v ∈ [lo, hi], gEnd v = true := fun v m => by
      rcases List.mem_cons.mp m with rfl | m
      · exact g1
      · rw [List.mem_singleton.mp m]
        exact g2
    have ap : ∀ x y : Str, (x ++ y).length = x.length + y.length := fun x y => by
      show (x.cps ++ y.cps).size = x.cps.size + y.cps.size
      exact Array.size_append
    have l1 : (Str.ofString ":").length = 1 := by decide +kernel
    have l3 : Str.empty.length = 0 := by decide +kernel
    refine ⟨fun σ H1 => ∃ A, σ = [some (.ref q), some lo, some hi, some (.ref A), none, none, none] ∧ Same H H1 ∧ H1 A = some (.lst ([endS lo, endS hi].map V.str)), ?_, ?_⟩
    · refine ⟨_, rfl, _, rfl, by show 2 ≤ sizeLine; decide, fun p np => ?_⟩
      have e1 := same_upd (o := HO.tup [lo, hi]) np
      have hp : upd H p (.tup [lo, hi]) p = some (.tup [lo, hi]) := upd_same
      generalize upd H p (.tup [lo, hi]) = H1 at e1 hp ⊢
      refine ⟨p, rfl, ⟨_, SqT.of hp⟩, fun D nD => map_it (walk_tup (xs := [lo, hi])) (fun v => V.str (endS v)) nD (fun H' e => SqT.of (e _ _ hp)) (by show 2 ≤ 100000; decide) (fun v H' R mv e r => ?_) fun H' e hD => ⟨D, rfl, Same.trans e1 e, hD⟩⟩
      have gv := ge v mv
      refine ⟨rfl, ?_⟩
      cases v with
      | non =>
        refine ⟨_, rfl, rfl, _, rfl, ?_⟩
        refine iteT ?_
        exact r H' (Same.refl _)
      | int i =>
        refine ⟨_, rfl, rfl, _, rfl, ?_⟩
        refine iteF ?_
        exact ⟨_, rfl, .inr ⟨i, rfl, of_decide_eq_true gv, r H' (Same.refl _)⟩⟩
      | _ => cases gv
    rintro σ H1 ⟨A, rfl, e1, hA⟩
    obtain ⟨dq, td, hq, FA, htd⟩ := id (QA.same e1)
    refine ⟨⟨_, rfl⟩, _, rfl, _, rfl, q, dq, _, rfl, hq, by rfl, q, x, zs, ch, wt, rfl, QA.same e1, nz, lz, fun d H2 nd2 e2 hd => ⟨d, _, rfl, hd, fun od => ?_⟩⟩
    have e12 := Same.trans e1 e2
    have hd3 : upd H2 d (.frz od (.dT (tabV (tableOf ch zs wt)))) d = some (.frz od (.dT (tabV (tableOf ch zs wt)))) := upd_same
    have e3 : Same H1 (upd H2 d (.frz od (.dT (tabV (tableOf ch zs wt))))) := fun b u h => by
      rw [upd_ne (ne_of_none h nd2)]
      exact e2 _ _ h
    generalize upd H2 d (.frz od (.dT (tabV (tableOf ch zs wt)))) = H3 at hd3 e3 ⊢
    generalize hfl : ((lotsFor ch zs).filter fun l => decide (wt l ≠ 0)) = fl at g5
    have hkv : tabV (tableOf ch zs wt) = tabV (tabL fl wt) := by
      unfold tableOf
      rw [hfl]
    rw [hkv] at hd3 ⊢
    have lfl : fl.length ≤ 10000 := by
      rw [← hfl]
      exact Nat.le_trans (List.length_filter_le ..) g4
    intro D nD
    refine lc_it walk_itemsT (fun k H' => Same H3 H' ∧ H' D = some (.lst ((fl.take k).map fun l => V.str (wS wt l)))) ⟨same_upd nD, upd_same⟩ (fun k H' _ ⟨e, _⟩ => e _ _ hd3) ?_ ?_
    · rintro k y H' H'' hk ⟨e, hD⟩ ⟨T2, kk, v, qa, hkk, hqa, rfl, nT, rfl⟩
      obtain ⟨l, hl, rfl, rfl⟩ := tab_at hkk
      have eT := same_upd (o := HO.tup [V.ref qa, .int (wt l)]) nT
      refine ⟨T2, _, rfl, SqT.of upd_same, rfl, _, _, rfl, _, _, rfl, rfl, rfl, yes2 ?_⟩
      generalize upd H' T2 (.tup [V.ref qa, .int (wt l)]) = G at eT ⊢
      have ml : l ∈ lotsFor ch zs := by
        have := List.mem_of_getElem? hl
        rw [← hfl] at this
        exact (List.mem_filter.mp this).1
      have gw := List.all_eq_true.mp g3 l ml
      unfold gWt at gw
      obtain ⟨w1, gw⟩ := Bool.and_eq_true_iff.mp gw
      obtain ⟨w2, gw⟩ := Bool.and_eq_true_iff.mp gw
      obtain ⟨w3, w4⟩ := Bool.and_eq_true_iff.mp gw
      have w1 := of_decide_eq_true w1
      have w2 := of_decide_eq_true w2
      have w3 := of_decide_eq_true w3
      have w4 := of_decide_eq_true w4
      have w2' : (Str.ofString (toString (wt l))).length ≤ 100000 := w2
      have hqa' : G qa = some (.tup (l.map V.str)) := by
        have := eT _ _ hqa
        rw [List.map_map] at this
        exact this
      have hDG := eT _ _ hD
      refine ⟨_, rfl, .inr ⟨wt l, rfl, w1, _, rfl, by simp only [ap, l3]; omega, ?_⟩⟩
      refine ⟨_, rfl, by simp only [ap, l1, l3]; omega, ?_⟩
      refine ⟨⟨_, rfl⟩, _, rfl, _, qa, l, rfl, rfl, .inr (SqT.of hqa'), by omega, ?_⟩
      refine ⟨_, _, rfl, rfl, by simp only [ap, l1, l3]; omega, ?_⟩
      refine ⟨_, hDG, Evl.sz_lt (by rw [List.length_map, List.length_take]; omega), Same.grow (Same.trans e eT) nD, ?_⟩
      rw [upd_same, take_succ hl, List.map_append]
      rfl
    · rintro H' ⟨e, hD⟩
      rw [tab_length, List.take_length] at hD
      have e13 := Same.trans e3 e
      have hA' := e13 _ _ hA
      have ep : partsS ch zs wt lo hi = [endS lo, endS hi] ++ fl.map (wS wt) := by
        unfold partsS
        rw [hfl]
      have hD' : H' D = some (.lst ((fl.map (wS wt)).map V.str)) := by rw [hD, List.map_map]; rfl
      refine ⟨A, D, _, _, rfl, rfl, hA', hD', by rw [List.length_map, List.length_map, List.length_map, sl]; show 2 + fl.length ≤ _; omega, fun L nL => ?_⟩
      have e4 := same_upd (o := HO.lst ([endS lo, endS hi].map V.str ++ (fl.map (wS wt)).map V.str)) nL
      refine ⟨_, L, partsS ch zs wt lo hi, rfl, rfl, .inl (SqL.of (by rw [upd_same, ep, List.map_append])), g5, ?_⟩
      exact qq _ (Same.trans e1 (Same.trans e13 e4))
end
end Bk

namespace Bk
open PySem PySem.Spec PyProof.Rows L2
def endsM : Option Int → Option Int → Option (V × V)
  | some a, some b => if b < a then none else some (.int a, .int b)
  | some a, none => some (.int a, .non)
  | none, some b => some (.non, .int b)
  | none, none => none
theorem ends_good {a b : Option Int} {p : V × V} (h : endsM a b = some p) : EndOk p.1 p.2 ∧ p.1 = optI a ∧ p.2 = optI b := by
  cases a with
  | none =>
    cases b with
    | none => cases h
    | some b => cases h; exact ⟨.inl ⟨rfl, b, rfl⟩, rfl, rfl⟩
  | some a =>
    cases b with
    | none => cases h; exact ⟨.inr (.inl ⟨rfl, a, rfl⟩), rfl, rfl⟩
    | some b =>
      have e : endsM (some a) (some b) = if b < a then none else some (.int a, .int b) := rfl
      rw [e] at h
      by_cases c : b < a
      · rw [if_pos c] at h; cases h
      · rw [if_neg c] at h
        cases h
        exact ⟨.inr (.inr ⟨a, b, rfl, rfl, by omega⟩), rfl, rfl⟩
theorem ends_bad {a b : Option Int} (h : endsM a b = none) : badE [.f (optI a), .f (optI b)] = true := by
  cases a with
  | none =>
    cases b with
    | none => rfl
    | some b => cases h
  | some a =>
    cases b with
    | none => cases h
    | some b =>
      have e : endsM (some a) (some b) = if b < a then none else some (.int a, .int b) := rfl
      rw [e] at h
      by_cases c : b < a
      · show (!true || !true || decide (b < a)) = true
        rw [decide_eq_true c]
        rfl
      · rw [if_neg c] at h; cases h
def wtE (zs : List Str) (es : List (List Str × Int)) : List Str → Int := fun l => (getT (foundT zs es) (l.map Sum.inr)).getD 0
def tellQ (ch : Bool) (zs : List Str) (line : Str) : Option (V × V) → Option (List (List Str × Int)) → Option (List (List Str × Int) × V × V)
  | some p, some es => if telS ch zs (wtE zs es) p.1 p.2 = line then some (es, p.1, p.2) else none
  | _, _ => none
def tellP (ch : Bool) (zs : List Str) (line : Str) : List Str → Option (List (List Str × Int) × V × V)
  | a :: b :: r => tellQ ch zs line (endsM (intM a) (intM b)) (weightsM ch zs [] r)
  | _ => none
/-- what a line of a book says -/
def tellM (ch : Bool) (zs : List Str) (line : Str) : Option (List (List Str × Int) × V × V) := tellP ch zs line (Txt.split line (Str.ofString " "))
def gTQ (ch : Bool) (zs : List Str) : Option (V × V) → Option (List (List Str × Int)) → Bool
  | some p, some es => gTel ch zs (wtE zs es) p.1 p.2
  | _, _ => true
def gTP (ch : Bool) (zs : List Str) : List Str → Bool
  | a :: b :: r => gInt a && (gInt b && (r.all gPart && gTQ ch zs (endsM (intM a) (intM b)) (weightsM ch zs [] r)))
  | _ => true
def gTell (ch : Bool) (zs : List Str) (line : Str) : Bool := decide (line.length ≤ 1000) && (decide ((Txt.split line (Str.ofString " ")).length ≤ 1000) && gTP ch zs (Txt.split line (Str.ofString " ")))
/-- telling_told(folders, line) -/
def spTellT (C CQ : Addr) : Sp := fun vs H Q _ => ∃ (x : Addr) (line : Str) (zs : List Str) (ch : Bool), vs = [.ref x, .str line] ∧ FoldersAt C H x zs ch ∧ zs.Nodup ∧ zs.length ≤ mostFor ch ∧ gTell ch zs line = true ∧ (tellM ch zs line = none → ∀ H', Same H H' → Q .non H') ∧
  ∀ es lo hi, tellM ch zs line = some (es, lo, hi) → ∀ p q T H', Same H H' → H' p = some (.tup [.ref q, .ref T]) → H' T = some (.tup [lo, hi]) → EndOk lo hi → QuestAt C CQ H' q x zs ch (wtE zs es) → Q (.ref p) H'
section
variable {P : Program} {w : World} {K : PySem.W.Frag} {mg : Str → Option Value} {base : Heap}
theorem scTellT : FnScope ["folders", "line", "parts", "ends", "weights", "question"] ["folders", "line"] (defScope (topS 80)) := ⟨rfl, rfl, rfl, by decide +kernel, rfl, by decide +kernel, by decide +kernel⟩
theorem ok_tellT (B : Bi mg) {C CQ fQ f f1 f2 f3 f4 : Addr} {fdQ fd fd1 fd2 fd3 fd4 : FuncData} (TQ : QueT K mg CQ fQ) (GQ : FnOk P w K mg base CX0 4 fQ fdQ ["self", "folders", "weights"] (spQuest K C CQ)) (bQ : Binds K fdQ ["self", "folders", "weights"] []) (c_integer_told : Cal P w K mg base CX0 1 "integer_told" f1 fd1 ["text"] spIntT) (c_ends_of : Cal P w K mg base CX0 3 "ends_of" f2 fd2 ["told"] (fun vs H Q E => spEndsOf K vs H Q E ∨ spEndsNo vs H Q E)) (c_weights_told : Cal P w K mg base CX0 3 "weights_told" f3 fd3 ["folders", "parts"] (spWeiT C)) (c_line_of_telling : Cal P w K mg base CX0 2 "line_of_telling" f4 fd4 ["question", "low", "high"] (spLineT C CQ))
    (F : Fun K "telling_told" "telling_told" (topS 80) f fd) : FnOk P w K mg base CX0 6 f fd ["folders", "line"] (spTellT C CQ) := by
  refine F.ok scTellT (fun vs H Q E h => ?_) (fun cdv A outer s H vs Q E hr h => ?_)
  · obtain ⟨x, line, zs, ch, rfl, _⟩ := h
    rfl
  · obtain ⟨x, line, zs, ch, rfl, FA, nz, lz, g, qn, qs⟩ := h
    have nd := scTellT.nd
    have hu := hu_of hr
    have sl : sizeLine = 16777216 := sizeLine_eq
    have hrQ := hr
    have hr_ends_of : Room 3 _ := hr.mono (by decide)
    have hr_weights_told := hr_ends_of
    have hr_line_of_telling : Room 2 _ := hr.mono (by decide)
    have hr_integer_told : Room 1 _ := hr.mono (by decide)
    refine ⟨_, (Evl.pss_cut (ps_set (i := 2) nd rfl (Or.inl rfl) (pe_split (pv 1) pe_str))
      (Evl.pss_cut (ps_if (pt_cmpR op_lt (pe_callB (kLen K) (by rfl) B.len PySem.boot_len (pa_cons (pv 2) pa_nil)) pe_int (nomark _)) (pss_one (ps_ret pe_non)) pss_nil)
      (Evl.pss_cut (ps_set (i := 3) nd rfl (Or.inl rfl) (pe_call c_ends_of.ok hr_ends_of (by rfl) c_ends_of.g c_ends_of.kp c_ends_of.b .nil pass0 (pa_cons (pe_tup (pa_cons (pe_call c_integer_told.ok hr_integer_told (by rfl) c_integer_told.g c_integer_told.kp c_integer_told.b .nil pass0 (pa_cons (pe_ix (kIxL K) (pv 2) pe_int (fun _ _ => rfl)) pa_nil)) (pa_cons (pe_call c_integer_told.ok hr_integer_told (by rfl) c_integer_told.g c_integer_told.kp c_integer_told.b .nil pass0 (pa_cons (pe_ix (kIxL K) (pv 2) pe_int (fun _ _ => rfl)) pa_nil)) pa_nil))) pa_nil)))
      (Evl.pss_cut (ps_set (i := 4) nd rfl (Or.inl rfl) (pe_call c_weights_told.ok hr_weights_told (by rfl) c_weights_told.g c_weights_told.kp c_weights_told.b .nil pass0 (pa_cons (pv 0) (pa_cons (pe_slice (kSlL K) (pv 2) (po_some pe_int) po_none) pa_nil))))
      (Evl.pss_cut (ps_if (PW.pt (pw_or (pt_cmpR op_isN (pv 3) pe_non (nomark _)) (pw_or1 (pt_cmpR op_isN (pv 4) pe_non (nomark _))))) (pss_one (ps_ret pe_non)) pss_nil)
      (Evl.pss_cut (ps_set (i := 5) nd rfl (Or.inl rfl) (pe_make TQ.make GQ hrQ (by rfl) TQ.g bQ .nil pass0 (pa_cons (pv 0) (pa_cons (pv 4) pa_nil))))
      (pss_one (ps_ret (pe_ifExp (pt_cmpR op_eq (pe_call c_line_of_telling.ok hr_line_of_telling (by rfl) c_line_of_telling.g c_line_of_telling.kp c_line_of_telling.b .nil pass0 (pa_cons (pv 5) (pa_cons (pe_ix (kIxT K) (pv 3) pe_int (fun _ _ => rfl)) (pa_cons (pe_ix (kIxT K) (pv 3) pe_int (fun _ _ => rfl)) pa_nil)))) (pv 1) (nomark _)) (pe_tup (pa_cons (pv 5) (pa_cons (pv 3) pa_nil))) pe_non))))))))), ?_⟩
    have l12 : zs.length ≤ 12 := Nat.le_trans lz (by cases ch <;> decide)
    obtain ⟨dx, t, pd, hx, ht, hpd⟩ := id FA
    unfold gTell at g
    obtain ⟨g1, g⟩ := Bool.and_eq_true_iff.mp g
    obtain ⟨g2, g3⟩ := Bool.and_eq_true_iff.mp g
    have g1 := of_decide_eq_true g1
    have g2 := of_decide_eq_true g2
    unfold tellM at qn qs
    generalize hparts : Txt.split line (Str.ofString " ") = parts at g2 g3 qn qs
    refine ⟨fun σ H1 => ∃ A, σ = [some (.ref x), some (.str line), some (.ref A), none, none, none] ∧ Same H H1 ∧ H1 A = some (.lst (parts.map V.str)), ?_, ?_⟩
    · refine ⟨_, rfl, ⟨line, rfl⟩, line, _, rfl, rfl, by decide +kernel, by omega, fun A nA => ?_⟩
      rw [hparts]
      exact ⟨A, rfl, same_upd nA, upd_same⟩
    rintro σ H1 ⟨A, rfl, e1, hA⟩
    have lln : (parts.map V.str).length = parts.length := List.length_map ..
    have short : parts.length < 2 → tellP ch zs line parts = none := fun h => by
      match parts, h with
      | [], _ => rfl
      | [a], _ => rfl
      | a :: b :: r, h => exact absurd h (by simp)
    by_cases l2 : parts.length < 2
    · refine ⟨fun _ _ => False, ?_, fun _ _ z => z.elim⟩
      refine ⟨_, rfl, .ref A, parts.length, rfl, .inl ⟨_, SqL.of hA, lln.symm⟩, _, _, rfl, rfl, _, rfl, ?_⟩
      refine if_so (decide_eq_true (by omega)) ?_
      exact qn (short l2) H1 e1
    obtain ⟨a, b, r, rfl⟩ : ∃ a b r, parts = a :: b :: r := by
      match parts, l2 with
      | [], h => exact absurd (by decide) h
      | [a], h => exact absurd (by simp) h
      | a :: b :: r, _ => exact ⟨a, b, r, rfl⟩
    refine ⟨fun σ H2 => σ = [some (.ref x), some (.str line), some (.ref A), none, none, none] ∧ H1 = H2, ?_, ?_⟩
    · refine ⟨_, rfl, .ref A, (a :: b :: r).length, rfl, .inl ⟨_, SqL.of hA, lln.symm⟩, _, _, rfl, rfl, _, rfl, ?_⟩
      refine if_no (decide_eq_false (by omega)) ?_
      exact ⟨rfl, rfl⟩
    rintro σ H2 ⟨rfl, rfl⟩
    have g3 : (gInt a && (gInt b && (r.all gPart && gTQ ch zs (endsM (intM a) (intM b)) (weightsM ch zs [] r)))) = true := g3
    obtain ⟨ga, g3⟩ := Bool.and_eq_true_iff.mp g3
    obtain ⟨gb, g3⟩ := Bool.and_eq_true_iff.mp g3
    obtain ⟨gr, gq⟩ := Bool.and_eq_true_iff.mp g3
    have qn : tellQ ch zs line (endsM (intM a) (intM b)) (weightsM ch zs [] r) = none → ∀ H', Same H H' → Q .non H' := qn
    have qs : ∀ es lo hi, tellQ ch zs line (endsM (intM a) (intM b)) (weightsM ch zs [] r) = some (es, lo, hi) → ∀ p q T H', Same H H' → H' p = some (.tup [.ref q, .ref T]) → H' T = some (.tup [lo, hi]) → EndOk lo hi → QuestAt C CQ H' q x zs ch (wtE zs es) → Q (.ref p) H' := qs
    -- the ends
    refine ⟨fun σ H3 => ∃ u, σ = [some (.ref x), some (.str line), some (.ref A), some u, none, none] ∧ Same H H3 ∧ Same H1 H3 ∧ ((endsM (intM a) (intM b) = none ∧ u = .non) ∨ ∃ p T, endsM (intM a) (intM b) = some p ∧ u = .ref T ∧ H3 T = some (.tup [p.1, p.2])), ?_, ?_⟩
    · refine ⟨_, rfl, A, _, 0, .str a, rfl, rfl, SqL.of hA, atI_nat (j := 0) rfl, a, rfl, ga, fun H3 e3 => ?_⟩
      refine ⟨_, rfl, A, _, 1, .str b, rfl, rfl, SqL.of (e3 _ _ hA), atI_nat (j := 1) rfl, b, rfl, gb, fun H4 e4 => ?_⟩
      refine ⟨by show 2 ≤ sizeLine; decide, fun p np => ?_⟩
      have e5 := same_upd (o := HO.tup [optI (intM a), optI (intM b)]) np
      have hp : upd H4 p (.tup [optI (intM a), optI (intM b)]) p = some (.tup [optI (intM a), optI (intM b)]) := upd_same
      generalize upd H4 p (.tup [optI (intM a), optI (intM b)]) = H5 at e5 hp ⊢
      have e15 := Same.trans e3 (Same.trans e4 e5)
      have fl : ∀ o : Option Int, flatV (optI o) = true := fun o => by cases o <;> rfl
      cases he : endsM (intM a) (intM b) with
      | none =>
        refine .inr ⟨.ref p, _, rfl, .seq (es := [.f (optI (intM a)), .f (optI (intM b))]) (.inr hp) ⟨rfl, fun k u e h1 h2 => ?_⟩ (fun e m => ?_) (by show 2 ≤ 1000; decide) (ends_bad he), fun H6 e6 => ?_⟩
        · match k with
          | 0 => cases h1; cases h2; rfl
          | 1 => cases h1; cases h2; rfl
          | k + 2 => cases h1
        · rcases List.mem_cons.mp m with rfl | m
          · exact fl _
          · rw [List.mem_singleton.mp m]
            exact fl _
        · exact ⟨_, rfl, Same.trans e1 (Same.trans e15 e6), Same.trans e15 e6, .inl ⟨rfl, rfl⟩⟩
      | some q =>
        obtain ⟨eo, q1, q2⟩ := ends_good he
        refine .inl ⟨.ref p, q.1, q.2, rfl, .inr ⟨p, rfl, .inr (SqT.of (by rw [q1, q2]; exact hp)), eo⟩, fun T H6 nT e6 hT => ?_⟩
        exact ⟨_, rfl, Same.trans e1 (Same.trans e15 e6), Same.trans e15 e6, .inr ⟨q, T, rfl, rfl, hT⟩⟩
    rintro σ H3 ⟨u, rfl, e03, e13, hu3⟩
    -- the weights
    refine ⟨fun σ H4 => ∃ v, σ = [some (.ref x), some (.str line), some (.ref A), some u, some v, none] ∧ Same H3 H4 ∧ ((weightsM ch zs [] r = none ∧ v = .non) ∨ ∃ es D, weightsM ch zs [] r = some es ∧ v = .ref D ∧ H3 D = none ∧ H4 D = some (.dT (tabV (entT es))) ∧ EsW ch zs es ∧ es.length ≤ 1000), ?_, ?_⟩
    · refine ⟨_, rfl, _, rfl, 2, rfl, A, _, rfl, SqL.of (e13 _ _ hA), fun A2 nA2 => ?_⟩
      have e4 := same_upd (o := HO.lst (cutV ((a :: b :: r).map V.str) (some 2) none)) nA2
      have hA2 : upd H3 A2 (.lst (cutV ((a :: b :: r).map V.str) (some 2) none)) A2 = some (.lst (r.map V.str)) := by
        rw [upd_same, show (2 : Int) = ((2 : Nat) : Int) from rfl, cut_from]
        rfl
      generalize upd H3 A2 (.lst (cutV ((a :: b :: r).map V.str) (some 2) none)) = H4 at e4 hA2 ⊢
      have lr : r.length ≤ 1000 := by
        rw [List.length_cons, List.length_cons] at g2
        omega
      refine ⟨x, A2, r, zs, ch, rfl, (FA.same e03).same e4, nz, l12, hA2, lr, fun p m => List.all_eq_true.mp gr p m, fun hn H5 e5 => ⟨_, rfl, Same.trans e4 e5, .inl ⟨hn, rfl⟩⟩, fun es he D H5 nD e5 hD hE ln => ⟨_, rfl, Same.trans e4 e5, .inr ⟨es, D, he, rfl, e4.free nD, hD, hE, by omega⟩⟩⟩
    rintro σ H4 ⟨v, rfl, e34, hv⟩
    have e04 := Same.trans e03 e34
    rcases hu3 with ⟨he, rfl⟩ | ⟨p, T, he, rfl, hT⟩
    · refine ⟨fun _ _ => False, ?_, fun _ _ z => z.elim⟩
      refine ⟨_, rfl, rfl, _, rfl, ?_⟩
      refine iteT ?_
      exact qn (by rw [he]; rfl) H4 e04
    rw [he] at qn qs gq
    obtain ⟨eo, q1, q2⟩ := ends_good he
    rcases hv with ⟨hw, rfl⟩ | ⟨es, D, hw, rfl, nD, hD, hE, ln⟩
    · refine ⟨fun _ _ => False, ?_, fun _ _ z => z.elim⟩
      refine ⟨_, rfl, rfl, _, rfl, ?_⟩
      refine iteF ?_
      refine ⟨_, rfl, rfl, _, rfl, ?_⟩
      refine iteT ?_
      exact qn (by rw [hw]; rfl) H4 e04
    rw [hw] at qn qs gq
    refine ⟨fun σ H5 => σ = [some (.ref x), some (.str line), some (.ref A), some (.ref T), some (.ref D), none] ∧ H4 = H5, ?_, ?_⟩
    · refine ⟨_, rfl, rfl, _, rfl, ?_⟩
      refine iteF ?_
      refine ⟨_, rfl, rfl, _, rfl, ?_⟩
      refine iteF ?_
      exact ⟨rfl, rfl⟩
    rintro σ H5 ⟨rfl, rfl⟩
    have hls : ∀ e ∈ es, lotS zs e.1 = e.1 := fun e m => lotS_of lz nz (hE.mem e m)
    have hqq : tellQ ch zs line (some p) (some es) = if telS ch zs (wtE zs es) p.1 p.2 = line then some (es, p.1, p.2) else none := rfl
    rw [hqq] at qn qs
    have gq : gTel ch zs (wtE zs es) p.1 p.2 = true := gq
    refine ⟨fun σ H6 => ∃ q, σ = [some (.ref x), some (.str line), some (.ref A), some (.ref T), some (.ref D), some (.ref q)] ∧ Same H4 H6 ∧ QuestAt C CQ H6 q x zs ch (wtE zs es), ?_, ?_⟩
    · refine ⟨_, rfl, _, rfl, fun q dq nq ndq hne => ?_⟩
      have e5 := Same.grow (o := HO.ins CQ dq []) (Same.grow (o := HO.own q) (Same.refl H4) ndq) nq
      have e05 := Same.trans e04 e5
      refine ⟨q, x, dq, dx, t, pd, .ref D, zs, ch, wtE zs es, rfl, upd_same, e05 _ _ hx, e05 _ _ ht, e05 _ _ hpd, nz, lz, .inr ⟨D, es, rfl, ne_of_none (e03 _ _ hpd) nD, e5 _ _ hD, ⟨by omega, fun e m => ?_, fun e m => ?_, ?_⟩, fun l _ => rfl⟩, fun H' QQ bt => ⟨rfl, q, rfl, fun b' u h => bt b' u (ne_of_none h nq) (e5 _ _ h), QQ⟩⟩
      · rw [hls e m]
        exact lotOfV_lot lz nz (hE.mem e m)
      · have h := hls e m
        rw [← h]
        unfold lotS
        exact Nat.le_trans (List.length_filter_le ..) (by omega)
      · rw [List.map_congr_left hls]
        exact hE.nd
    rintro σ H6 ⟨q, rfl, e46, QQ⟩
    have hT6 := (Same.trans e34 e46) _ _ hT
    refine ⟨_, rfl, _, rfl, T, _, 0, p.1, rfl, rfl, SqT.of hT6, rfl, _, rfl, T, _, 1, p.2, rfl, rfl, SqT.of hT6, rfl, q, x, p.1, p.2, zs, ch, _, rfl, QQ, nz, lz, gq, fun H7 e7 => ?_⟩
    refine ⟨_, rfl, rfl, _, rfl, ?_⟩
    have e07 := Same.trans e04 (Same.trans e46 e7)
    by_cases hL : telS ch zs (wtE zs es) p.1 p.2 = line
    · refine if_so (by rw [hL, decide_eq_true rfl]) ?_
      refine ⟨_, rfl, _, rfl, by show 2 ≤ sizeLine; decide, fun p2 np2 => ?_⟩
      have e8 := same_upd (o := HO.tup [.ref q, .ref T]) np2
      exact qs es p.1 p.2 (if_pos hL) p2 q T _ (Same.trans e07 e8) upd_same ((Same.trans e7 e8) _ _ hT6) eo (QQ.same (Same.trans e7 e8))
    · have nL : ¬ V.str (telS ch zs (wtE zs es) p.1 p.2) = V.str line := fun e => hL (by injection e)
      refine if_no (decide_eq_false nL) ?_
      exact qn (if_neg hL) H7 e07
end
end Bk

namespace Bk
open PySem PySem.Spec PyProof.Rows L2
/-- the line at which the lines of a book fail -/
def bookM (ch : Bool) (zs : List Str) : Nat → List (List Str → Int) → List Str → Option Nat
  | _, _, [] => none
  | 0, ws, _ :: r => bookM ch zs 1 ws r
  | k + 1, ws, line :: r => match tellM ch zs line with
    | none => some (k + 2)
    | some (es, _, _) => if (placeQ zs ch ws zs ch (wtE zs es)).isSome = true then some (k + 2) else bookM ch zs (k + 2) (ws ++ [wtE zs es]) r
def gBook (ch : Bool) (zs : List Str) (lines : List Str) : Bool := decide (lines.length ≤ 500) && lines.all (gTell ch zs)
/-- book_told(folders, lines) -/
def spBookT (C CQ CB CX : Addr) : Sp := fun vs H Q E => ∃ (x ls : Addr) (lines zs : List Str) (ch : Bool), vs = [.ref x, .ref ls] ∧ FoldersAt C H x zs ch ∧ zs.Nodup ∧ zs.length ≤ mostFor ch ∧ (∀ z ∈ zs, isNameS z = true) ∧ H ls = some (.lst (lines.map V.str)) ∧ gBook ch zs lines = true ∧
  (∀ n, bookM ch zs 0 [] lines = some n → ∀ H0, Same H H0 → ∀ d H', ExcAt H0 d "line" (.int (n : Int)) H' → E (.ref CX) (some d) H') ∧ (bookM ch zs 0 [] lines = none → ∀ b H', Same H H' → Q (.ref b) H')
section
variable {P : Program} {w : World} {K : PySem.W.Frag} {mg : Str → Option Value} {base : Heap}
theorem scBookT : FnScope ["folders", "lines", "book", "at", "line", "found", "question", "ends"] ["folders", "lines"] (defScope (topS 78)) := ⟨rfl, rfl, rfl, by decide +kernel, rfl, by decide +kernel, by decide +kernel⟩
theorem ok_bookT (B : Bi mg) {C CQ CB CX fB fS fI fX f f1 : Addr} {fdB fdS fdI fdX fd fd1 : FuncData} (TB : BooT K mg CB fB) (T_BadText : ExT K mg "BadText" CX fX "line") (G_BadText : FnOk P w K mg base CX0 1 fX fdX ["self", "line"] (spExcInit CX "line")) (b_BadText : Binds K fdX ["self", "line"] [])
    (GB : FnOk P w K mg base CX0 1 fB fdB ["self", "folders"] (spBookI C CQ CB)) (bB : Binds K fdB ["self", "folders"] []) (GS : FnOk P w K mg base CX0 4 fS fdS ["self", "at", "worth"] (spBSet K C CQ CB)) (bS : Binds K fdS ["self", "at", "worth"] []) (mS : Own K CB "__setitem__" fS) (nS : PySem.W.noSeq K CB = true)
    (GI : FnOk P w K mg base CX0 4 fI fdI ["self", "x"] (spBIn C CQ CB)) (bI : Binds K fdI ["self", "x"] []) (mI : Own K CB "__contains__" fI) (c_telling_told : Cal P w K mg base CX0 6 "telling_told" f1 fd1 ["folders", "line"] (spTellT C CQ))
    (F : Fun K "book_told" "book_told" (topS 78) f fd) : FnOk P w K mg base (L2N.CX P w) 7 f fd ["folders", "lines"] (spBookT C CQ CB CX) := by
  refine Fun.okN F scBookT (fun vs H Q E h => ?_) (fun cdv A outer s H vs Q E hr h => ?_)
  · obtain ⟨x, ls, lines, zs, ch, rfl, _⟩ := h
    rfl
  · obtain ⟨x, ls, lines, zs, ch, rfl, FA, nz, lz, nm, hls, g, qe, qs⟩ := h
    have nd := scBookT.nd
    have hu := hu_of hr
    have hr_telling_told := hr
    have hrS : Room 4 _ := hr.mono (by decide)
    have hrI := hrS
    have hrB : Room 2 _ := hr.mono (by decide)
    have hrE := hrB
    refine ⟨_, (Evl.pss_cut (ps_set (i := 2) nd rfl (Or.inl rfl) (pe_make TB.make GB hrB (by rfl) TB.g bB .nil pass0 (pa_cons (pv 0) pa_nil)))
      (pss_cons (ps_for (passes_of rfl) rfl (kPiE K (by rfl) B.enumerate (pa_cons (pv 1) pa_nil)) (kTg K 2 rfl (pgs_cons (pg_name (i := 3) nd rfl (Or.inl rfl)) (pgs_cons (pg_name (i := 4) nd rfl (Or.inl rfl)) pgs_nil))) (pss_one (ps_if (pt_cmpR op_gt (pv 3) pe_int (nomark _)) (pss_cons (ps_set (i := 5) nd rfl (Or.inl rfl) (pe_call c_telling_told.ok hr_telling_told (by rfl) c_telling_told.g c_telling_told.kp c_telling_told.b .nil pass0 (pa_cons (pv 0) (pa_cons (pv 4) pa_nil))))
      (pss_cons (ps_if (PW.pt (pw_or (pt_cmpR op_isN (pv 5) pe_non (nomark _)) (pw_or1 (pt_cmpR (op_inOwn GI bI pass0 hrI mI) (pe_ix (kIxT K) (pv 5) pe_int (fun _ _ => rfl)) (pv 2) rfl)))) (pss_one (L2N.ps_raise rfl (L2N.takes_of rfl rfl rfl rfl) (pmk_oexN T_BadText.o T_BadText.iC T_BadText.tI G_BadText hrE b_BadText pass0 (by rfl) T_BadText.g (pa_cons (pe_op op_add (pv 3) pe_int) pa_nil)))) pss_nil)
      (pss_cons (ps_asg (pv 5) (kTg K 2 rfl (pgs_cons (pg_name (i := 6) nd rfl (Or.inl rfl)) (pgs_cons (pg_name (i := 7) nd rfl (Or.inl rfl)) pgs_nil))))
      (pss_one (ps_asg (pv 7) (pg_sub (pv 2) (pv 6) (set_own GS bS pass0 hrS mS nS))))))) pss_nil)))
      (pss_one (ps_ret (pv 2))))), ?_⟩
    unfold gBook at g
    obtain ⟨g1, g2⟩ := Bool.and_eq_true_iff.mp g
    have g1 := of_decide_eq_true g1
    have gz : ∀ line ∈ lines, gTell ch zs line = true := fun line m => List.all_eq_true.mp g2 line m
    have lln : (lines.map V.str).length = lines.length := List.length_map ..
    refine ⟨fun σ H1 => ∃ b, σ = [some (.ref x), some (.ref ls), some (.ref b), none, none, none, none, none] ∧ H b = none ∧ Same H H1 ∧ BookAt C CQ CB H1 b x zs ch [] [], ?_, ?_⟩
    · refine ⟨_, rfl, fun b db nb ndb hne => ?_⟩
      have e1 := Same.grow (o := HO.ins CB db []) (Same.grow (o := HO.own b) (Same.refl H) ndb) nb
      refine ⟨b, db, x, zs, ch, rfl, upd_same, FA.same e1, fun H' BK o nw => ⟨rfl, b, rfl, nb, fun a u h => o _ _ (ne_of_none h nb) (e1 _ _ h), BK⟩⟩
    rintro σ H1 ⟨b, rfl, nb, e1, BK1⟩
    refine st_seq ?_
    refine ⟨_, rfl, ls, rfl, .inl ⟨_, SqL.of (e1 _ _ hls), ?_⟩⟩
    refine for_it walk_enum (fun i σ H2 => ∃ (ws : List (List Str → Int)) (ps : List (V × V)) (v3 v4 v5 v6 v7 : Option V), σ = [some (.ref x), some (.ref ls), some (.ref b), v3, v4, v5, v6, v7] ∧ Same H H2 ∧ BookAt C CQ CB H2 b x zs ch ws ps ∧ ws.length ≤ i ∧ bookM ch zs i ws (lines.drop i) = bookM ch zs 0 [] lines) ?_ (fun i σ H2 _ ⟨_, _, _, _, _, _, _, _, e, _⟩ => SqL.of (e _ _ hls)) ?_ ?_
    · exact ⟨[], [], _, _, _, _, _, rfl, e1, BK1, Nat.zero_le _, rfl⟩
    · rintro i y σ H2 H3 hi ⟨ws, ps, v3, v4, v5, v6, v7, rfl, e02, BK2, le, hm⟩ ⟨T1, y1, y2, rfl, nT, rfl, h1, h2⟩
      cases h1
      have h2 : (lines.map V.str)[i]? = some y2 := h2
      have hi' : i < lines.length := by rw [← lln]; exact hi
      rw [List.getElem?_map, List.getElem?_eq_getElem hi'] at h2
      have h2 := (Option.some.inj h2).symm
      subst h2
      have hml : lines[i] ∈ lines := List.getElem_mem hi'
      rw [List.drop_eq_getElem_cons hi'] at hm
      generalize lines[i] = line at hm hml ⊢
      have gl := gz line hml
      have eT := same_upd (o := HO.tup [V.int (i : Nat), V.str line]) nT
      refine ⟨T1, _, rfl, SqT.of upd_same, rfl, _, _, rfl, _, _, rfl, rfl, ?_⟩
      generalize upd H2 T1 (.tup [.int (i : Nat), V.str line]) = H3 at eT ⊢
      have e03 := Same.trans e02 eT
      refine ⟨_, rfl, _, 0, rfl, rfl, _, rfl, ?_⟩
      cases i with
      | zero =>
        refine if_no (decide_eq_false (by omega)) ?_
        exact ⟨ws, ps, _, _, _, _, _, rfl, e03, BK2.same eT, by omega, hm⟩
      | succ k =>
        refine if_so (decide_eq_true (by omega)) ?_
        refine ⟨_, rfl, _, rfl, x, line, zs, ch, rfl, FA.same e03, nz, lz, gl, fun hn H4 e4 => ?_, fun es lo hi ht p q T H4 e4 hp hT eo QA => ?_⟩
        · refine ⟨_, rfl, rfl, _, rfl, ?_⟩
          refine iteT ?_
          refine iteT ?_
          have hm : (match tellM ch zs line with
            | none => some (k + 2)
            | some (es, _, _) => if (placeQ zs ch ws zs ch (wtE zs es)).isSome = true then some (k + 2) else bookM ch zs (k + 2) (ws ++ [wtE zs es]) (lines.drop (k + 1 + 1))) = bookM ch zs 0 [] lines := hm
          rw [hn] at hm
          exact mkO_of (fun R hR => ⟨_, rfl, _, _, rfl, rfl, hR⟩) (fun d H' hE => qe (k + 2) hm.symm H4 (Same.trans e03 e4) d H' (by
            have : ((k + 1 : Nat) : Int) + 1 = ((k + 2 : Nat) : Int) := by omega
            rw [← this]
            exact hE))
        · have hm : (match tellM ch zs line with
            | none => some (k + 2)
            | some (es, _, _) => if (placeQ zs ch ws zs ch (wtE zs es)).isSome = true then some (k + 2) else bookM ch zs (k + 2) (ws ++ [wtE zs es]) (lines.drop (k + 1 + 1))) = bookM ch zs 0 [] lines := hm
          rw [ht] at hm
          have hm : (if (placeQ zs ch ws zs ch (wtE zs es)).isSome = true then some (k + 2) else bookM ch zs (k + 2) (ws ++ [wtE zs es]) (lines.drop (k + 1 + 1))) = bookM ch zs 0 [] lines := hm
          have e24 := Same.trans eT e4
          have e04 := Same.trans e02 e24
          have BK4 := BK2.same e24
          obtain ⟨db, lq, le', hb, _⟩ := id BK4
          refine ⟨_, rfl, rfl, _, rfl, ?_⟩
          refine iteF ?_
          refine ⟨_, rfl, p, _, 0, .ref q, rfl, rfl, SqT.of hp, rfl, _, rfl, b, db, _, rfl, hb, b, x, q, x, zs, zs, ch, ch, ws, ps, _, rfl, BK4, QA, nm, nm, fun H5 e5 => ⟨_, rfl, _, rfl, ?_⟩⟩
          by_cases c : (placeQ zs ch ws zs ch (wtE zs es)).isSome = true
          · rw [if_pos c] at hm
            refine if_so (by rw [c]; rfl) ?_
            exact mkO_of (fun R hR => ⟨_, rfl, _, _, rfl, rfl, hR⟩) (fun d H' hE => qe (k + 2) hm.symm H5 (Same.trans e04 e5) d H' (by
              have : ((k + 1 : Nat) : Int) + 1 = ((k + 2 : Nat) : Int) := by omega
              rw [← this]
              exact hE))
          · rw [if_neg c] at hm
            have hpn : placeQ zs ch ws zs ch (wtE zs es) = none := by
              cases h : placeQ zs ch ws zs ch (wtE zs es) with
              | none => rfl
              | some i => rw [h] at c; exact absurd rfl c
            refine if_no (by rw [hpn]; rfl) ?_
            have BK5 := BK4.same e5
            obtain ⟨db5, lq5, le5, hb5, _⟩ := id BK5
            refine ⟨_, rfl, p, _, rfl, SqT.of (e5 _ _ hp), rfl, _, _, rfl, _, _, rfl, rfl, ?_⟩
            refine ⟨_, rfl, _, rfl, _, rfl, b, db5, _, rfl, hb5, b, x, q, x, .ref T, lo, hi, zs, ch, ws, ps, wtE zs es, rfl, BK5, QA.same e5, nm, .inr ⟨T, rfl, .inr (SqT.of (e5 _ _ hT)), eo⟩, by omega, fun H6 BK6 o nw => ?_⟩
            unfold putQs putPs at BK6
            rw [hpn] at BK6
            refine ⟨ws ++ [wtE zs es], _, _, _, _, _, _, rfl, fun a u h => o _ _ (ne_of_none h nb) (e5 _ _ (e04 _ _ h)), BK6, by rw [List.length_append]; show ws.length + 1 ≤ _; omega, hm⟩
    · rintro σ H2 ⟨ws, ps, v3, v4, v5, v6, v7, rfl, e02, BK2, le, hm⟩
      rw [lln, List.drop_length] at hm
      have hm : bookM ch zs 0 [] lines = none := by
        rw [← hm]
        cases lines.length <;> rfl
      exact ⟨_, rfl, qs hm b H2 e02⟩
end
end Bk

namespace Bk
open PySem PySem.Spec PyProof.Rows L2
theorem cut_init (xs : List V) (v : V) : cutV (xs ++ [v]) none (some (-1)) = xs := by
  unfold cutV
  have e : HT.sIx (xs ++ [v]).length (xs ++ [v]).length (some (-1)) = xs.length := by
    show (if (-1 : Int) < 0 then ((-1 : Int) + ((xs ++ [v]).length : Int)).toNat else min (-1 : Int).toNat (xs ++ [v]).length) = _
    rw [if_pos (by omega), List.length_append]
    show (-1 + ((xs.length + 1 : Nat) : Int)).toNat = xs.length
    omega
  rw [e, HT.sIx_none, List.drop_zero, Nat.sub_zero, List.take_left]
def isBook (w : Str) : Bool := decide (w = Str.ofString "book")
def thingM (w : Str) (ch : Bool) (zs lines : List Str) : Option Nat := if isBook w = true then bookM ch zs 0 [] lines else storeM ch zs 0 (-1) lines
def gThing (w : Str) (ch : Bool) (zs lines : List Str) : Bool := if isBook w = true then gBook ch zs lines else gStore ch zs lines
def restM (rest : Str) (n : Nat) : Option Nat → Option Nat
  | some k => some k
  | none => if rest = Str.ofString "" then none else some n
def readQ (lines : List Str) (rest : Str) (n : Nat) : Option (Str × List Str × Bool) → Option Nat
  | none => some 1
  | some (w, zs, ch) => restM rest n (thingM w ch zs lines)
def readP (lines : List Str) (rest : Str) : Option Nat := match lines with
  | [] => some 1
  | l :: r => readQ (l :: r) rest (r.length + 2) (headM l)
def gReadQ (lines : List Str) (rest : Str) : Option (Str × List Str × Bool) → Bool
  | none => true
  | some (w, zs, ch) => gThing w ch zs lines && (!isBook w || (restM rest 0 (thingM w ch zs lines)).isSome)
def gReadP (lines : List Str) (rest : Str) : Bool := match lines with
  | [] => true
  | l :: r => gHead l && gReadQ (l :: r) rest (headM l)
/-- the line at which a text fails -/
def readM (t : Str) : Option Nat := readP (Txt.split t (Str.ofString "\n")).dropLast ((Txt.split t (Str.ofString "\n")).getLastD Str.empty)
def gRead (t : Str) : Bool := decide (t.length ≤ 10000) && (!(Txt.split t (Str.ofString "\n")).isEmpty && (decide ((Txt.split t (Str.ofString "\n")).length ≤ 1000) && gReadP (Txt.split t (Str.ofString "\n")).dropLast ((Txt.split t (Str.ofString "\n")).getLastD Str.empty)))
def headOf (t : Str) : Option (Str × List Str × Bool) := match (Txt.split t (Str.ofString "\n")).dropLast with
  | [] => none
  | l :: _ => headM l
theorem headM_ok {line w : Str} {zs : List Str} {ch : Bool} (h : headM line = some (w, zs, ch)) : (w = Str.ofString "store" ∨ w = Str.ofString "book") ∧ (∀ z ∈ zs, isNameS z = true) ∧ zs.length ≤ mostFor ch ∧ zs.Nodup := by
  unfold headM headR at h
  generalize (if isCh (Txt.split line (Str.ofString " ")) then (Txt.split line (Str.ofString " ")).drop 1 else Txt.split line (Str.ofString " ")) = ps at h
  generalize isCh (Txt.split line (Str.ofString " ")) = c at h
  cases ps with
  | nil => cases h
  | cons a r =>
    have e : headQ c (a :: r) = if a = Str.ofString "store" ∨ a = Str.ofString "book" then (if (wrongOf (some (r.map V.str)) (mostFor c)).isNone then some (a, r, c) else none) else none := rfl
    rw [e] at h
    by_cases c1 : a = Str.ofString "store" ∨ a = Str.ofString "book"
    · rw [if_pos c1] at h
      cases hw : wrongOf (some (r.map V.str)) (mostFor c) with
      | some i => rw [hw] at h; cases h
      | none =>
        rw [hw] at h
        cases h
        obtain ⟨zs', e1, _, e3, e4, e5⟩ := right_names hw
        have e1 := str_map_inj (Option.some.inj e1)
        subst e1
        exact ⟨c1, e3, e4, e5⟩
    · rw [if_neg c1] at h; cases h
/-- read(text) -/
def spRead (K : PySem.W.Frag) (C CS CX : Addr) : Sp := fun vs H Q E => ∃ t : Str, vs = [.str t] ∧ gRead t = true ∧ (∀ n, readM t = some n → ∀ H0, Same H H0 → ∀ d H', ExcAt H0 d "line" (.int (n : Int)) H' → E (.ref CX) (some d) H') ∧
  (readM t = none → ∀ w zs ch, headOf t = some (w, zs, ch) → ∀ s x sz H', Same H H' → StoreAt K C CS H' s x zs ch sz → Q (.ref s) H')
section
variable {P : Program} {w : World} {K : PySem.W.Frag} {mg : Str → Option Value} {base : Heap}
theorem scRead : FnScope ["text", "parts", "lines", "rest", "head", "word", "folders", "thing"] ["text"] (defScope (topS 73)) := ⟨rfl, rfl, rfl, by decide +kernel, rfl, by decide +kernel, by decide +kernel⟩
theorem ok_read (B : Bi mg) {C CS CQ CB CX fX f f1 f2 f3 : Addr} {fdX fd fd1 fd2 fd3 : FuncData} (T_BadText : ExT K mg "BadText" CX fX "line") (G_BadText : FnOk P w K mg base CX0 1 fX fdX ["self", "line"] (spExcInit CX "line")) (b_BadText : Binds K fdX ["self", "line"] [])
    (c_head_told : Cal P w K mg base CX0 5 "head_told" f1 fd1 ["line"] (spHeadT C)) (c_book_told : Cal P w K mg base (L2N.CX P w) 7 "book_told" f2 fd2 ["folders", "lines"] (spBookT C CQ CB CX)) (c_store_told : Cal P w K mg base (L2N.CX P w) 6 "store_told" f3 fd3 ["folders", "lines"] (spStoreT K C CS CX))
    (F : Fun K "read" "read" (topS 73) f fd) : FnOk P w K mg base (L2N.CX P w) 8 f fd ["text"] (spRead K C CS CX) := by
  refine Fun.okN F scRead (fun vs H Q E h => ?_) (fun cdv A outer s H vs Q E hr h => ?_)
  · obtain ⟨t, rfl, _⟩ := h
    rfl
  · obtain ⟨t, rfl, g, qe, qs⟩ := h
    have nd := scRead.nd
    have hu := hu_of hr
    have sl : sizeLine = 16777216 := sizeLine_eq
    have hr_book_told := hr
    have hr_store_told : Room 6 _ := hr.mono (by decide)
    have hr_head_told : Room 5 _ := hr.mono (by decide)
    have hrE : Room 2 _ := hr.mono (by decide)
    refine ⟨_, (Evl.pss_cut (ps_set (i := 1) nd rfl (Or.inl rfl) (pe_split (pv 0) pe_str))
      (Evl.pss_cut (ps_par (i := 2) (j := 3) rfl nd rfl rfl (by decide) rfl rfl (pa_cons (pe_slice (kSlL K) (pv 1) po_none (po_some (pe_un un_neg pe_int))) (pa_cons (pe_ix (kIxL K) (pv 1) (pe_un un_neg pe_int) (fun _ _ => rfl)) pa_nil)) (by rfl))
      (Evl.pss_cut (ps_set (i := 4) nd rfl (Or.inl rfl) (pe_ifExp (pt_cmpR op_gt (pe_callB (kLen K) (by rfl) B.len PySem.boot_len (pa_cons (pv 2) pa_nil)) pe_int (nomark _)) (pe_call c_head_told.ok hr_head_told (by rfl) c_head_told.g c_head_told.kp c_head_told.b .nil pass0 (pa_cons (pe_ix (kIxL K) (pv 2) pe_int (fun _ _ => rfl)) pa_nil)) pe_non))
      (Evl.pss_cut (ps_if (pt_cmpR op_isN (pv 4) pe_non (nomark _)) (pss_one (L2N.ps_raise rfl (L2N.takes_of rfl rfl rfl rfl) (pmk_oexN T_BadText.o T_BadText.iC T_BadText.tI G_BadText hrE b_BadText pass0 (by rfl) T_BadText.g (pa_cons pe_int pa_nil)))) pss_nil)
      (Evl.pss_cut (ps_asg (pv 4) (kTg K 2 rfl (pgs_cons (pg_name (i := 5) nd rfl (Or.inl rfl)) (pgs_cons (pg_name (i := 6) nd rfl (Or.inl rfl)) pgs_nil))))
      (Evl.pss_cut (ps_set (i := 7) nd rfl (Or.inl rfl) (pe_ifExp (pt_cmpR op_eq (pv 5) pe_str (nomark _)) (pe_call c_book_told.ok hr_book_told (by rfl) c_book_told.g c_book_told.kp c_book_told.b .nil (L2N.passes_call (L2N.takes_of rfl rfl rfl rfl) (fun _ _ _ _ h => h)) (pa_cons (pv 6) (pa_cons (pv 2) pa_nil))) (pe_call c_store_told.ok hr_store_told (by rfl) c_store_told.g c_store_told.kp c_store_told.b .nil (L2N.passes_call (L2N.takes_of rfl rfl rfl rfl) (fun _ _ _ _ h => h)) (pa_cons (pv 6) (pa_cons (pv 2) pa_nil)))))
      (pss_cons (ps_if (pt_cmpR op_ne (pv 3) pe_str (nomark _)) (pss_one (L2N.ps_raise rfl (L2N.takes_of rfl rfl rfl rfl) (pmk_oexN T_BadText.o T_BadText.iC T_BadText.tI G_BadText hrE b_BadText pass0 (by rfl) T_BadText.g (pa_cons (pe_callB (kLen K) (by rfl) B.len PySem.boot_len (pa_cons (pv 1) pa_nil)) pa_nil)))) pss_nil)
      (pss_one (ps_ret (pv 7)))))))))), ?_⟩
    unfold gRead at g
    obtain ⟨g1, g⟩ := Bool.and_eq_true_iff.mp g
    obtain ⟨g2, g⟩ := Bool.and_eq_true_iff.mp g
    obtain ⟨g3, g4⟩ := Bool.and_eq_true_iff.mp g
    have g1 := of_decide_eq_true g1
    have g3 := of_decide_eq_true g3
    unfold readM at qe qs
    unfold headOf at qs
    generalize hparts : Txt.split t (Str.ofString "\n") = parts at g2 g3 g4 qe qs
    obtain ⟨lines, rest, rfl⟩ : ∃ lines rest, parts = lines ++ [rest] := by
      have : parts ≠ [] := fun e => by rw [e] at g2; cases g2
      exact ⟨parts.dropLast, parts.getLast this, (List.dropLast_concat_getLast this).symm⟩
    rw [List.dropLast_concat, List.getLastD_concat] at g4 qe qs
    refine ⟨fun σ H1 => ∃ A, σ = [some (.str t), some (.ref A), none, none, none, none, none, none] ∧ Same H H1 ∧ H1 A = some (.lst ((lines ++ [rest]).map V.str)), ?_, ?_⟩
    · refine ⟨_, rfl, ⟨t, rfl⟩, t, _, rfl, rfl, by decide +kernel, by omega, fun A nA => ?_⟩
      rw [hparts]
      exact ⟨A, rfl, same_upd nA, upd_same⟩
    rintro σ H1 ⟨A, rfl, e1, hA⟩
    rw [List.map_append] at hA
    refine ⟨fun σ H2 => ∃ L, σ = [some (.str t), some (.ref A), some (.ref L), some (.str rest), none, none, none, none] ∧ Same H1 H2 ∧ H2 L = some (.lst (lines.map V.str)), ?_, ?_⟩
    · refine ⟨_, rfl, 1, rfl, _, rfl, A, _, rfl, SqL.of hA, fun L nL => ?_⟩
      have e2 := same_upd (o := HO.lst (cutV (lines.map V.str ++ [rest].map V.str) none (some (-1)))) nL
      refine ⟨_, rfl, 1, rfl, A, _, -1, .str rest, rfl, rfl, SqL.of (e2 _ _ hA), atI_last _ _, _, _, rfl, L, rfl, e2, ?_⟩
      rw [upd_same]
      exact congrArg (fun z => some (HO.lst z)) (cut_init _ _)
    rintro σ H2 ⟨L, rfl, e12, hL⟩
    have e02 := Same.trans e1 e12
    have lln : (lines.map V.str).length = lines.length := List.length_map ..
    have lpp : ((lines ++ [rest]).map V.str).length = lines.length + 1 := by rw [List.length_map, List.length_append]; rfl
    cases lines with
    | nil =>
      refine ⟨fun σ H3 => σ = [some (.str t), some (.ref A), some (.ref L), some (.str rest), some .non, none, none, none] ∧ H2 = H3, ?_, ?_⟩
      · refine ⟨_, rfl, .ref L, 0, rfl, .inl ⟨_, SqL.of hL, rfl⟩, _, _, rfl, rfl, _, rfl, ?_⟩
        refine iteF ?_
        exact ⟨rfl, rfl⟩
      rintro σ H3 ⟨rfl, rfl⟩
      refine ⟨fun _ _ => False, ?_, fun _ _ z => z.elim⟩
      refine ⟨_, rfl, rfl, _, rfl, ?_⟩
      refine iteT ?_
      exact mkO_of (fun R hR => hR) (fun d H' hE => qe 1 rfl H2 e02 d H' hE)
    | cons l r =>
      have g4 : (gHead l && gReadQ (l :: r) rest (headM l)) = true := g4
      obtain ⟨gh, gq⟩ := Bool.and_eq_true_iff.mp g4
      have qe : ∀ n, readQ (l :: r) rest (r.length + 2) (headM l) = some n → ∀ H0, Same H H0 → ∀ d H', ExcAt H0 d "line" (.int (n : Int)) H' → E (.ref CX) (some d) H' := qe
      have qs : readQ (l :: r) rest (r.length + 2) (headM l) = none → ∀ w zs ch, headM l = some (w, zs, ch) → ∀ s x sz H', Same H H' → StoreAt K C CS H' s x zs ch sz → Q (.ref s) H' := qs
      refine ⟨fun σ H3 => ∃ u, σ = [some (.str t), some (.ref A), some (.ref L), some (.str rest), some u, none, none, none] ∧ Same H2 H3 ∧ ((headM l = none ∧ u = .non) ∨ ∃ w zs ch p x, headM l = some (w, zs, ch) ∧ u = .ref p ∧ H3 p = some (.tup [.str w, .ref x]) ∧ FoldersAt C H3 x zs ch), ?_, ?_⟩
      · refine ⟨_, rfl, .ref L, (l :: r).length, rfl, .inl ⟨_, SqL.of hL, lln.symm⟩, _, _, rfl, rfl, _, rfl, ?_⟩
        refine if_so (decide_eq_true (by rw [List.length_cons]; omega)) ?_
        refine ⟨_, rfl, L, _, 0, .str l, rfl, rfl, SqL.of hL, atI_nat (j := 0) rfl, l, rfl, gh, fun hn H3 e3 => ?_, fun w zs ch hh p x H3 e3 hp FA => ?_⟩
        · exact ⟨_, rfl, e3, .inl ⟨hn, rfl⟩⟩
        · exact ⟨_, rfl, e3, .inr ⟨w, zs, ch, p, x, hh, rfl, hp, FA⟩⟩
      rintro σ H3 ⟨u, rfl, e23, hu3⟩
      have e03 := Same.trans e02 e23
      rcases hu3 with ⟨hh, rfl⟩ | ⟨w, zs, ch, p, x, hh, rfl, hp, FA⟩
      · rw [hh] at qe
        refine ⟨fun _ _ => False, ?_, fun _ _ z => z.elim⟩
        refine ⟨_, rfl, rfl, _, rfl, ?_⟩
        refine iteT ?_
        exact mkO_of (fun R hR => hR) (fun d H' hE => qe 1 rfl H3 e03 d H' hE)
      · obtain ⟨hw, nm, lz, nz⟩ := headM_ok hh
        have qs := fun h => qs h w zs ch hh
        rw [hh] at qe gq qs
        have qe : ∀ n, restM rest (r.length + 2) (thingM w ch zs (l :: r)) = some n → ∀ H0, Same H H0 → ∀ d H', ExcAt H0 d "line" (.int (n : Int)) H' → E (.ref CX) (some d) H' := qe
        have qs : restM rest (r.length + 2) (thingM w ch zs (l :: r)) = none → ∀ s x sz H', Same H H' → StoreAt K C CS H' s x zs ch sz → Q (.ref s) H' := qs
        have gq : (gThing w ch zs (l :: r) && (!isBook w || (restM rest 0 (thingM w ch zs (l :: r))).isSome)) = true := gq
        obtain ⟨gt, gb⟩ := Bool.and_eq_true_iff.mp gq
        refine ⟨fun σ H4 => σ = [some (.str t), some (.ref A), some (.ref L), some (.str rest), some (.ref p), none, none, none] ∧ H3 = H4, ?_, ?_⟩
        · refine ⟨_, rfl, rfl, _, rfl, ?_⟩
          refine iteF ?_
          exact ⟨rfl, rfl⟩
        rintro σ H4 ⟨rfl, rfl⟩
        refine ⟨fun σ H4 => σ = [some (.str t), some (.ref A), some (.ref L), some (.str rest), some (.ref p), some (.str w), some (.ref x), none] ∧ H3 = H4, ?_, ?_⟩
        · exact ⟨_, rfl, p, _, rfl, SqT.of hp, rfl, _, _, rfl, _, _, rfl, rfl, rfl, rfl⟩
        rintro σ H4 ⟨rfl, rfl⟩
        have hL3 := e23 _ _ hL
        have hA3 := (Same.trans e12 e23) _ _ hA
        -- what follows
        have go : ∀ (v : V) (H5 : Hp), Same H3 H5 → thingM w ch zs (l :: r) = none → (rest = Str.ofString "" → Q v H5) → tSeq (tIfS (tTest (tOp rNe (tVar 3) (tC (V.str (Str.ofString ""))))) (fun x σ H => tMkO CX (spExcInit CX (Str.ofString "line")) [] (tCons (tCB (rLn K) (tCons (tVar 1) tNil)) tNil) σ H fun cls d H' => E cls d H') tNext) (tRet (tVar 7)) { nx := fun x H' => Q V.non H', rt := Q } [some (.str t), some (.ref A), some (.ref L), some (.str rest), some (.ref p), some (.str w), some (.ref x), some v] H5 := fun v H5 e5 ht qv => by
          rw [ht] at qe
          have qe : ∀ n, (if rest = Str.ofString "" then none else some (r.length + 2)) = some n → ∀ H0, Same H H0 → ∀ d H', ExcAt H0 d "line" (.int (n : Int)) H' → E (.ref CX) (some d) H' := qe
          refine ⟨_, rfl, rfl, _, rfl, ?_⟩
          by_cases hr : rest = Str.ofString ""
          · refine if_no (by rw [hr]; rfl) ?_
            exact ⟨_, rfl, qv hr⟩
          · rw [if_neg hr] at qe
            have nr : ¬ V.str rest = V.str (Str.ofString "") := fun e => hr (by injection e)
            refine if_so (by rw [decide_eq_false nr]; rfl) ?_
            exact mkO_of (fun R hR => ⟨_, rfl, .ref A, r.length + 2, rfl, .inl ⟨_, SqL.of (e5 _ _ hA3), by simp⟩, hR⟩) (fun d H' hE => qe (r.length + 2) rfl H5 (Same.trans e03 e5) d H' hE)
        refine ⟨fun σ H5 => ∃ v, σ = [some (.str t), some (.ref A), some (.ref L), some (.str rest), some (.ref p), some (.str w), some (.ref x), some v] ∧ Same H3 H5 ∧ thingM w ch zs (l :: r) = none ∧ (rest = Str.ofString "" → Q v H5), ?_, ?_⟩
        · refine ⟨_, rfl, rfl, _, rfl, ?_⟩
          by_cases hb : w = Str.ofString "book"
          · have hib : isBook w = true := decide_eq_true hb
            have et : thingM w ch zs (l :: r) = bookM ch zs 0 [] (l :: r) := if_pos hib
            have eg : gThing w ch zs (l :: r) = gBook ch zs (l :: r) := if_pos hib
            rw [eg] at gt
            rw [et] at qe qs gb ⊢
            refine if_so (by rw [hb]; rfl) ?_
            refine ⟨_, rfl, _, rfl, x, L, l :: r, zs, ch, rfl, FA, nz, lz, nm, hL3, gt, fun n hn H0 e0 d H' hE => qe n (by rw [hn]; rfl) H0 (Same.trans e03 e0) d H' hE, fun hn b H' e' => ⟨_, rfl, e', hn, fun hr => ?_⟩⟩
            rw [hn, hib, hr] at gb
            cases gb
          · have hib : isBook w = false := decide_eq_false hb
            have hb' : ¬ isBook w = true := by rw [hib]; exact Bool.false_ne_true
            have et : thingM w ch zs (l :: r) = storeM ch zs 0 (-1) (l :: r) := if_neg hb'
            have eg : gThing w ch zs (l :: r) = gStore ch zs (l :: r) := if_neg hb'
            rw [eg] at gt
            rw [et] at qe qs ⊢
            have nb : ¬ V.str w = V.str (Str.ofString "book") := fun e => hb (by injection e)
            refine if_no (decide_eq_false nb) ?_
            refine ⟨_, rfl, _, rfl, x, L, l :: r, zs, ch, rfl, FA, nz, lz, hL3, gt, fun n hn H0 e0 d H' hE => qe n (by rw [hn]; rfl) H0 (Same.trans e03 e0) d H' hE, fun hn s sz H' e' SA => ⟨_, rfl, e', hn, fun hr => ?_⟩⟩
            exact qs (by rw [hn]; exact if_pos hr) s x sz H' (Same.trans e03 e') SA
        rintro σ H5 ⟨v, rfl, e35, ht, qv⟩
        exact go v H5 e35 ht qv
end
end Bk

namespace Bk
open PySem PySem.Spec PyProof.Rows L2 LamX
theorem takesN {X : Cx} : L2N.Takes X (fun _ _ _ _ => False) := fun _ _ x => by
  obtain ⟨_, _, _, _, _, _, _, _, _, _, _, _, _, _, _, _, z⟩ := x
  exact z.elim
def okT (t : Str) (n : Nat) : Bool := gRead t && decide (readM t = some n)
/-- _law_tried(text), which fails at a line -/
def spTriedT : Sp := fun vs H Q _ => ∃ (t : Str) (n : Nat), vs = [.str t] ∧ okT t n = true ∧ ∀ p H', H p = none → Same H H' → H' p = some (.tup [.str (Str.ofString "line"), .int (n : Int)]) → Q (.ref p) H'
/-- a list of texts -/
def spTexts (L : List Str) : Sp := fun vs H Q _ => vs = [] ∧ ∀ a H', H a = none → Same H H' → H' a = some (.lst (L.map V.str)) → Q (.ref a) H'
def headsL0 : List Str := [Str.ofString "", Str.ofString " ", Str.ofString "store", Str.ofString "book", Str.ofString "chained", Str.ofString "chained store", Str.ofString "stores a", Str.ofString "store  a", Str.ofString "store a ", Str.ofString " store a"]
def headsL1 : List Str := [Str.ofString "store a a", Str.ofString "store A", Str.ofString "store abcdefghi", Str.ofString "store a+b", Str.ofString "chain store a", Str.ofString "book a,b", Str.ofString "Store a"]
def headsL2 : List Str := [Str.ofString "chained store a b c d e f g h i j k l m", Str.ofString "chained book z a b c d e f g h i j k l"]
def headsL3 : List Str := [Str.ofString "store a b c d e f", Str.ofString "chained chained store a", Str.ofString "chained store a b a", Str.ofString "chained book", Str.ofString "store -"]
def headsL : List Str := (((headsL0 ++ headsL1) ++ headsL2) ++ headsL3)
def slinesL0 : List Str := [Str.ofString "", Str.ofString "a", Str.ofString "c", Str.ofString "c ", Str.ofString " c 1", Str.ofString "c  1", Str.ofString "c 1 ", Str.ofString "c 0", Str.ofString "c -1", Str.ofString "c 1/1", Str.ofString "c 2/4", Str.ofString "c 1/0", Str.ofString "c 1/-2", Str.ofString "c 01"]
def slinesL1 : List Str := [Str.ofString "c +1", Str.ofString "c 1/02", Str.ofString "c 1/2/3", Str.ofString "c /2", Str.ofString "c 1/", Str.ofString "c x", Str.ofString "d 1", Str.ofString "a 1", Str.ofString "b 5", Str.ofString "b+a 1", Str.ofString "a+ 1", Str.ofString "+a 1"]
def slinesL2 : List Str := [Str.ofString "c+c 1", Str.ofString "a+b+c+a 1", Str.ofString "a,b 1", Str.ofString "c 1.5", Str.ofString "c -", Str.ofString "store a b c", Str.ofString "1 c", Str.ofString "c 1 2", Str.ofString "- 1", Str.ofString "c 1/2 "]
def slinesL : List Str := ((slinesL0 ++ slinesL1) ++ slinesL2)
def blinesL0 : List Str := [Str.ofString "", Str.ofString "1", Str.ofString "1 ", Str.ofString "- -", Str.ofString "- - 1:a", Str.ofString "5 4 1:a", Str.ofString "01 - 1:a", Str.ofString "1 +2 1:a", Str.ofString "1 2 0:a", Str.ofString "1 2 a", Str.ofString "1 2 1:", Str.ofString "1 2 :a"]
def blinesL1 : List Str := [Str.ofString "1 2 1:b 1:a", Str.ofString "1 2 1:a 1:a", Str.ofString "1 2 1:b+a", Str.ofString "1 2 1:d", Str.ofString "1  2 1:a", Str.ofString "1 2 1:a "]
def blinesL2 : List Str := [Str.ofString " 1 2 1:a", Str.ofString "x 2 1:a"]
def blinesL3 : List Str := [Str.ofString "1 2 1:a:b", Str.ofString "1 2 1/2:a", Str.ofString "1/2 2 1:a", Str.ofString "- 9 1:a 1:a+b", Str.ofString "0 0 2:c", Str.ofString "1 2 -0:a", Str.ofString "-0 2 1:a"]
def blinesL4 : List Str := [Str.ofString "1 2 3:a+a", Str.ofString "- 7 2:c", Str.ofString "1 2 1:A", Str.ofString "1 2 1:a,1:b", Str.ofString "book a b c", Str.ofString "1 2 1:a 2"]
def blinesL : List Str := ((((blinesL0 ++ blinesL1) ++ blinesL2) ++ blinesL3) ++ blinesL4)
section
variable {P : Program} {w : World} {K : PySem.W.Frag} {mg : Str → Option Value} {base : Heap}
theorem scTriedT : FnScope ["_law_written", "e"] ["_law_written"] (defScope (topS 91)) := ⟨rfl, rfl, rfl, by decide +kernel, rfl, by decide +kernel, by decide +kernel⟩
theorem ok_triedT (B : Bi mg) {C CS CX fX f f1 : Addr} {fd fd1 : FuncData} (TX : ExT K mg "BadText" CX fX "line") (c_read : Cal P w K mg base (L2N.CX P w) 8 "read" f1 fd1 ["text"] (spRead K C CS CX))
    (F : Fun K "_law_tried" "_law_tried" (topS 91) f fd) : FnOk P w K mg base CX0 9 f fd ["_law_written"] spTriedT := by
  refine F.ok scTriedT (fun vs H Q E h => ?_) (fun cdv A outer s H vs Q E hr h => ?_)
  · obtain ⟨t, n, rfl, _⟩ := h
    rfl
  · obtain ⟨t, n, rfl, g, q⟩ := h
    have nd := scTriedT.nd
    have hu := hu_of hr
    obtain ⟨g1, g2⟩ := Bool.and_eq_true_iff.mp g
    have g2 := of_decide_eq_true g2
    refine ⟨_, pss_one (L2N.ps_try_as (i := 1) (tb := fun W => tRet (tTup (tCons (tC (.str (Str.ofString "told"))) (tCons (tCallSD (spRead K C CS CX) [] (WE W) (tCons (tVar 0) tNil)) tNil))))
      (ts := fun a cls d => tRet (tTup (tCons (tC (.str (Str.ofString "line"))) (tCons (tXf a cls d CX "line" (tVar 1)) tNil)))) (Wout := fun _ _ _ _ => False) rfl rfl nd rfl rfl ⟨rfl, by decide, Or.inl TX.g⟩ takesN
      (fun W pn xe tk _ => pss_one (ps_ret (by exact (pe_tup (pa_cons pe_str (pa_cons (pe_callSD c_read.ok hr (by rfl) c_read.g c_read.kp c_read.b .nil (fun σ => L2N.passAt tk σ) (pa_cons (pv 0) pa_nil)) pa_nil))))))
      (fun a oe cls d pn hz hf => pss_one (ps_ret (by exact (pe_tup (pa_cons pe_str (pa_cons (pe_xf TX.xf TX.noF hz.zc hf (pv 1)) pa_nil))))))), ?_⟩
    refine ⟨_, rfl, t, rfl, g1, fun k hk H0 e0 d H' hE => ?_, fun hn => ?_⟩
    · rw [g2] at hk
      have hk := (Option.some.inj hk).symm
      subst hk
      obtain ⟨nd1, e1, hd⟩ := hE
      refine ⟨true, TX.te, fun _ a na => ⟨_, rfl, rfl, rfl, d, _, _, rfl, hd, rfl, ?_⟩, fun z => by cases z⟩
      refine ⟨by show 2 ≤ sizeLine; decide, fun p np => ?_⟩
      have e2 := Same.trans e0 e1
      exact q p _ (e2.free np) (Same.grow e2 (e2.free np)) upd_same
    · rw [g2] at hn
      cases hn
theorem scHeads : FnScope ["_law_found"] [] (defScope (topS 88)) := ⟨rfl, rfl, rfl, by decide +kernel, rfl, by decide +kernel, by decide +kernel⟩
theorem scSLines : FnScope ["_law_found"] [] (defScope (topS 89)) := ⟨rfl, rfl, rfl, by decide +kernel, rfl, by decide +kernel, by decide +kernel⟩
theorem scBLines : FnScope ["_law_found"] [] (defScope (topS 90)) := ⟨rfl, rfl, rfl, by decide +kernel, rfl, by decide +kernel, by decide +kernel⟩
theorem ok_heads (B : Bi mg) {f : Addr} {fd : FuncData} (F : Fun K "_law_bad_heads" "_law_bad_heads" (topS 88) f fd) : FnOk P w K mg base CX0 1 f fd [] (spTexts headsL) := by
  refine F.ok scHeads (fun vs H Q E h => ?_) (fun cdv A outer s H vs Q E hr h => ?_)
  · obtain ⟨rfl, _⟩ := h
    rfl
  · obtain ⟨rfl, q⟩ := h
    have nd := scHeads.nd
    have sl : sizeLine = 16777216 := sizeLine_eq
    refine ⟨_, (Evl.pss_cut (ps_set (i := 0) nd rfl (Or.inl rfl) (pe_lst (pa_cons pe_str (pa_cons pe_str (pa_cons pe_str (pa_cons pe_str (pa_cons pe_str (pa_cons pe_str (pa_cons pe_str (pa_cons pe_str (pa_cons pe_str (pa_cons pe_str pa_nil))))))))))))
      (Evl.pss_cut (ps_set (i := 0) nd rfl (Or.inl rfl) (pe_op op_cat (pv 0) (pe_lst (pa_cons pe_str (pa_cons pe_str (pa_cons pe_str (pa_cons pe_str (pa_cons pe_str (pa_cons pe_str (pa_cons pe_str pa_nil))))))))))
      (Evl.pss_cut (ps_set (i := 0) nd rfl (Or.inl rfl) (pe_op op_cat (pv 0) (pe_lst (pa_cons pe_str (pa_cons pe_str pa_nil)))))
      (pss_one (ps_ret (pe_op op_cat (pv 0) (pe_lst (pa_cons pe_str (pa_cons pe_str (pa_cons pe_str (pa_cons pe_str (pa_cons pe_str pa_nil)))))))))))), ?_⟩
    refine ⟨fun σ H1 => ∃ a, σ = [some (.ref a)] ∧ H a = none ∧ Same H H1 ∧ H1 a = some (.lst (headsL0.map V.str)), ?_, ?_⟩
    · exact ⟨by show 10 ≤ sizeLine; decide, fun a na => ⟨a, rfl, na, same_upd na, upd_same⟩⟩
    rintro σ H1 ⟨a1, rfl, na1, e1, ha1⟩
    refine ⟨fun σ H2 => ∃ a, σ = [some (.ref a)] ∧ H a = none ∧ Same H H2 ∧ H2 a = some (.lst ((headsL0 ++ headsL1).map V.str)), ?_, ?_⟩
    · exact ⟨_, rfl, by show 7 ≤ sizeLine; decide, fun p np => ⟨a1, p, _, _, rfl, rfl, (same_upd np) _ _ ha1, upd_same, by rw [sl]; exact Nat.le_trans (Nat.le_of_eq rfl) (show 17 ≤ 16777216 by decide), fun a na => ⟨a, rfl, e1.free ((same_upd np).free na), Same.trans e1 (Same.trans (same_upd np) (same_upd na)), by rw [upd_same, List.map_append]; rfl⟩⟩⟩
    rintro σ H2 ⟨a2, rfl, na2, e2, ha2⟩
    refine ⟨fun σ H3 => ∃ a, σ = [some (.ref a)] ∧ H a = none ∧ Same H H3 ∧ H3 a = some (.lst (((headsL0 ++ headsL1) ++ headsL2).map V.str)), ?_, ?_⟩
    · exact ⟨_, rfl, by show 2 ≤ sizeLine; decide, fun p np => ⟨a2, p, _, _, rfl, rfl, (same_upd np) _ _ ha2, upd_same, by rw [sl]; exact Nat.le_trans (Nat.le_of_eq rfl) (show 19 ≤ 16777216 by decide), fun a na => ⟨a, rfl, e2.free ((same_upd np).free na), Same.trans e2 (Same.trans (same_upd np) (same_upd na)), by rw [upd_same, List.map_append]; rfl⟩⟩⟩
    rintro σ H3 ⟨a3, rfl, na3, e3, ha3⟩
    exact ⟨_, rfl, by show 5 ≤ sizeLine; decide, fun p np => ⟨a3, p, _, _, rfl, rfl, (same_upd np) _ _ ha3, upd_same, by rw [sl]; exact Nat.le_trans (Nat.le_of_eq rfl) (show 24 ≤ 16777216 by decide), fun a na => q a _ (e3.free ((same_upd np).free na)) (Same.trans e3 (Same.trans (same_upd np) (same_upd na))) (by rw [upd_same]; unfold headsL; rw [List.map_append]; rfl)⟩⟩
theorem ok_slines (B : Bi mg) {f : Addr} {fd : FuncData} (F : Fun K "_law_bad_store_lines" "_law_bad_store_lines" (topS 89) f fd) : FnOk P w K mg base CX0 1 f fd [] (spTexts slinesL) := by
  refine F.ok scSLines (fun vs H Q E h => ?_) (fun cdv A outer s H vs Q E hr h => ?_)
  · obtain ⟨rfl, _⟩ := h
    rfl
  · obtain ⟨rfl, q⟩ := h
    have nd := scSLines.nd
    have sl : sizeLine = 16777216 := sizeLine_eq
    refine ⟨_, (Evl.pss_cut (ps_set (i := 0) nd rfl (Or.inl rfl) (pe_lst (pa_cons pe_str (pa_cons pe_str (pa_cons pe_str (pa_cons pe_str (pa_cons pe_str (pa_cons pe_str (pa_cons pe_str (pa_cons pe_str (pa_cons pe_str (pa_cons pe_str (pa_cons pe_str (pa_cons pe_str (pa_cons pe_str (pa_cons pe_str pa_nil))))))))))))))))
      (Evl.pss_cut (ps_set (i := 0) nd rfl (Or.inl rfl) (pe_op op_cat (pv 0) (pe_lst (pa_cons pe_str (pa_cons pe_str (pa_cons pe_str (pa_cons pe_str (pa_cons pe_str (pa_cons pe_str (pa_cons pe_str (pa_cons pe_str (pa_cons pe_str (pa_cons pe_str (pa_cons pe_str (pa_cons pe_str pa_nil)))))))))))))))
      (pss_one (ps_ret (pe_op op_cat (pv 0) (pe_lst (pa_cons pe_str (pa_cons pe_str (pa_cons pe_str (pa_cons pe_str (pa_cons pe_str (pa_cons pe_str (pa_cons pe_str (pa_cons pe_str (pa_cons pe_str (pa_cons pe_str pa_nil)))))))))))))))), ?_⟩
    refine ⟨fun σ H1 => ∃ a, σ = [some (.ref a)] ∧ H a = none ∧ Same H H1 ∧ H1 a = some (.lst (slinesL0.map V.str)), ?_, ?_⟩
    · exact ⟨by show 14 ≤ sizeLine; decide, fun a na => ⟨a, rfl, na, same_upd na, upd_same⟩⟩
    rintro σ H1 ⟨a1, rfl, na1, e1, ha1⟩
    refine ⟨fun σ H2 => ∃ a, σ = [some (.ref a)] ∧ H a = none ∧ Same H H2 ∧ H2 a = some (.lst ((slinesL0 ++ slinesL1).map V.str)), ?_, ?_⟩
    · exact ⟨_, rfl, by show 12 ≤ sizeLine; decide, fun p np => ⟨a1, p, _, _, rfl, rfl, (same_upd np) _ _ ha1, upd_same, by rw [sl]; exact Nat.le_trans (Nat.le_of_eq rfl) (show 26 ≤ 16777216 by decide), fun a na => ⟨a, rfl, e1.free ((same_upd np).free na), Same.trans e1 (Same.trans (same_upd np) (same_upd na)), by rw [upd_same, List.map_append]; rfl⟩⟩⟩
    rintro σ H2 ⟨a2, rfl, na2, e2, ha2⟩
    exact ⟨_, rfl, by show 10 ≤ sizeLine; decide, fun p np => ⟨a2, p, _, _, rfl, rfl, (same_upd np) _ _ ha2, upd_same, by rw [sl]; exact Nat.le_trans (Nat.le_of_eq rfl) (show 36 ≤ 16777216 by decide), fun a na => q a _ (e2.free ((same_upd np).free na)) (Same.trans e2 (Same.trans (same_upd np) (same_upd na))) (by rw [upd_same]; unfold slinesL; rw [List.map_append]; rfl)⟩⟩
theorem ok_blines (B : Bi mg) {f : Addr} {fd : FuncData} (F : Fun K "_law_bad_book_lines" "_law_bad_book_lines" (topS 90) f fd) : FnOk P w K mg base CX0 1 f fd [] (spTexts blinesL) := by
  refine F.ok scBLines (fun vs H Q E h => ?_) (fun cdv A outer s H vs Q E hr h => ?_)
  · obtain ⟨rfl, _⟩ := h
    rfl
  · obtain ⟨rfl, q⟩ := h
    have nd := scBLines.nd
    have sl : sizeLine = 16777216 := sizeLine_eq
    refine ⟨_, (Evl.pss_cut (ps_set (i := 0) nd rfl (Or.inl rfl) (pe_lst (pa_cons pe_str (pa_cons pe_str (pa_cons pe_str (pa_cons pe_str (pa_cons pe_str (pa_cons pe_str (pa_cons pe_str (pa_cons pe_str (pa_cons pe_str (pa_cons pe_str (pa_cons pe_str (pa_cons pe_str pa_nil))))))))))))))
      (Evl.pss_cut (ps_set (i := 0) nd rfl (Or.inl rfl) (pe_op op_cat (pv 0) (pe_lst (pa_cons pe_str (pa_cons pe_str (pa_cons pe_str (pa_cons pe_str (pa_cons pe_str (pa_cons pe_str pa_nil)))))))))
      (Evl.pss_cut (ps_set (i := 0) nd rfl (Or.inl rfl) (pe_op op_cat (pv 0) (pe_lst (pa_cons pe_str (pa_cons pe_str pa_nil)))))
      (Evl.pss_cut (ps_set (i := 0) nd rfl (Or.inl rfl) (pe_op op_cat (pv 0) (pe_lst (pa_cons pe_str (pa_cons pe_str (pa_cons pe_str (pa_cons pe_str (pa_cons pe_str (pa_cons pe_str (pa_cons pe_str pa_nil))))))))))
      (pss_one (ps_ret (pe_op op_cat (pv 0) (pe_lst (pa_cons pe_str (pa_cons pe_str (pa_cons pe_str (pa_cons pe_str (pa_cons pe_str (pa_cons pe_str pa_nil)))))))))))))), ?_⟩
    refine ⟨fun σ H1 => ∃ a, σ = [some (.ref a)] ∧ H a = none ∧ Same H H1 ∧ H1 a = some (.lst (blinesL0.map V.str)), ?_, ?_⟩
    · exact ⟨by show 12 ≤ sizeLine; decide, fun a na => ⟨a, rfl, na, same_upd na, upd_same⟩⟩
    rintro σ H1 ⟨a1, rfl, na1, e1, ha1⟩
    refine ⟨fun σ H2 => ∃ a, σ = [some (.ref a)] ∧ H a = none ∧ Same H H2 ∧ H2 a = some (.lst ((blinesL0 ++ blinesL1).map V.str)), ?_, ?_⟩
    · exact ⟨_, rfl, by show 6 ≤ sizeLine; decide, fun p np => ⟨a1, p, _, _, rfl, rfl, (same_upd np) _ _ ha1, upd_same, by rw [sl]; exact Nat.le_trans (Nat.le_of_eq rfl) (show 18 ≤ 16777216 by decide), fun a na => ⟨a, rfl, e1.free ((same_upd np).free na), Same.trans e1 (Same.trans (same_upd np) (same_upd na)), by rw [upd_same, List.map_append]; rfl⟩⟩⟩
    rintro σ H2 ⟨a2, rfl, na2, e2, ha2⟩
    refine ⟨fun σ H3 => ∃ a, σ = [some (.ref a)] ∧ H a = none ∧ Same H H3 ∧ H3 a = some (.lst (((blinesL0 ++ blinesL1) ++ blinesL2).map V.str)), ?_, ?_⟩
    · exact ⟨_, rfl, by show 2 ≤ sizeLine; decide, fun p np => ⟨a2, p, _, _, rfl, rfl, (same_upd np) _ _ ha2, upd_same, by rw [sl]; exact Nat.le_trans (Nat.le_of_eq rfl) (show 20 ≤ 16777216 by decide), fun a na => ⟨a, rfl, e2.free ((same_upd np).free na), Same.trans e2 (Same.trans (same_upd np) (same_upd na)), by rw [upd_same, List.map_append]; rfl⟩⟩⟩
    rintro σ H3 ⟨a3, rfl, na3, e3, ha3⟩
    refine ⟨fun σ H4 => ∃ a, σ = [some (.ref a)] ∧ H a = none ∧ Same H H4 ∧ H4 a = some (.lst ((((blinesL0 ++ blinesL1) ++ blinesL2) ++ blinesL3).map V.str)), ?_, ?_⟩
    · exact ⟨_, rfl, by show 7 ≤ sizeLine; decide, fun p np => ⟨a3, p, _, _, rfl, rfl, (same_upd np) _ _ ha3, upd_same, by rw [sl]; exact Nat.le_trans (Nat.le_of_eq rfl) (show 27 ≤ 16777216 by decide), fun a na => ⟨a, rfl, e3.free ((same_upd np).free na), Same.trans e3 (Same.trans (same_upd np) (same_upd na)), by rw [upd_same, List.map_append]; rfl⟩⟩⟩
    rintro σ H4 ⟨a4, rfl, na4, e4, ha4⟩
    exact ⟨_, rfl, by show 6 ≤ sizeLine; decide, fun p np => ⟨a4, p, _, _, rfl, rfl, (same_upd np) _ _ ha4, upd_same, by rw [sl]; exact Nat.le_trans (Nat.le_of_eq rfl) (show 33 ≤ 16777216 by decide), fun a na => q a _ (e4.free ((same_upd np).free na)) (Same.trans e4 (Same.trans (same_upd np) (same_upd na))) (by rw [upd_same]; unfold blinesL; rw [List.map_append]; rfl)⟩⟩
theorem scRef : FnScope ["_law_stream", "_law_written", "_law_lines", "_law_bad", "_law_due", "_law_one", "_law_two", "_law_found"] ["_law_stream", "_law_written", "_law_lines", "_law_bad"] (defScope (topS 92)) := ⟨rfl, rfl, rfl, by decide +kernel, rfl, by decide +kernel, by decide +kernel⟩
end
end Bk

namespace Bk
open PySem PySem.Spec PyProof.Rows L2 LamX
def nl : Str := Str.ofString "\n"
def oneS (w bad : Str) : Str := w ++ bad ++ nl
def twoS (w bad l : Str) : Str := w ++ bad ++ nl ++ l ++ nl
def chk (w : Str) (lines : List Str) (bad : Str) : Bool := okT (oneS w bad) (lines.length + 1) && (lines.all (fun l => okT (twoS w bad l) (lines.length + 1)) && (okT (cutS w none (some (-1))) lines.length && decide (lines.length ≤ 1000)))
/-- _law_are_refused(stream, written, lines, bad) -/
def spRefT (K : PySem.W.Frag) : Sp := fun vs H Q _ => ∃ (st c ls : Addr) (n : Nat) (w bad : Str) (lines : List Str), vs = [.ref st, .str w, .ref ls, .str bad] ∧ Strm H st c n ∧ n ≤ 900000 ∧ H ls = some (.lst (lines.map V.str)) ∧ ls ≠ st ∧ ls ≠ c ∧ lines ≠ [] ∧ chk w lines bad = true ∧
  ∀ H', Strm H' st c (n + 1) → Kept st c H H' → Q (.bl true) H'
theorem okT_len {t : Str} {n : Nat} (h : okT t n = true) : t.length ≤ 10000 := by
  unfold okT gRead at h
  simp only [Bool.and_eq_true] at h
  exact of_decide_eq_true h.1.1
section
variable {P : Program} {w : World} {K : PySem.W.Frag} {mg : Str → Option Value} {base : Heap}
theorem ok_refT (B : Bi mg) {f f1 f2 f3 : Addr} {fd fd1 fd2 fd3 : FuncData} (c__law_tried : Cal P w K mg base CX0 9 "_law_tried" f1 fd1 ["_law_written"] spTriedT) (c__law_pick : Cal P w K mg base CX0 2 "_law_pick" f2 fd2 ["_law_stream", "_law_some"] (spPick K)) (c__law_same : Cal P w K mg base CX0 5 "_law_same" f3 fd3 ["_law_found", "_law_due"] (spSame K 4))
    (F : Fun K "_law_are_refused" "_law_are_refused" (topS 92) f fd) : FnOk P w K mg base CX0 10 f fd ["_law_stream", "_law_written", "_law_lines", "_law_bad"] (spRefT K) := by
  refine F.ok scRef (fun vs H Q E h => ?_) (fun cdv A outer s H vs Q E hr h => ?_)
  · obtain ⟨st, c, ls, n, w, bad, lines, rfl, _⟩ := h
    rfl
  · obtain ⟨st, c, ls, n, wr, bad, lines, rfl, S, hn, hls, l1, l2, ne, g, q⟩ := h
    have nd := scRef.nd
    have hu := hu_of hr
    have sl : sizeLine = 16777216 := sizeLine_eq
    have hr__law_tried := hr
    have hr__law_same : Room 5 _ := hr.mono (by decide)
    have hr__law_pick : Room 2 _ := hr.mono (by decide)
    refine ⟨_, (Evl.pss_cut (ps_set (i := 4) nd rfl (Or.inl rfl) (pe_op op_add (pe_callB (kLen K) (by rfl) B.len PySem.boot_len (pa_cons (pv 2) pa_nil)) pe_int))
      (Evl.pss_cut (ps_set (i := 5) nd rfl (Or.inl rfl) (pe_op op_add_str (pe_op op_add_str (pv 1) (pv 3)) pe_str))
      (Evl.pss_cut (ps_set (i := 6) nd rfl (Or.inl rfl) (pe_op op_add_str (pe_op op_add_str (pe_op op_add_str (pe_op op_add_str (pv 1) (pv 3)) pe_str) (pe_call c__law_pick.ok hr__law_pick (by rfl) c__law_pick.g c__law_pick.kp c__law_pick.b .nil pass0 (pa_cons (pv 0) (pa_cons (pv 2) pa_nil)))) pe_str))
      (Evl.pss_cut (ps_set (i := 7) nd rfl (Or.inl rfl) (pe_lst (pa_cons (pe_call c__law_tried.ok hr__law_tried (by rfl) c__law_tried.g c__law_tried.kp c__law_tried.b .nil pass0 (pa_cons (pv 5) pa_nil)) (pa_cons (pe_call c__law_tried.ok hr__law_tried (by rfl) c__law_tried.g c__law_tried.kp c__law_tried.b .nil pass0 (pa_cons (pv 6) pa_nil)) (pa_cons (pe_call c__law_tried.ok hr__law_tried (by rfl) c__law_tried.g c__law_tried.kp c__law_tried.b .nil pass0 (pa_cons (pe_slice sl_str (pv 1) po_none (po_some (pe_un un_neg pe_int))) pa_nil)) pa_nil)))))
      (pss_one (ps_ret (pe_call c__law_same.ok hr__law_same (by rfl) c__law_same.g c__law_same.kp c__law_same.b .nil pass0 (pa_cons (pv 7) (pa_cons (pe_lst (pa_cons (pe_tup (pa_cons pe_str (pa_cons (pv 4) pa_nil))) (pa_cons (pe_tup (pa_cons pe_str (pa_cons (pv 4) pa_nil))) (pa_cons (pe_tup (pa_cons pe_str (pa_cons (pe_callB (kLen K) (by rfl) B.len PySem.boot_len (pa_cons (pv 2) pa_nil)) pa_nil))) pa_nil)))) pa_nil))))))))), ?_⟩
    unfold chk at g
    obtain ⟨g1, g⟩ := Bool.and_eq_true_iff.mp g
    obtain ⟨g2, g⟩ := Bool.and_eq_true_iff.mp g
    obtain ⟨g3, g4⟩ := Bool.and_eq_true_iff.mp g
    have g4 := of_decide_eq_true g4
    have ap : ∀ x y : Str, (x ++ y).length = x.length + y.length := fun x y => by
      show (x.cps ++ y.cps).size = x.cps.size + y.cps.size
      exact Array.size_append
    have lln : (lines.map V.str).length = lines.length := List.length_map ..
    have lpos : 0 < lines.length := List.length_pos_iff.mpr ne
    have k1 : (oneS wr bad).length ≤ 10000 := okT_len g1
    have k2 : ∀ l ∈ lines, (twoS wr bad l).length ≤ 10000 := fun l m => okT_len (List.all_eq_true.mp g2 l m)
    unfold oneS at k1
    unfold twoS at k2
    simp only [ap] at k1 k2
    refine ⟨fun σ H1 => σ = [some (.ref st), some (.str wr), some (.ref ls), some (.str bad), some (.int ((lines.length : Int) + 1)), none, none, none] ∧ H = H1, ?_, ?_⟩
    · exact ⟨_, rfl, .ref ls, lines.length, rfl, .inl ⟨_, SqL.of hls, lln.symm⟩, _, _, rfl, rfl, rfl, rfl⟩
    rintro σ H1 ⟨rfl, rfl⟩
    refine ⟨fun σ H1 => σ = [some (.ref st), some (.str wr), some (.ref ls), some (.str bad), some (.int ((lines.length : Int) + 1)), some (.str (oneS wr bad)), none, none] ∧ H = H1, ?_, ?_⟩
    · exact ⟨_, rfl, _, rfl, _, _, rfl, rfl, by omega, _, _, rfl, rfl, by simp only [ap]; show _ + nl.length ≤ _; omega, rfl, rfl⟩
    rintro σ H1 ⟨rfl, rfl⟩
    refine ⟨fun σ H1 => ∃ l, l ∈ lines ∧ σ = [some (.ref st), some (.str wr), some (.ref ls), some (.str bad), some (.int ((lines.length : Int) + 1)), some (.str (oneS wr bad)), some (.str (twoS wr bad l)), none] ∧ Strm H1 st c (n + 1) ∧ Kept st c H H1, ?_, ?_⟩
    · refine ⟨_, rfl, _, rfl, _, _, rfl, rfl, by omega, _, _, rfl, rfl, by simp only [ap]; show _ + nl.length ≤ _; omega, ?_⟩
      refine ⟨_, rfl, _, rfl, st, c, n, (lines.map V.str).length, .ref ls, fun j => (lines.map V.str).getD j .non, rfl, S, by omega, by omega, by omega, pk_lst (SqL.of hls) l1 l2, fun j H1 hj S1 k1' => ?_⟩
      rw [lln] at hj
      have hl : (lines.map V.str).getD j .non = .str lines[j] := by
        rw [List.getD_eq_getElem?_getD, List.getElem?_map, List.getElem?_eq_getElem hj]
        rfl
      have m : lines[j] ∈ lines := List.getElem_mem hj
      have kk := k2 _ m
      refine ⟨_, _, rfl, hl, ?_⟩
      exact ⟨ by simp only [ap]; show _ + nl.length + _ ≤ _; omega, _, _, rfl, rfl, by simp only [ap]; show _ + nl.length + _ + nl.length ≤ _; omega, lines[j], m, rfl, S1, k1'⟩
    rintro σ H1 ⟨l, ml, rfl, S1, k01⟩
    have g2 := List.all_eq_true.mp g2 l ml
    have hls1 := k01 _ _ l1 l2 hls
    have dLine : ∀ (H : Hp) (p : Addr) (i : Int), H p = some (.tup [.str (Str.ofString "line"), .int i]) → Dp K H (.ref p) (.tuple [.str (Str.ofString "line"), .int i]) := fun H p i h => .tup (SqT.of h) (.cons (.str _) (.cons (.int _) .nil))
    have d1 : ((lines.length + 1 : Nat) : Int) = (lines.length : Int) + 1 := by omega
    refine ⟨fun σ H2 => ∃ L p1 p2 p3, σ = [some (.ref st), some (.str wr), some (.ref ls), some (.str bad), some (.int ((lines.length : Int) + 1)), some (.str (oneS wr bad)), some (.str (twoS wr bad l)), some (.ref L)] ∧ Same H1 H2 ∧ H2 L = some (.lst [.ref p1, .ref p2, .ref p3]) ∧ Dp K H2 (.ref p1) (.tuple [.str (Str.ofString "line"), .int ((lines.length : Int) + 1)]) ∧ Dp K H2 (.ref p2) (.tuple [.str (Str.ofString "line"), .int ((lines.length : Int) + 1)]) ∧ Dp K H2 (.ref p3) (.tuple [.str (Str.ofString "line"), .int (lines.length : Int)]), ?_, ?_⟩
    · refine ⟨_, rfl, oneS wr bad, lines.length + 1, rfl, g1, fun p1 H2 np1 e2 hp1 => ?_⟩
      refine ⟨_, rfl, twoS wr bad l, lines.length + 1, rfl, g2, fun p2 H3 np2 e3 hp2 => ?_⟩
      refine ⟨_, rfl, 1, rfl, _, rfl, wr, rfl, by omega, cutS wr none (some (-1)), lines.length, rfl, g3, fun p3 H4 np3 e4 hp3 => ?_⟩
      refine ⟨by show 3 ≤ sizeLine; decide, fun L nL => ?_⟩
      have e5 := same_upd (o := HO.lst [.ref p1, .ref p2, .ref p3]) nL
      rw [d1] at hp1 hp2
      exact ⟨L, p1, p2, p3, rfl, Same.trans e2 (Same.trans e3 (Same.trans e4 e5)), upd_same, dLine _ _ _ ((Same.trans e3 (Same.trans e4 e5)) _ _ hp1), dLine _ _ _ ((Same.trans e4 e5) _ _ hp2), dLine _ _ _ (e5 _ _ hp3)⟩
    rintro σ H2 ⟨L, p1, p2, p3, rfl, e12, hL, D1, D2, D3⟩
    have hls2 := e12 _ _ hls1
    refine ⟨_, rfl, _, rfl, by show 2 ≤ sizeLine; decide, fun t1 nt1 => ?_⟩
    have e3 := same_upd (o := HO.tup [.str (Str.ofString "line"), .int ((lines.length : Int) + 1)]) nt1
    have ht1 : upd H2 t1 (.tup [.str (Str.ofString "line"), .int ((lines.length : Int) + 1)]) t1 = some (.tup [.str (Str.ofString "line"), .int ((lines.length : Int) + 1)]) := upd_same
    generalize upd H2 t1 (.tup [.str (Str.ofString "line"), .int ((lines.length : Int) + 1)]) = H3 at e3 ht1 ⊢
    refine ⟨_, rfl, by show 2 ≤ sizeLine; decide, fun t2 nt2 => ?_⟩
    have e4 := same_upd (o := HO.tup [.str (Str.ofString "line"), .int ((lines.length : Int) + 1)]) nt2
    have ht2 : upd H3 t2 (.tup [.str (Str.ofString "line"), .int ((lines.length : Int) + 1)]) t2 = some (.tup [.str (Str.ofString "line"), .int ((lines.length : Int) + 1)]) := upd_same
    generalize upd H3 t2 (.tup [.str (Str.ofString "line"), .int ((lines.length : Int) + 1)]) = H4 at e4 ht2 ⊢
    have e24 := Same.trans e3 e4
    refine ⟨_, rfl, .ref ls, lines.length, rfl, .inl ⟨_, SqL.of (e24 _ _ hls2), lln.symm⟩, by show 2 ≤ sizeLine; decide, fun t3 nt3 => ?_⟩
    have e5 := same_upd (o := HO.tup [.str (Str.ofString "line"), .int (lines.length : Int)]) nt3
    have ht3 : upd H4 t3 (.tup [.str (Str.ofString "line"), .int (lines.length : Int)]) t3 = some (.tup [.str (Str.ofString "line"), .int (lines.length : Int)]) := upd_same
    generalize upd H4 t3 (.tup [.str (Str.ofString "line"), .int (lines.length : Int)]) = H5 at e5 ht3 ⊢
    refine ⟨by show 3 ≤ sizeLine; decide, fun M nM => ?_⟩
    have e6 := same_upd (o := HO.lst [.ref t1, .ref t2, .ref t3]) nM
    have hM : upd H5 M (.lst [.ref t1, .ref t2, .ref t3]) M = some (.lst [.ref t1, .ref t2, .ref t3]) := upd_same
    generalize upd H5 M (.lst [.ref t1, .ref t2, .ref t3]) = H6 at e6 hM ⊢
    have e26 := Same.trans e24 (Same.trans e5 e6)
    refine ⟨.ref L, .ref M, .list [.tuple [.str (Str.ofString "line"), .int ((lines.length : Int) + 1)], .tuple [.str (Str.ofString "line"), .int ((lines.length : Int) + 1)], .tuple [.str (Str.ofString "line"), .int (lines.length : Int)]], rfl, .lst (SqL.of (e26 _ _ hL)) (.cons (Dp.sm e26 _ _ D1) (.cons (Dp.sm e26 _ _ D2) (.cons (Dp.sm e26 _ _ D3) .nil))), .lst (SqL.of hM) (.cons (dLine _ _ _ ((Same.trans e4 (Same.trans e5 e6)) _ _ ht1)) (.cons (dLine _ _ _ ((Same.trans e5 e6) _ _ ht2)) (.cons (dLine _ _ _ (e6 _ _ ht3)) .nil))), by simp [PyData.depth, PyData.depthAll], by simp [wide, wideAll], fun H7 e7 => ?_⟩
    have e17 := Same.trans e12 (Same.trans e26 e7)
    exact q H7 (S1.same e17) (k01.trans (Same.kept e17))
end
end Bk

namespace Bk
open PySem PySem.Spec PyProof.Rows L2
def sLs : List Str := [Str.ofString "store a b c", Str.ofString "a 1", Str.ofString "b 2/3"]
def bLs : List Str := [Str.ofString "book a b c", Str.ofString "4 - 1:a 1:a+b", Str.ofString "- 7 2:c"]
def cLs : List Str := [Str.ofString "chained store a b c", Str.ofString "c 1", Str.ofString "b+c 5/2"]
def cBad : List Str := [Str.ofString "a+c 1", Str.ofString "a+b 1", Str.ofString "c 2", Str.ofString "b 1", Str.ofString "b+c 5/2", Str.ofString "a 1"]
def wOf (ls : List Str) : Str := Txt.join nl ls ++ nl
def okHead (b : Str) : Bool := okT (b ++ nl) 1 && (okT b 1 && okT (b ++ Str.ofString "\na 1\n") 1)
theorem all_split {α : Type} {p : α → Bool} {L : List α} (n : Nat) (h1 : (L.take n).all p = true) (h2 : (L.drop n).all p = true) : L.all p = true := by
  rw [← List.take_append_drop n L, List.all_append, h1, h2]
  rfl
theorem chk_heads_0 : ((headsL).take 8).all okHead = true := by decide +kernel
theorem chk_heads_1 : (((headsL).drop 8).take 8).all okHead = true := by decide +kernel
theorem chk_heads_2 : ((((headsL).drop 8).drop 8).take 8).all okHead = true := by decide +kernel
theorem chk_heads_e : ((((headsL).drop 8).drop 8).drop 8).all okHead = true := rfl
theorem chk_heads : headsL.all okHead = true := (all_split 8 chk_heads_0 (all_split 8 chk_heads_1 (all_split 8 chk_heads_2 chk_heads_e)))
theorem chk_s_0 : ((slinesL).take 4).all (chk (wOf sLs) sLs) = true := by decide +kernel
theorem chk_s_1 : (((slinesL).drop 4).take 4).all (chk (wOf sLs) sLs) = true := by decide +kernel
theorem chk_s_2 : ((((slinesL).drop 4).drop 4).take 4).all (chk (wOf sLs) sLs) = true := by decide +kernel
theorem chk_s_3 : (((((slinesL).drop 4).drop 4).drop 4).take 4).all (chk (wOf sLs) sLs) = true := by decide +kernel
theorem chk_s_4 : ((((((slinesL).drop 4).drop 4).drop 4).drop 4).take 4).all (chk (wOf sLs) sLs) = true := by decide +kernel
theorem chk_s_5 : (((((((slinesL).drop 4).drop 4).drop 4).drop 4).drop 4).take 4).all (chk (wOf sLs) sLs) = true := by decide +kernel
theorem chk_s_6 : ((((((((slinesL).drop 4).drop 4).drop 4).drop 4).drop 4).drop 4).take 4).all (chk (wOf sLs) sLs) = true := by decide +kernel
theorem chk_s_7 : (((((((((slinesL).drop 4).drop 4).drop 4).drop 4).drop 4).drop 4).drop 4).take 4).all (chk (wOf sLs) sLs) = true := by decide +kernel
theorem chk_s_8 : ((((((((((slinesL).drop 4).drop 4).drop 4).drop 4).drop 4).drop 4).drop 4).drop 4).take 4).all (chk (wOf sLs) sLs) = true := by decide +kernel
theorem chk_s_e : ((((((((((slinesL).drop 4).drop 4).drop 4).drop 4).drop 4).drop 4).drop 4).drop 4).drop 4).all (chk (wOf sLs) sLs) = true := rfl
theorem chk_s : slinesL.all (chk (wOf sLs) sLs) = true := (all_split 4 chk_s_0 (all_split 4 chk_s_1 (all_split 4 chk_s_2 (all_split 4 chk_s_3 (all_split 4 chk_s_4 (all_split 4 chk_s_5 (all_split 4 chk_s_6 (all_split 4 chk_s_7 (all_split 4 chk_s_8 chk_s_e)))))))))
theorem chk_b_0 : ((blinesL).take 4).all (chk (wOf bLs) bLs) = true := by decide +kernel
theorem chk_b_1 : (((blinesL).drop 4).take 4).all (chk (wOf bLs) bLs) = true := by decide +kernel
theorem chk_b_2 : ((((blinesL).drop 4).drop 4).take 4).all (chk (wOf bLs) bLs) = true := by decide +kernel
theorem chk_b_3 : (((((blinesL).drop 4).drop 4).drop 4).take 4).all (chk (wOf bLs) bLs) = true := by decide +kernel
theorem chk_b_4 : ((((((blinesL).drop 4).drop 4).drop 4).drop 4).take 4).all (chk (wOf bLs) bLs) = true := by decide +kernel
theorem chk_b_5 : (((((((blinesL).drop 4).drop 4).drop 4).drop 4).drop 4).take 4).all (chk (wOf bLs) bLs) = true := by decide +kernel
theorem chk_b_6 : ((((((((blinesL).drop 4).drop 4).drop 4).drop 4).drop 4).drop 4).take 4).all (chk (wOf bLs) bLs) = true := by decide +kernel
theorem chk_b_7 : (((((((((blinesL).drop 4).drop 4).drop 4).drop 4).drop 4).drop 4).drop 4).take 4).all (chk (wOf bLs) bLs) = true := by decide +kernel
theorem chk_b_8 : ((((((((((blinesL).drop 4).drop 4).drop 4).drop 4).drop 4).drop 4).drop 4).drop 4).take 4).all (chk (wOf bLs) bLs) = true := by decide +kernel
theorem chk_b_e : ((((((((((blinesL).drop 4).drop 4).drop 4).drop 4).drop 4).drop 4).drop 4).drop 4).drop 4).all (chk (wOf bLs) bLs) = true := rfl
theorem chk_b : blinesL.all (chk (wOf bLs) bLs) = true := (all_split 4 chk_b_0 (all_split 4 chk_b_1 (all_split 4 chk_b_2 (all_split 4 chk_b_3 (all_split 4 chk_b_4 (all_split 4 chk_b_5 (all_split 4 chk_b_6 (all_split 4 chk_b_7 (all_split 4 chk_b_8 chk_b_e)))))))))
theorem chk_c_0 : ((cBad).take 3).all (chk (wOf cLs) cLs) = true := by decide +kernel
theorem chk_c_1 : (((cBad).drop 3).take 3).all (chk (wOf cLs) cLs) = true := by decide +kernel
theorem chk_c_e : (((cBad).drop 3).drop 3).all (chk (wOf cLs) cLs) = true := rfl
theorem chk_c : cBad.all (chk (wOf cLs) cLs) = true := (all_split 3 chk_c_0 (all_split 3 chk_c_1 chk_c_e))
def lastT : Str := Str.ofString "chained store a b c d e f g h i j k l\nl 1\nk+l 2\n"
def abc12 : List Str := [Str.ofString "a", Str.ofString "b", Str.ofString "c", Str.ofString "d", Str.ofString "e", Str.ofString "f", Str.ofString "g", Str.ofString "h", Str.ofString "i", Str.ofString "j", Str.ofString "k", Str.ofString "l"]
theorem chk_last : gRead lastT = true ∧ readM lastT = none ∧ headOf lastT = some (Str.ofString "store", abc12, true) := ⟨by decide +kernel, by decide +kernel, by decide +kernel⟩
theorem chk_end : okT (Str.ofString "") 1 = true ∧ okT nl 1 = true ∧ okT (Str.ofString "store a\n\n") 2 = true := ⟨by decide +kernel, by decide +kernel, by decide +kernel⟩
end Bk

namespace Bk
open PySem PySem.Spec PyProof.Rows L2
section
variable {P : Program} {w : World} {K : PySem.W.Frag} {mg : Str → Option Value} {base : Heap}
theorem scBX : FnScope ["self", "line"] ["self", "line"] (defScope (inClass (topS 13) 0)) := ⟨rfl, rfl, rfl, by decide +kernel, rfl, by decide +kernel, by decide +kernel⟩
theorem ok_BX {C f : Addr} {fd : FuncData} (T : ExT K mg "BadText" C f "line") (F : Fun K "__init__" "BadText.__init__" (inClass (topS 13) 0) f fd) : FnOk P w K mg base CX0 1 f fd ["self", "line"] (spExcInit C "line") := by
  refine F.ok scBX (fun vs H Q E h => ?_) (fun cdv A outer s H vs Q E hr h => ?_)
  · obtain ⟨a, v, rfl, _⟩ := h
    rfl
  · obtain ⟨a, v, rfl, ha, q⟩ := h
    refine ⟨_, pss_one (ps_ost (pv 0) (pv 1)), ?_⟩
    exact ⟨_, rfl, _, rfl, a, C, rfl, T.o, T.noF, .inl ⟨ha, fun dx ndx hne => q dx ndx hne⟩⟩
end
end Bk

/-! for laws without drawn questions -/
namespace Bk
open PySem PySem.Spec PyProof.Rows L2
theorem passLN {X : Cx} : Passes (L2N.CX X.prog X.w) X E0 := fun _ _ _ _ _ _ _ h => by
  obtain ⟨_, _, _, _, _, _, _, _, _, _, _, _, z⟩ := h
  exact z.elim
theorem perm_strs {ys : List V} {ks : List Str} (h : ys.Perm (ks.map V.str)) : ∃ zs : List Str, ys = zs.map V.str ∧ zs.Perm ks := by
  have all : ∀ y ∈ ys, ∃ k, y = V.str k := fun y m => by
    obtain ⟨k, _, rfl⟩ := List.mem_map.mp (h.mem_iff.mp m)
    exact ⟨k, rfl⟩
  have e : (ys.map fun v => match v with | V.str k => k | _ => Str.empty).map V.str = ys := by
    rw [List.map_map]
    conv => rhs; rw [← List.map_id ys]
    refine List.map_congr_left fun y m => ?_
    obtain ⟨k, rfl⟩ := all y m
    rfl
  refine ⟨_, e.symm, ?_⟩
  have p := h.map fun v => match v with | V.str k => k | _ => Str.empty
  rw [List.map_map] at p
  have e2 : ks.map ((fun v => match v with | V.str k => k | _ => Str.empty) ∘ V.str) = ks := by
    conv => rhs; rw [← List.map_id ks]
    exact List.map_congr_left fun k _ => rfl
  rw [e2] at p
  exact p
theorem tcb_one {R : List V → Hp → VK → Prop} {t : TE} {σ : L2.St} {H : Hp} {Q : VK} (h : t σ H fun x H1 => R [x] H1 Q) : tCB R (tCons t tNil) σ H Q := h
theorem tcons_go {t : TE} {ts : TA} {σ : L2.St} {H : Hp} {R : List V → Hp → Prop} (h : t σ H fun x H1 => ts σ H1 fun vs H2 => R (x :: vs) H2) : tCons t ts σ H R := h
end Bk

namespace Bk
open PySem PySem.Spec PyProof.Rows L2
def spLaw (K : PySem.W.Frag) : Sp := fun vs H Q _ => ∃ (a : Addr) (ns : List Int), vs = [.ref a] ∧ SqL K H a (ns.map V.int) ∧ ∀ H', Q (.bl true) H'
section
variable {P : Program} {w : World} {K : PySem.W.Frag} {mg : Str → Option Value} {base : Heap}
theorem scLaw : FnScope ["_law_script", "_law_stream", "_law_turn", "_law_bad", "_law_found", "_law_lines"] ["_law_script"] (defScope (topS 93)) := ⟨rfl, rfl, rfl, by decide +kernel, rfl, by decide +kernel, by decide +kernel⟩
theorem ok_law (B : Bi mg) {C CS CX fS fL f f1 f2 f3 f4 f5 f6 f7 f8 f9 : Addr} {fdL fd fd1 fd2 fd3 fd4 fd5 fd6 fd7 fd8 fd9 : FuncData} (TS : StoT K mg CS fS) (GL : FnOk P w K mg base CX0 1 fL fdL ["self"] (spFLen C)) (bL : Binds K fdL ["self"] []) (mL : Own K C "__len__" fL)
    (c__law_start : Cal P w K mg base CX0 1 "_law_start" f1 fd1 ["_law_script"] (spStart K)) (c__law_pick : Cal P w K mg base CX0 2 "_law_pick" f2 fd2 ["_law_stream", "_law_some"] (spPick K)) (c__law_same : Cal P w K mg base CX0 5 "_law_same" f3 fd3 ["_law_found", "_law_due"] (spSame K 4)) (c__law_bad_heads : Cal P w K mg base CX0 1 "_law_bad_heads" f4 fd4 [] (spTexts headsL)) (c__law_bad_store_lines : Cal P w K mg base CX0 1 "_law_bad_store_lines" f5 fd5 [] (spTexts slinesL)) (c__law_bad_book_lines : Cal P w K mg base CX0 1 "_law_bad_book_lines" f6 fd6 [] (spTexts blinesL))
    (c__law_tried : Cal P w K mg base CX0 9 "_law_tried" f7 fd7 ["_law_written"] spTriedT) (c__law_are_refused : Cal P w K mg base CX0 10 "_law_are_refused" f8 fd8 ["_law_stream", "_law_written", "_law_lines", "_law_bad"] (spRefT K)) (c_read : Cal P w K mg base (L2N.CX P w) 8 "read" f9 fd9 ["text"] (spRead K C CS CX))
    (F : Fun K "law" "law" (topS 93) f fd) : FnOk P w K mg base CX0 11 f fd ["_law_script"] (spLaw K) := by
  refine F.ok scLaw (fun vs H Q E h => ?_) (fun cdv A outer s H vs Q E hr h => ?_)
  · obtain ⟨a, ns, rfl, _⟩ := h
    rfl
  · obtain ⟨sa, ns, rfl, hS, q⟩ := h
    have nd := scLaw.nd
    have hu := hu_of hr
    have sl : sizeLine = 16777216 := sizeLine_eq
    have hr__law_are_refused := hr
    have hr__law_tried : Room 9 _ := hr.mono (by decide)
    have hr_read : Room 8 _ := hr.mono (by decide)
    have hr__law_same : Room 5 _ := hr.mono (by decide)
    have hrL : Room 2 _ := hr.mono (by decide)
    have hr__law_pick := hrL
    have hr__law_start : Room 1 _ := hr.mono (by decide)
    have hr__law_bad_heads := hr__law_start
    have hr__law_bad_store_lines := hr__law_start
    have hr__law_bad_book_lines := hr__law_start
    refine ⟨_, (Evl.pss_cut (ps_set (i := 1) nd rfl (Or.inl rfl) (pe_call c__law_start.ok hr__law_start (by rfl) c__law_start.g c__law_start.kp c__law_start.b .nil pass0 (pa_cons (pv 0) pa_nil)))
      (Evl.pss_cut (ps_for PassesOwn.never rfl (pi_range1 (by rfl) B.range (pa_cons pe_int pa_nil)) (pg_name (i := 2) nd rfl (Or.inl rfl)) (Evl.pss_cut (ps_set (i := 3) nd rfl (Or.inl rfl) (pe_call c__law_pick.ok hr__law_pick (by rfl) c__law_pick.g c__law_pick.kp c__law_pick.b .nil pass0 (pa_cons (pv 1) (pa_cons (pe_call0 c__law_bad_heads.ok hr__law_bad_heads (by rfl) c__law_bad_heads.g c__law_bad_heads.kp c__law_bad_heads.b .nil pass0) pa_nil))))
      (Evl.pss_cut (ps_set (i := 4) nd rfl (Or.inl rfl) (pe_lst (pa_cons (pe_call c__law_tried.ok hr__law_tried (by rfl) c__law_tried.g c__law_tried.kp c__law_tried.b .nil pass0 (pa_cons (pe_op op_add_str (pv 3) pe_str) pa_nil)) (pa_cons (pe_call c__law_tried.ok hr__law_tried (by rfl) c__law_tried.g c__law_tried.kp c__law_tried.b .nil pass0 (pa_cons (pv 3) pa_nil)) (pa_cons (pe_call c__law_tried.ok hr__law_tried (by rfl) c__law_tried.g c__law_tried.kp c__law_tried.b .nil pass0 (pa_cons (pe_op op_add_str (pv 3) pe_str) pa_nil)) pa_nil)))))
      (Evl.pss_cut (ps_if (pt_not (pt_val (pe_call c__law_same.ok hr__law_same (by rfl) c__law_same.g c__law_same.kp c__law_same.b .nil pass0 (pa_cons (pv 4) (pa_cons (pe_op op_rep (pe_lst (pa_cons (pe_tup (pa_cons pe_str (pa_cons pe_int pa_nil))) pa_nil)) pe_int) pa_nil))))) (pss_one (ps_ret pe_bl)) pss_nil)
      (Evl.pss_cut (ps_set (i := 5) nd rfl (Or.inl rfl) (pe_lst (pa_cons pe_str (pa_cons pe_str (pa_cons pe_str pa_nil)))))
      (Evl.pss_cut (ps_if (pt_not (pt_val (pe_call c__law_are_refused.ok hr__law_are_refused (by rfl) c__law_are_refused.g c__law_are_refused.kp c__law_are_refused.b .nil pass0 (pa_cons (pv 1) (pa_cons (pe_op op_add_str (pe_join pe_str (pv 5)) pe_str) (pa_cons (pv 5) (pa_cons (pe_call c__law_pick.ok hr__law_pick (by rfl) c__law_pick.g c__law_pick.kp c__law_pick.b .nil pass0 (pa_cons (pv 1) (pa_cons (pe_call0 c__law_bad_store_lines.ok hr__law_bad_store_lines (by rfl) c__law_bad_store_lines.g c__law_bad_store_lines.kp c__law_bad_store_lines.b .nil pass0) pa_nil))) pa_nil))))))) (pss_one (ps_ret pe_bl)) pss_nil)
      (Evl.pss_cut (ps_set (i := 5) nd rfl (Or.inl rfl) (pe_lst (pa_cons pe_str (pa_cons pe_str (pa_cons pe_str pa_nil)))))
      (Evl.pss_cut (ps_if (pt_not (pt_val (pe_call c__law_are_refused.ok hr__law_are_refused (by rfl) c__law_are_refused.g c__law_are_refused.kp c__law_are_refused.b .nil pass0 (pa_cons (pv 1) (pa_cons (pe_op op_add_str (pe_join pe_str (pv 5)) pe_str) (pa_cons (pv 5) (pa_cons (pe_call c__law_pick.ok hr__law_pick (by rfl) c__law_pick.g c__law_pick.kp c__law_pick.b .nil pass0 (pa_cons (pv 1) (pa_cons (pe_call0 c__law_bad_book_lines.ok hr__law_bad_book_lines (by rfl) c__law_bad_book_lines.g c__law_bad_book_lines.kp c__law_bad_book_lines.b .nil pass0) pa_nil))) pa_nil))))))) (pss_one (ps_ret pe_bl)) pss_nil)
      (Evl.pss_cut (ps_set (i := 5) nd rfl (Or.inl rfl) (pe_lst (pa_cons pe_str (pa_cons pe_str (pa_cons pe_str pa_nil)))))
      (Evl.pss_cut (ps_set (i := 3) nd rfl (Or.inl rfl) (pe_call c__law_pick.ok hr__law_pick (by rfl) c__law_pick.g c__law_pick.kp c__law_pick.b .nil pass0 (pa_cons (pv 1) (pa_cons (pe_lst (pa_cons pe_str (pa_cons pe_str (pa_cons pe_str (pa_cons pe_str (pa_cons pe_str (pa_cons pe_str pa_nil))))))) pa_nil))))
      (pss_one (ps_if (pt_not (pt_val (pe_call c__law_are_refused.ok hr__law_are_refused (by rfl) c__law_are_refused.g c__law_are_refused.kp c__law_are_refused.b .nil pass0 (pa_cons (pv 1) (pa_cons (pe_op op_add_str (pe_join pe_str (pv 5)) pe_str) (pa_cons (pv 5) (pa_cons (pv 3) pa_nil))))))) (pss_one (ps_ret pe_bl)) pss_nil))))))))))))
      (Evl.pss_cut (ps_if (pt_cmpR op_ne (pe_callB (call_lenOwn GL bL pass0 hrL mL) (by rfl) B.len PySem.boot_len (pa_cons (pe_fld (pe_call c_read.ok hr_read (by rfl) c_read.g c_read.kp c_read.b .nil passLN (pa_cons pe_str pa_nil)) rfl) pa_nil)) pe_int (nomark _)) (pss_one (ps_ret pe_bl)) pss_nil)
      (Evl.pss_cut (ps_set (i := 4) nd rfl (Or.inl rfl) (pe_lst (pa_cons (pe_call c__law_tried.ok hr__law_tried (by rfl) c__law_tried.g c__law_tried.kp c__law_tried.b .nil pass0 (pa_cons pe_str pa_nil)) (pa_cons (pe_call c__law_tried.ok hr__law_tried (by rfl) c__law_tried.g c__law_tried.kp c__law_tried.b .nil pass0 (pa_cons pe_str pa_nil)) (pa_cons (pe_call c__law_tried.ok hr__law_tried (by rfl) c__law_tried.g c__law_tried.kp c__law_tried.b .nil pass0 (pa_cons pe_str pa_nil)) pa_nil)))))
      (pss_one (ps_ret (pe_cmpR (kEqD K hr.units) (pv 4) (pe_lst (pa_cons (pe_tup (pa_cons pe_str (pa_cons pe_int pa_nil))) (pa_cons (pe_tup (pa_cons pe_str (pa_cons pe_int pa_nil))) (pa_cons (pe_tup (pa_cons pe_str (pa_cons pe_int pa_nil))) pa_nil)))) (nomark _)))))))), ?_⟩
    -- the stream
    refine ⟨fun σ H1 => ∃ st c, σ = [some (.ref sa), some (.ref st), none, none, none, none] ∧ Strm H1 st c 0, ?_, ?_⟩
    · exact ⟨_, rfl, sa, ns, rfl, hS, fun st c H1 e1 nst nc S1 => ⟨st, c, rfl, S1⟩⟩
    rintro σ H1 ⟨st, c, rfl, S1⟩
    have dL : ∀ (H : Hp) (p : Addr) (i : Int), H p = some (.tup [.str (Str.ofString "line"), .int i]) → Dp K H (.ref p) (.tuple [.str (Str.ofString "line"), .int i]) := fun H p i h => .tup (SqT.of h) (.cons (.str _) (.cons (.int _) .nil))
    have ap : ∀ x y : Str, (x ++ y).length = x.length + y.length := fun x y => by
      show (x.cps ++ y.cps).size = x.cps.size + y.cps.size
      exact Array.size_append
    -- a pick of a list of texts
    have pickL : ∀ (L : List Str) (H : Hp) (n : Nat) (p : Addr) (Q : VK) (E : _), L ≠ [] → L.length < 1000 → Strm H st c n → n ≤ 900000 → H p = some (.lst (L.map V.str)) → p ≠ st → p ≠ c → (∀ b H', b ∈ L → Strm H' st c (n + 1) → Kept st c H H' → Q (.str b) H') → spPick K [.ref st, .ref p] H Q E := fun L H n p Q E ne ll S hn hp p1 p2 r => by
      have lln : (L.map V.str).length = L.length := List.length_map ..
      have lpos : 0 < L.length := List.length_pos_iff.mpr ne
      refine ⟨st, c, n, (L.map V.str).length, .ref p, fun j => (L.map V.str).getD j .non, rfl, S, by omega, by omega, by omega, pk_lst (SqL.of hp) p1 p2, fun j H' hj S' k' => ?_⟩
      rw [lln] at hj
      have hl : (L.map V.str).getD j .non = .str L[j] := by
        rw [List.getD_eq_getElem?_getD, List.getElem?_map, List.getElem?_eq_getElem hj]
        rfl
      have z := r L[j] H' (List.getElem_mem hj) S' k'
      rw [← hl] at z
      exact z
    -- a refusal of lines
    have refL : ∀ (ls : List Str) (H : Hp) (n : Nat) (p : Addr) (b : Str) (Q : VK) (E : _), ls ≠ [] → Strm H st c n → n ≤ 900000 → H p = some (.lst (ls.map V.str)) → p ≠ st → p ≠ c → chk (wOf ls) ls b = true → (∀ H', Strm H' st c (n + 1) → Kept st c H H' → Q (.bl true) H') → spRefT K [.ref st, .str (wOf ls), .ref p, .str b] H Q E := fun ls H n p b Q E ne S hn hp p1 p2 g r => ⟨st, c, p, n, wOf ls, b, ls, rfl, S, hn, hp, p1, p2, ne, g, r⟩
    have small0 : ∀ ls : List Str, (ls.map (·.length)).sum + ls.length * (Str.ofString "\n").length ≤ 1000 → ∀ x : Nat, x = x → (Txt.join (Str.ofString "\n") ls).length ≤ 100000 → (ls.map (·.length)).sum + ls.length * (Str.ofString "\n").length ≤ 16777216 := fun ls h _ _ _ => by omega
    refine ⟨fun σ H2 => ∃ v2 v3 v4 v5, σ = [some (.ref sa), some (.ref st), v2, v3, v4, v5], ?_, ?_⟩
    · refine ⟨16, rfl, by decide, by decide, ?_⟩
      refine for_it walk_range (fun i σ H1 => ∃ v2 v3 v4 v5, σ = [some (.ref sa), some (.ref st), v2, v3, v4, v5] ∧ Strm H1 st c (20 * i)) ?_ (fun _ _ _ _ _ => trivial) ?_ ?_
      · exact ⟨_, _, _, _, rfl, S1⟩
      · rintro i y σ H0 H1 hi ⟨v2, v3, v4, v5, rfl, S⟩ ⟨rfl, rfl⟩
        have hi : i < 16 := by simpa using hi
        -- a bad head
        refine ⟨fun σ H2 => ∃ b, b ∈ headsL ∧ σ = [some (.ref sa), some (.ref st), some (.int (0 + (i : Int))), some (.str b), v4, v5] ∧ Strm H2 st c (20 * i + 1), ?_, ?_⟩
        · refine ⟨_, rfl, rfl, fun p H2 np e2 hp => ?_⟩
          have n12 := S.notfree np
          dsimp only [tNil, List.append_nil]
          exact pickL headsL H2 _ p _ _ (by decide) (by decide) (S.same e2) (by omega) hp n12.1 n12.2 fun b H3 mb S3 k3 => ⟨b, mb, rfl, S3⟩
        rintro σ H2 ⟨b, mb, rfl, S2⟩
        have gb := List.all_eq_true.mp chk_heads b mb
        unfold okHead at gb
        obtain ⟨gb1, gb⟩ := Bool.and_eq_true_iff.mp gb
        obtain ⟨gb2, gb3⟩ := Bool.and_eq_true_iff.mp gb
        have lb1 := okT_len gb1
        have lb3 := okT_len gb3
        rw [ap] at lb1 lb3
        refine ⟨fun σ H3 => ∃ L p1 p2 p3, σ = [some (.ref sa), some (.ref st), some (.int (0 + (i : Int))), some (.str b), some (.ref L), v5] ∧ Same H2 H3 ∧ H3 L = some (.lst [.ref p1, .ref p2, .ref p3]) ∧ H3 p1 = some (.tup [.str (Str.ofString "line"), .int 1]) ∧ H3 p2 = some (.tup [.str (Str.ofString "line"), .int 1]) ∧ H3 p3 = some (.tup [.str (Str.ofString "line"), .int 1]), ?_, ?_⟩
        · refine ⟨_, rfl, _, _, rfl, rfl, by show b.length + nl.length ≤ _; omega, b ++ nl, 1, rfl, gb1, fun p1 H3 np1 e3 hp1 => ?_⟩
          refine ⟨_, rfl, b, 1, rfl, gb2, fun p2 H4 np2 e4 hp2 => ?_⟩
          refine ⟨_, rfl, _, _, rfl, rfl, by omega, b ++ Str.ofString "\na 1\n", 1, rfl, gb3, fun p3 H5 np3 e5 hp3 => ?_⟩
          refine ⟨by show 3 ≤ sizeLine; decide, fun L nL => ?_⟩
          have e6 := same_upd (o := HO.lst [.ref p1, .ref p2, .ref p3]) nL
          exact ⟨L, p1, p2, p3, rfl, Same.trans e3 (Same.trans e4 (Same.trans e5 e6)), upd_same, (Same.trans e4 (Same.trans e5 e6)) _ _ hp1, (Same.trans e5 e6) _ _ hp2, e6 _ _ hp3⟩
        rintro σ H3 ⟨L, p1, p2, p3, rfl, e3, hL, D1, D2, D3⟩
        have S3 := S2.same e3
        refine ⟨fun σ H4 => σ = [some (.ref sa), some (.ref st), some (.int (0 + (i : Int))), some (.str b), some (.ref L), v5] ∧ Same H3 H4, ?_, ?_⟩
        · refine ⟨_, rfl, by show 2 ≤ sizeLine; decide, fun t nt => ?_⟩
          have e4 := same_upd (o := HO.tup [.str (Str.ofString "line"), .int 1]) nt
          have ht : upd H3 t (.tup [.str (Str.ofString "line"), .int 1]) t = some (.tup [.str (Str.ofString "line"), .int 1]) := upd_same
          generalize upd H3 t (.tup [.str (Str.ofString "line"), .int 1]) = H4 at e4 ht ⊢
          refine ⟨by show 1 ≤ sizeLine; decide, fun m nm => ?_⟩
          have e5 := same_upd (o := HO.lst [V.ref t]) nm
          refine ⟨m, 3, [.ref t], rfl, rfl, upd_same, by decide, by decide, by show 3 ≤ sizeLine; decide, fun m2 nm2 => ?_⟩
          dsimp only [tNil, List.append_nil]
          have e6 := same_upd (H := upd H4 m (.lst [V.ref t])) (o := HO.lst [V.ref t, V.ref t, V.ref t]) nm2
          refine ⟨.ref L, .ref m2, .list [.tuple [.str (Str.ofString "line"), .int 1], .tuple [.str (Str.ofString "line"), .int 1], .tuple [.str (Str.ofString "line"), .int 1]], rfl, .lst (SqL.of ((Same.trans e4 (Same.trans e5 e6)) _ _ hL)) (.cons (dL _ _ _ ((Same.trans e4 (Same.trans e5 e6)) _ _ D1)) (.cons (dL _ _ _ ((Same.trans e4 (Same.trans e5 e6)) _ _ D2)) (.cons (dL _ _ _ ((Same.trans e4 (Same.trans e5 e6)) _ _ D3)) .nil))), .lst (SqL.of upd_same) (.cons (dL _ _ _ ((Same.trans e5 e6) _ _ ht)) (.cons (dL _ _ _ ((Same.trans e5 e6) _ _ ht)) (.cons (dL _ _ _ ((Same.trans e5 e6) _ _ ht)) .nil))), by decide, by decide, fun H' e' => ⟨true, rfl, ?_⟩⟩
          refine iteF ?_
          exact ⟨rfl, Same.trans e4 (Same.trans e5 (Same.trans e6 e'))⟩
        rintro σ H4 ⟨rfl, e4⟩
        have S4 := S3.same e4
        -- lines of a s
        refine ⟨fun σ H5 => ∃ p, σ = [some (.ref sa), some (.ref st), some (.int (0 + (i : Int))), some (.str b), some (.ref L), some (.ref p)] ∧ p ≠ st ∧ p ≠ c ∧ H5 p = some (.lst (sLs.map V.str)) ∧ Strm H5 st c (20 * i + 1), ?_, ?_⟩
        · refine ⟨by show 3 ≤ sizeLine; decide, fun p np => ?_⟩
          have n12 := S4.notfree np
          exact ⟨p, rfl, n12.1, n12.2, upd_same, S4.same (same_upd np)⟩
        rintro σ P0 ⟨q0, rfl, a0, b0, hq0, R0⟩
        refine ⟨fun σ H5 => σ = [some (.ref sa), some (.ref st), some (.int (0 + (i : Int))), some (.str b), some (.ref L), some (.ref q0)] ∧ Strm H5 st c (20 * i + 3), ?_, ?_⟩
        · refine ⟨_, rfl, ⟨_, rfl⟩, _, rfl, _, q0, sLs, rfl, rfl, .inl (SqL.of hq0), by decide +kernel, _, _, rfl, rfl, by decide +kernel, ?_⟩
          refine ⟨_, rfl, _, rfl, rfl, fun p H6 np e6 hp => ?_⟩
          have n12 := R0.notfree np
          dsimp only [tNil, List.append_nil]
          refine pickL slinesL H6 _ p _ _ (by decide) (by decide) (R0.same e6) (by omega) hp n12.1 n12.2 fun z H7 mz S7 k7 => ?_
          refine refL sLs H7 _ q0 z _ _ (by decide) S7 (by omega) (k7 _ _ a0 b0 (e6 _ _ hq0)) a0 b0 (List.all_eq_true.mp chk_s z mz) fun H8 S8 k8 => ?_
          refine ⟨true, rfl, ?_⟩
          refine iteF ?_
          exact ⟨rfl, S8⟩
        rintro σ W0 ⟨rfl, S10⟩
        -- lines of a b
        refine ⟨fun σ H5 => ∃ p, σ = [some (.ref sa), some (.ref st), some (.int (0 + (i : Int))), some (.str b), some (.ref L), some (.ref p)] ∧ p ≠ st ∧ p ≠ c ∧ H5 p = some (.lst (bLs.map V.str)) ∧ Strm H5 st c (20 * i + 3), ?_, ?_⟩
        · refine ⟨by show 3 ≤ sizeLine; decide, fun p np => ?_⟩
          have n12 := S10.notfree np
          exact ⟨p, rfl, n12.1, n12.2, upd_same, S10.same (same_upd np)⟩
        rintro σ P1 ⟨q1, rfl, a1, b1, hq1, R1⟩
        refine ⟨fun σ H5 => σ = [some (.ref sa), some (.ref st), some (.int (0 + (i : Int))), some (.str b), some (.ref L), some (.ref q1)] ∧ Strm H5 st c (20 * i + 5), ?_, ?_⟩
        · refine ⟨_, rfl, ⟨_, rfl⟩, _, rfl, _, q1, bLs, rfl, rfl, .inl (SqL.of hq1), by decide +kernel, _, _, rfl, rfl, by decide +kernel, ?_⟩
          refine ⟨_, rfl, _, rfl, rfl, fun p H6 np e6 hp => ?_⟩
          have n12 := R1.notfree np
          dsimp only [tNil, List.append_nil]
          refine pickL blinesL H6 _ p _ _ (by decide) (by decide) (R1.same e6) (by omega) hp n12.1 n12.2 fun z H7 mz S7 k7 => ?_
          refine refL bLs H7 _ q1 z _ _ (by decide) S7 (by omega) (k7 _ _ a1 b1 (e6 _ _ hq1)) a1 b1 (List.all_eq_true.mp chk_b z mz) fun H8 S8 k8 => ?_
          refine ⟨true, rfl, ?_⟩
          refine iteF ?_
          exact ⟨rfl, S8⟩
        rintro σ W1 ⟨rfl, S11⟩
        -- lines of a chain
        refine ⟨fun σ H5 => ∃ p, σ = [some (.ref sa), some (.ref st), some (.int (0 + (i : Int))), some (.str b), some (.ref L), some (.ref p)] ∧ p ≠ st ∧ p ≠ c ∧ H5 p = some (.lst (cLs.map V.str)) ∧ Strm H5 st c (20 * i + 5), ?_, ?_⟩
        · refine ⟨by show 3 ≤ sizeLine; decide, fun p np => ?_⟩
          have n12 := S11.notfree np
          exact ⟨p, rfl, n12.1, n12.2, upd_same, S11.same (same_upd np)⟩
        rintro σ P2 ⟨q2, rfl, a2, b2, hq2, R2⟩
        refine ⟨fun σ H5 => ∃ z, z ∈ cBad ∧ σ = [some (.ref sa), some (.ref st), some (.int (0 + (i : Int))), some (.str z), some (.ref L), some (.ref q2)] ∧ Kept st c P2 H5 ∧ Strm H5 st c (20 * i + 6), ?_, ?_⟩
        · refine ⟨_, rfl, by show 6 ≤ sizeLine; decide, fun p np => ?_⟩
          have n12 := R2.notfree np
          have e6 := same_upd (o := HO.lst (cBad.map V.str)) np
          dsimp only [tNil, List.append_nil]
          exact pickL cBad (upd P2 p (.lst (cBad.map V.str))) _ p _ _ (by decide) (by decide) (R2.same e6) (by omega) upd_same n12.1 n12.2 fun z H7 mz S7 k7 => ⟨z, mz, rfl, (Same.kept e6).trans k7, S7⟩
        rintro σ P3 ⟨z, mz, rfl, k23, R3⟩
        refine ⟨_, rfl, ⟨_, rfl⟩, _, rfl, _, q2, cLs, rfl, rfl, .inl (SqL.of (k23 _ _ a2 b2 hq2)), by decide +kernel, _, _, rfl, rfl, by decide +kernel, ?_⟩
        refine ⟨_, rfl, _, rfl, ?_⟩
        dsimp only [tNil, List.append_nil]
        refine refL cLs P3 _ q2 z _ _ (by decide) R3 (by omega) (k23 _ _ a2 b2 hq2) a2 b2 (List.all_eq_true.mp chk_c z mz) fun H8 S8 k8 => ?_
        refine ⟨true, rfl, ?_⟩
        refine iteF ?_
        exact ⟨_, _, _, _, rfl, S8.more (by omega)⟩
      · rintro σ H2 ⟨v2, v3, v4, v5, rfl, S⟩
        exact ⟨v2, v3, v4, v5, rfl⟩
    rintro σ H2 ⟨v2, v3, v4, v5, rfl⟩
    refine ⟨fun σ H3 => σ = [some (.ref sa), some (.ref st), v2, v3, v4, v5], ?_, ?_⟩
    · refine ⟨lastT, rfl, chk_last.1, fun n hn => ?_, fun _ w zs ch hh s x sz H3 e3 hs => ?_⟩
      · rw [chk_last.2.1] at hn
        cases hn
      · rw [chk_last.2.2] at hh
        have hh := (Option.some.inj hh).symm
        obtain ⟨rfl, rfl, rfl⟩ : w = Str.ofString "store" ∧ zs = abc12 ∧ ch = true := by
          injection hh with a hh
          injection hh with b c
          exact ⟨a, b, c⟩
        obtain ⟨ds, td, tb, hs1, FA, _⟩ := hs
        refine ⟨s, CS, ds, _, _, rfl, hs1, TS.cl, TS.nF, look_folders _ _, ?_⟩
        obtain ⟨dx, t, pd, hx, _⟩ := id FA
        refine ⟨x, dx, _, rfl, hx, x, _, _, rfl, FA, by decide, (12 : Int), rfl, by decide, by decide, ?_⟩
        refine ⟨rfl, _, rfl, ?_⟩
        refine if_no (by decide +kernel) ?_
        rfl
    rintro σ H3 rfl
    refine ⟨fun σ H4 => ∃ L p1 p2 p3, σ = [some (.ref sa), some (.ref st), v2, v3, some (.ref L), v5] ∧ H4 L = some (.lst [.ref p1, .ref p2, .ref p3]) ∧ H4 p1 = some (.tup [.str (Str.ofString "line"), .int 1]) ∧ H4 p2 = some (.tup [.str (Str.ofString "line"), .int 1]) ∧ H4 p3 = some (.tup [.str (Str.ofString "line"), .int 2]), ?_, ?_⟩
    · refine ⟨_, 1, rfl, chk_end.1, fun p1 H4 np1 e3 hp1 => ?_⟩
      refine ⟨_, 1, rfl, chk_end.2.1, fun p2 H5 np2 e4 hp2 => ?_⟩
      refine ⟨_, 2, rfl, chk_end.2.2, fun p3 H6 np3 e5 hp3 => ?_⟩
      refine ⟨by show 3 ≤ sizeLine; decide, fun L nL => ?_⟩
      have e6 := same_upd (o := HO.lst [.ref p1, .ref p2, .ref p3]) nL
      exact ⟨L, p1, p2, p3, rfl, upd_same, (Same.trans e4 (Same.trans e5 e6)) _ _ hp1, (Same.trans e5 e6) _ _ hp2, e6 _ _ hp3⟩
    rintro σ H4 ⟨L, p1, p2, p3, rfl, hL, h1, h2, h3⟩
    refine ⟨_, rfl, by show 2 ≤ sizeLine; decide, fun t1 n1 => ?_⟩
    have e1 := same_upd (o := HO.tup [.str (Str.ofString "line"), .int 1]) n1
    refine ⟨by show 2 ≤ sizeLine; decide, fun t2 n2 => ?_⟩
    have e2 := same_upd (o := HO.tup [.str (Str.ofString "line"), .int 1]) n2
    refine ⟨by show 2 ≤ sizeLine; decide, fun t3 n3 => ?_⟩
    have e3 := same_upd (o := HO.tup [.str (Str.ofString "line"), .int 2]) n3
    refine ⟨by show 3 ≤ sizeLine; decide, fun M nM => ?_⟩
    have e4 := same_upd (o := HO.lst [.ref t1, .ref t2, .ref t3]) nM
    have e0 := Same.trans e1 (Same.trans e2 (Same.trans e3 e4))
    refine ⟨.list [.tuple [.str (Str.ofString "line"), .int 1], .tuple [.str (Str.ofString "line"), .int 1], .tuple [.str (Str.ofString "line"), .int 2]], .list [.tuple [.str (Str.ofString "line"), .int 1], .tuple [.str (Str.ofString "line"), .int 1], .tuple [.str (Str.ofString "line"), .int 2]], .lst (SqL.of (e0 _ _ hL)) (.cons (dL _ _ _ (e0 _ _ h1)) (.cons (dL _ _ _ (e0 _ _ h2)) (.cons (dL _ _ _ (e0 _ _ h3)) .nil))), .lst (SqL.of upd_same) (.cons (dL _ _ _ ((Same.trans e2 (Same.trans e3 e4)) _ _ upd_same)) (.cons (dL _ _ _ ((Same.trans e3 e4) _ _ upd_same)) (.cons (dL _ _ _ (e4 _ _ upd_same)) .nil))), by decide +kernel, by decide +kernel, ?_⟩
    exact q _
end
end Bk

namespace Bk
open PySem PySem.Spec PyProof.Rows L2
theorem factsL {P : Program} {w w' : World} {K : PySem.W.Frag} {h h' : Heap} {mg : Str → Option Value} {f : Addr} (X : K.In h) (G : h.Ns mainGlobals mg) (hfa : mg ("law" : Str) = some (.ref f)) (cx : He.SaysX faL fnL [] [] exL w' h' K) :
    ∃ fd : FuncData, (∀ (s : Shared) (v : Value), BindsTo s fd ⟨[v], []⟩ [("_law_script", v)]) ∧ ∀ base : Heap, K.In base → base.Ns mainGlobals mg → FnOk P w K mg base CX0 11 f fd ["_law_script"] (spLaw K) := by
  have c := He.SaysT.d cx.t
  have mm := cx.more
  unfold exL at mm
  obtain ⟨xe_BadFolders, mm⟩ := Bool.and_eq_true_iff.mp mm
  obtain ⟨xe_BadText, mm⟩ := Bool.and_eq_true_iff.mp mm
  obtain ⟨xi_Folders, mm⟩ := Bool.and_eq_true_iff.mp mm
  obtain ⟨xi_Question, mm⟩ := Bool.and_eq_true_iff.mp mm
  obtain ⟨xi_Store, mm⟩ := Bool.and_eq_true_iff.mp mm
  obtain ⟨xi_Book, mm⟩ := Bool.and_eq_true_iff.mp mm
  obtain ⟨m3, mm⟩ := Bool.and_eq_true_iff.mp mm
  obtain ⟨m4, mm⟩ := Bool.and_eq_true_iff.mp mm
  obtain ⟨m5, mm⟩ := Bool.and_eq_true_iff.mp mm
  obtain ⟨m6, mm⟩ := Bool.and_eq_true_iff.mp mm
  obtain ⟨m8, mm⟩ := Bool.and_eq_true_iff.mp mm
  obtain ⟨q3, mm⟩ := Bool.and_eq_true_iff.mp mm
  obtain ⟨q4, mm⟩ := Bool.and_eq_true_iff.mp mm
  obtain ⟨q8, mm⟩ := Bool.and_eq_true_iff.mp mm
  obtain ⟨n1, mm⟩ := Bool.and_eq_true_iff.mp mm
  have b2 := mm
  have glo : ∀ (i : Nat) (x : Str), faL[i]? = some (.glo x) → mg x = some (.ref (He.ga K x)) := fun i x e => He.glo_ok X G (c.fact i e)
  have fr : ∀ (i : Nat) (x : Str), faL[i]? = some (.free x) → mg x = none := fun i x e => He.free_ok X G (c.fact i e)
  have B : Bi mg := ⟨fr 81 _ rfl, fr 82 _ rfl, fr 83 _ rfl, fr 84 _ rfl, fr 85 _ rfl, fr 86 _ rfl, fr 87 _ rfl, fr 88 _ rfl, fr 89 _ rfl, fr 90 _ rfl, fr 91 _ rfl, fr 92 _ rfl, fr 93 _ rfl, fr 94 _ rfl⟩
  obtain ⟨fd_is_integer, D_is_integer⟩ := c.def_ 0 (d := gd "is_integer" (topS 18)) rfl
  have E_is_integer : Fun K "is_integer" "is_integer" (topS 18) _ fd_is_integer := fun_of D_is_integer
  obtain ⟨fd_is_list, D_is_list⟩ := c.def_ 1 (d := gd "is_list" (topS 19)) rfl
  have E_is_list : Fun K "is_list" "is_list" (topS 19) _ fd_is_list := fun_of D_is_list
  obtain ⟨fd_is_name, D_is_name⟩ := c.def_ 2 (d := gd "is_name" (topS 20)) rfl
  have E_is_name : Fun K "is_name" "is_name" (topS 20) _ fd_is_name := fun_of D_is_name
  obtain ⟨fd_greatest_divisor, D_greatest_divisor⟩ := c.def_ 3 (d := gd "greatest_divisor" (topS 21)) rfl
  have E_greatest_divisor : Fun K "greatest_divisor" "greatest_divisor" (topS 21) _ fd_greatest_divisor := fun_of D_greatest_divisor
  obtain ⟨fd_fraction, D_fraction⟩ := c.def_ 4 (d := gd "fraction" (topS 22)) rfl
  have E_fraction : Fun K "fraction" "fraction" (topS 22) _ fd_fraction := fun_of D_fraction
  obtain ⟨fd_size_of, D_size_of⟩ := c.def_ 5 (d := gd "size_of" (topS 23)) rfl
  have E_size_of : Fun K "size_of" "size_of" (topS 23) _ fd_size_of := fun_of D_size_of
  obtain ⟨fd_plus, D_plus⟩ := c.def_ 6 (d := gd "plus" (topS 24)) rfl
  have E_plus : Fun K "plus" "plus" (topS 24) _ fd_plus := fun_of D_plus
  obtain ⟨fd_times, D_times⟩ := c.def_ 7 (d := gd "times" (topS 25)) rfl
  have E_times : Fun K "times" "times" (topS 25) _ fd_times := fun_of D_times
  obtain ⟨fd_sum_of, D_sum_of⟩ := c.def_ 8 (d := gd "sum_of" (topS 27)) rfl
  have E_sum_of : Fun K "sum_of" "sum_of" (topS 27) _ fd_sum_of := fun_of D_sum_of
  obtain ⟨fd_first_wrong, D_first_wrong⟩ := c.def_ 9 (d := gd "first_wrong" (topS 33)) rfl
  have E_first_wrong : Fun K "first_wrong" "first_wrong" (topS 33) _ fd_first_wrong := fun_of D_first_wrong
  obtain ⟨fd_choices, D_choices⟩ := c.def_ 10 (d := gd "choices" (topS 34)) rfl
  have E_choices : Fun K "choices" "choices" (topS 34) _ fd_choices := fun_of D_choices
  obtain ⟨fd_choices_of, D_choices_of⟩ := c.def_ 11 (d := gd "choices_of" (topS 35)) rfl
  have E_choices_of : Fun K "choices_of" "choices_of" (topS 35) _ fd_choices_of := fun_of D_choices_of
  obtain ⟨fd_rows_of_neighbours, D_rows_of_neighbours⟩ := c.def_ 12 (d := gd "rows_of_neighbours" (topS 36)) rfl
  have E_rows_of_neighbours : Fun K "rows_of_neighbours" "rows_of_neighbours" (topS 36) _ fd_rows_of_neighbours := fun_of D_rows_of_neighbours
  obtain ⟨fd_lot_of, D_lot_of⟩ := c.def_ 13 (d := gd "lot_of" (topS 37)) rfl
  have E_lot_of : Fun K "lot_of" "lot_of" (topS 37) _ fd_lot_of := fun_of D_lot_of
  obtain ⟨fd_by_lots, D_by_lots⟩ := c.def_ 14 (d := gd "by_lots" (topS 41)) rfl
  have E_by_lots : Fun K "by_lots" "by_lots" (topS 41) _ fd_by_lots := fun_of D_by_lots
  obtain ⟨fd_numbers_by_lots, D_numbers_by_lots⟩ := c.def_ 15 (d := gd "numbers_by_lots" (topS 46)) rfl
  have E_numbers_by_lots : Fun K "numbers_by_lots" "numbers_by_lots" (topS 46) _ fd_numbers_by_lots := fun_of D_numbers_by_lots
  obtain ⟨fd_place_in, D_place_in⟩ := c.def_ 16 (d := gd "place_in" (topS 60)) rfl
  have E_place_in : Fun K "place_in" "place_in" (topS 60) _ fd_place_in := fun_of D_place_in
  obtain ⟨fd_is_end, D_is_end⟩ := c.def_ 17 (d := gd "is_end" (topS 61)) rfl
  have E_is_end : Fun K "is_end" "is_end" (topS 61) _ fd_is_end := fun_of D_is_end
  obtain ⟨fd_ends_of, D_ends_of⟩ := c.def_ 18 (d := gd "ends_of" (topS 62)) rfl
  have E_ends_of : Fun K "ends_of" "ends_of" (topS 62) _ fd_ends_of := fun_of D_ends_of
  obtain ⟨fd_read, D_read⟩ := c.def_ 19 (d := gd "read" (topS 73)) rfl
  have E_read : Fun K "read" "read" (topS 73) _ fd_read := fun_of D_read
  obtain ⟨fd_line_of_size, D_line_of_size⟩ := c.def_ 20 (d := gd "line_of_size" (topS 74)) rfl
  have E_line_of_size : Fun K "line_of_size" "line_of_size" (topS 74) _ fd_line_of_size := fun_of D_line_of_size
  obtain ⟨fd_line_of_telling, D_line_of_telling⟩ := c.def_ 21 (d := gd "line_of_telling" (topS 75)) rfl
  have E_line_of_telling : Fun K "line_of_telling" "line_of_telling" (topS 75) _ fd_line_of_telling := fun_of D_line_of_telling
  obtain ⟨fd_head_told, D_head_told⟩ := c.def_ 22 (d := gd "head_told" (topS 76)) rfl
  have E_head_told : Fun K "head_told" "head_told" (topS 76) _ fd_head_told := fun_of D_head_told
  obtain ⟨fd_store_told, D_store_told⟩ := c.def_ 23 (d := gd "store_told" (topS 77)) rfl
  have E_store_told : Fun K "store_told" "store_told" (topS 77) _ fd_store_told := fun_of D_store_told
  obtain ⟨fd_book_told, D_book_told⟩ := c.def_ 24 (d := gd "book_told" (topS 78)) rfl
  have E_book_told : Fun K "book_told" "book_told" (topS 78) _ fd_book_told := fun_of D_book_told
  obtain ⟨fd_size_told, D_size_told⟩ := c.def_ 25 (d := gd "size_told" (topS 79)) rfl
  have E_size_told : Fun K "size_told" "size_told" (topS 79) _ fd_size_told := fun_of D_size_told
  obtain ⟨fd_telling_told, D_telling_told⟩ := c.def_ 26 (d := gd "telling_told" (topS 80)) rfl
  have E_telling_told : Fun K "telling_told" "telling_told" (topS 80) _ fd_telling_told := fun_of D_telling_told
  obtain ⟨fd_weights_told, D_weights_told⟩ := c.def_ 27 (d := gd "weights_told" (topS 81)) rfl
  have E_weights_told : Fun K "weights_told" "weights_told" (topS 81) _ fd_weights_told := fun_of D_weights_told
  obtain ⟨fd_integer_told, D_integer_told⟩ := c.def_ 28 (d := gd "integer_told" (topS 82)) rfl
  have E_integer_told : Fun K "integer_told" "integer_told" (topS 82) _ fd_integer_told := fun_of D_integer_told
  obtain ⟨fd__law_start, D__law_start⟩ := c.def_ 29 (d := gd "_law_start" (topS 84)) rfl
  have E__law_start : Fun K "_law_start" "_law_start" (topS 84) _ fd__law_start := fun_of D__law_start
  obtain ⟨fd__law_draw, D__law_draw⟩ := c.def_ 30 (d := gd "_law_draw" (topS 85)) rfl
  have E__law_draw : Fun K "_law_draw" "_law_draw" (topS 85) _ fd__law_draw := fun_of D__law_draw
  obtain ⟨fd__law_pick, D__law_pick⟩ := c.def_ 31 (d := gd "_law_pick" (topS 86)) rfl
  have E__law_pick : Fun K "_law_pick" "_law_pick" (topS 86) _ fd__law_pick := fun_of D__law_pick
  obtain ⟨fd__law_same, D__law_same⟩ := c.def_ 32 (d := gd "_law_same" (topS 87)) rfl
  have E__law_same : Fun K "_law_same" "_law_same" (topS 87) _ fd__law_same := fun_of D__law_same
  obtain ⟨fd__law_bad_heads, D__law_bad_heads⟩ := c.def_ 33 (d := gd "_law_bad_heads" (topS 88)) rfl
  have E__law_bad_heads : Fun K "_law_bad_heads" "_law_bad_heads" (topS 88) _ fd__law_bad_heads := fun_of D__law_bad_heads
  obtain ⟨fd__law_bad_store_lines, D__law_bad_store_lines⟩ := c.def_ 34 (d := gd "_law_bad_store_lines" (topS 89)) rfl
  have E__law_bad_store_lines : Fun K "_law_bad_store_lines" "_law_bad_store_lines" (topS 89) _ fd__law_bad_store_lines := fun_of D__law_bad_store_lines
  obtain ⟨fd__law_bad_book_lines, D__law_bad_book_lines⟩ := c.def_ 35 (d := gd "_law_bad_book_lines" (topS 90)) rfl
  have E__law_bad_book_lines : Fun K "_law_bad_book_lines" "_law_bad_book_lines" (topS 90) _ fd__law_bad_book_lines := fun_of D__law_bad_book_lines
  obtain ⟨fd__law_tried, D__law_tried⟩ := c.def_ 36 (d := gd "_law_tried" (topS 91)) rfl
  have E__law_tried : Fun K "_law_tried" "_law_tried" (topS 91) _ fd__law_tried := fun_of D__law_tried
  obtain ⟨fd__law_are_refused, D__law_are_refused⟩ := c.def_ 37 (d := gd "_law_are_refused" (topS 92)) rfl
  have E__law_are_refused : Fun K "_law_are_refused" "_law_are_refused" (topS 92) _ fd__law_are_refused := fun_of D__law_are_refused
  obtain ⟨fd_law, D_law⟩ := c.def_ 38 (d := gd "law" (topS 93)) rfl
  have E_law : Fun K "law" "law" (topS 93) _ fd_law := fun_of D_law
  obtain ⟨fd_BadFolders_init, D_BadFolders_init⟩ := c.def_ 39 (d := md "BadFolders" "__init__" "BadFolders.__init__" (inClass (topS 3) 0) []) rfl
  have E_BadFolders_init : Fun K "__init__" "BadFolders.__init__" (inClass (topS 3) 0) _ fd_BadFolders_init := fun_of D_BadFolders_init
  obtain ⟨fd_BadText_init, D_BadText_init⟩ := c.def_ 40 (d := md "BadText" "__init__" "BadText.__init__" (inClass (topS 13) 0) []) rfl
  have E_BadText_init : Fun K "__init__" "BadText.__init__" (inClass (topS 13) 0) _ fd_BadText_init := fun_of D_BadText_init
  obtain ⟨fd_Folders_init, D_Folders_init⟩ := c.def_ 41 (d := md "Folders" "__init__" "Folders.__init__" (inClass (topS 32) 0) [("chain", .bl false)]) rfl
  have F_Folders_init : FunD K "__init__" "Folders.__init__" (defArgs (inClass (topS 32) 0)) (defBody (inClass (topS 32) 0)) (defScope (inClass (topS 32) 0)) [] [("chain", .bl false)] _ fd_Folders_init := D_Folders_init
  obtain ⟨fd_Folders_len, D_Folders_len⟩ := c.def_ 42 (d := md "Folders" "__len__" "Folders.__len__" (inClass (topS 32) 1) []) rfl
  have E_Folders_len : Fun K "__len__" "Folders.__len__" (inClass (topS 32) 1) _ fd_Folders_len := fun_of D_Folders_len
  obtain ⟨fd_Folders_eq, D_Folders_eq⟩ := c.def_ 43 (d := md "Folders" "__eq__" "Folders.__eq__" (inClass (topS 32) 3) []) rfl
  have E_Folders_eq : Fun K "__eq__" "Folders.__eq__" (inClass (topS 32) 3) _ fd_Folders_eq := fun_of D_Folders_eq
  obtain ⟨fd_Question_init, D_Question_init⟩ := c.def_ 44 (d := mdd "Question" "__init__" "Question.__init__" (inClass (topS 45) 0) [.non]) rfl
  have F_Question_init : FunD K "__init__" "Question.__init__" (defArgs (inClass (topS 45) 0)) (defBody (inClass (topS 45) 0)) (defScope (inClass (topS 45) 0)) [.non] [] _ fd_Question_init := D_Question_init
  obtain ⟨fd_Question_eq, D_Question_eq⟩ := c.def_ 45 (d := md "Question" "__eq__" "Question.__eq__" (inClass (topS 45) 1) []) rfl
  have E_Question_eq : Fun K "__eq__" "Question.__eq__" (inClass (topS 45) 1) _ fd_Question_eq := fun_of D_Question_eq
  obtain ⟨fd_Question_counts, D_Question_counts⟩ := c.def_ 46 (d := md "Question" "counts" "Question.counts" (inClass (topS 45) 9) []) rfl
  have E_Question_counts : Fun K "counts" "Question.counts" (inClass (topS 45) 9) _ fd_Question_counts := fun_of D_Question_counts
  obtain ⟨fd_Store_init, D_Store_init⟩ := c.def_ 47 (d := mdd "Store" "__init__" "Store.__init__" (inClass (topS 40) 0) [.non]) rfl
  have F_Store_init : FunD K "__init__" "Store.__init__" (defArgs (inClass (topS 40) 0)) (defBody (inClass (topS 40) 0)) (defScope (inClass (topS 40) 0)) [.non] [] _ fd_Store_init := D_Store_init
  obtain ⟨fd_Book_init, D_Book_init⟩ := c.def_ 48 (d := md "Book" "__init__" "Book.__init__" (inClass (topS 59) 0) []) rfl
  have E_Book_init : Fun K "__init__" "Book.__init__" (inClass (topS 59) 0) _ fd_Book_init := fun_of D_Book_init
  obtain ⟨fd_Book_setitem, D_Book_setitem⟩ := c.def_ 49 (d := md "Book" "__setitem__" "Book.__setitem__" (inClass (topS 59) 2) []) rfl
  have E_Book_setitem : Fun K "__setitem__" "Book.__setitem__" (inClass (topS 59) 2) _ fd_Book_setitem := fun_of D_Book_setitem
  obtain ⟨fd_Book_contains, D_Book_contains⟩ := c.def_ 50 (d := md "Book" "__contains__" "Book.__contains__" (inClass (topS 59) 4) []) rfl
  have E_Book_contains : Fun K "__contains__" "Book.__contains__" (inClass (topS 59) 4) _ fd_Book_contains := fun_of D_Book_contains
  have g_is_integer := glo 0 "is_integer" rfl
  have g_is_list := glo 1 "is_list" rfl
  have g_is_name := glo 2 "is_name" rfl
  have g_greatest_divisor := glo 3 "greatest_divisor" rfl
  have g_fraction := glo 4 "fraction" rfl
  have g_size_of := glo 5 "size_of" rfl
  have g_plus := glo 6 "plus" rfl
  have g_times := glo 7 "times" rfl
  have g_sum_of := glo 8 "sum_of" rfl
  have g_first_wrong := glo 9 "first_wrong" rfl
  have g_choices := glo 10 "choices" rfl
  have g_choices_of := glo 11 "choices_of" rfl
  have g_rows_of_neighbours := glo 12 "rows_of_neighbours" rfl
  have g_lot_of := glo 13 "lot_of" rfl
  have g_by_lots := glo 14 "by_lots" rfl
  have g_numbers_by_lots := glo 15 "numbers_by_lots" rfl
  have g_place_in := glo 16 "place_in" rfl
  have g_is_end := glo 17 "is_end" rfl
  have g_ends_of := glo 18 "ends_of" rfl
  have g_read := glo 19 "read" rfl
  have g_line_of_size := glo 20 "line_of_size" rfl
  have g_line_of_telling := glo 21 "line_of_telling" rfl
  have g_head_told := glo 22 "head_told" rfl
  have g_store_told := glo 23 "store_told" rfl
  have g_book_told := glo 24 "book_told" rfl
  have g_size_told := glo 25 "size_told" rfl
  have g_telling_told := glo 26 "telling_told" rfl
  have g_weights_told := glo 27 "weights_told" rfl
  have g_integer_told := glo 28 "integer_told" rfl
  have g__law_start := glo 29 "_law_start" rfl
  have g__law_draw := glo 30 "_law_draw" rfl
  have g__law_pick := glo 31 "_law_pick" rfl
  have g__law_same := glo 32 "_law_same" rfl
  have g__law_bad_heads := glo 33 "_law_bad_heads" rfl
  have g__law_bad_store_lines := glo 34 "_law_bad_store_lines" rfl
  have g__law_bad_book_lines := glo 35 "_law_bad_book_lines" rfl
  have g__law_tried := glo 36 "_law_tried" rfl
  have g__law_are_refused := glo 37 "_law_are_refused" rfl
  have g_law := glo 38 "law" rfl
  have g_BadFolders := glo 39 "BadFolders" rfl
  have g_BadText := glo 40 "BadText" rfl
  have g_Folders := glo 41 "Folders" rfl
  have g_Question := glo 42 "Question" rfl
  have g_Store := glo 43 "Store" rfl
  have g_Book := glo 44 "Book" rfl
  have g_NOTHING := glo 45 "NOTHING" rfl
  have e := hfa.symm.trans g_law
  cases e
  obtain ⟨t_LETTERS, k_LETTERS⟩ := He.str_ok X G (c.fact 46 (f := .str "LETTERS" "abcdefghijklmnopqrstuvwxyz") rfl)
  obtain ⟨t_LONGEST_NAME, k_LONGEST_NAME⟩ := He.int_ok X G (c.fact 47 (f := .int "LONGEST_NAME" 8) rfl)
  obtain ⟨t_MOST_FOLDERS, k_MOST_FOLDERS⟩ := He.int_ok X G (c.fact 48 (f := .int "MOST_FOLDERS" 5) rfl)
  obtain ⟨t_MOST_IN_CHAIN, k_MOST_IN_CHAIN⟩ := He.int_ok X G (c.fact 49 (f := .int "MOST_IN_CHAIN" 12) rfl)
  obtain ⟨t_FIGURES, k_FIGURES⟩ := He.str_ok X G (c.fact 50 (f := .str "FIGURES" "0123456789") rfl)
  have M_BadFolders := He.meth_ok (c.fact 51 (f := .meth "BadFolders" "__init__") rfl)
  have T_BadFolders : ExT K mg "BadFolders" _ _ "index" := errB_ok xe_BadFolders g_BadFolders (He.noat_ok (c.fact 52 (f := .noat "BadFolders" "index") rfl)) M_BadFolders.at_ (He.exm_ok (c.fact 53 (f := .exm "BadFolders" "BadFolders" true) rfl))
  have M_BadText := He.meth_ok (c.fact 54 (f := .meth "BadText" "__init__") rfl)
  have T_BadText : ExT K mg "BadText" _ _ "line" := errB_ok xe_BadText g_BadText (He.noat_ok (c.fact 55 (f := .noat "BadText" "line") rfl)) M_BadText.at_ (He.exm_ok (c.fact 56 (f := .exm "BadText" "BadText" true) rfl))
  have cl_Folders := He.cls_ok (c.fact 57 (f := .cls "Folders") rfl)
  have a_Folders_names := He.noat_ok (c.fact 58 (f := .noat "Folders" "names") rfl)
  have a_Folders_chain := He.noat_ok (c.fact 59 (f := .noat "Folders" "chain") rfl)
  have a_Folders_places := He.noat_ok (c.fact 60 (f := .noat "Folders" "places") rfl)
  have r_Folders := He.mkr_ok (c.fact 61 (f := .mkr "Folders") rfl)
  have m_Folders_len := He.meth_ok (c.fact 62 (f := .meth "Folders" "__len__") rfl)
  have m_Folders_eq := He.meth_ok (c.fact 63 (f := .meth "Folders" "__eq__") rfl)
  have cl_Question := He.cls_ok (c.fact 64 (f := .cls "Question") rfl)
  have a_Question_folders := He.noat_ok (c.fact 65 (f := .noat "Question" "folders") rfl)
  have a_Question_table := He.noat_ok (c.fact 66 (f := .noat "Question" "table") rfl)
  have r_Question := He.mkr_ok (c.fact 67 (f := .mkr "Question") rfl)
  have m_Question_eq := He.meth_ok (c.fact 68 (f := .meth "Question" "__eq__") rfl)
  have m_Question_counts := He.meth_ok (c.fact 69 (f := .meth "Question" "counts") rfl)
  have cl_Store := He.cls_ok (c.fact 70 (f := .cls "Store") rfl)
  have a_Store_folders := He.noat_ok (c.fact 71 (f := .noat "Store" "folders") rfl)
  have a_Store_table := He.noat_ok (c.fact 72 (f := .noat "Store" "table") rfl)
  have r_Store := He.mkr_ok (c.fact 73 (f := .mkr "Store") rfl)
  have cl_Book := He.cls_ok (c.fact 74 (f := .cls "Book") rfl)
  have a_Book_folders := He.noat_ok (c.fact 75 (f := .noat "Book" "folders") rfl)
  have a_Book_questions := He.noat_ok (c.fact 76 (f := .noat "Book" "questions") rfl)
  have a_Book_ends := He.noat_ok (c.fact 77 (f := .noat "Book" "ends") rfl)
  have r_Book := He.mkr_ok (c.fact 78 (f := .mkr "Book") rfl)
  have m_Book_setitem := He.meth_ok (c.fact 79 (f := .meth "Book" "__setitem__") rfl)
  have m_Book_contains := He.meth_ok (c.fact 80 (f := .meth "Book" "__contains__") rfl)
  have T : FolT K mg _ _ := ⟨g_Folders, cl_Folders, a_Folders_names, a_Folders_chain, a_Folders_places, r_Folders⟩
  obtain ⟨ds, dF, bF⟩ := FunD.binds0 (ps := ["self", "names", "chain"]) F_Folders_init 2 (fun z => by cases z) rfl fun D doc pm an cdv ct us ks hl hk => match us, hl, ks, hk with
    | [_, _], _, [_], _ => ⟨_, _, _, _, _, _, rfl, rfl, rfl⟩
  obtain ⟨mv, bK⟩ := FunD.kbinds0 (ps := ["self", "names", "chain"]) F_Folders_init 2 ["chain"] [] (fun us mz ws => us ++ ws) (fun z => by cases z) (fun _ m => nomatch m) (fun r1 _ r3 => r1.append r3) fun D doc pm an cdv ct us mv ws l1 l2 l3 => match us, l1, mv, l2, ws, l3 with
    | [_, _], _, [], _, [_], _ => rfl
  have bl : ∀ (s : Shared) (v : Value), BindsTo s fd_law ⟨[v], []⟩ [("_law_script", v)] := fun s v => FunD.bindsA (ps := ["_law_script"]) D_law (fun _ _ _ _ _ _ us hl => match us, hl with | [_], _ => rfl) s [v] rfl
  refine ⟨fd_law, bl, fun base _ _ => ?_⟩
  have c_is_list : Cal P w K mg base CX0 1 "is_list" _ fd_is_list ["thing"] (spIsList K) := ⟨ok_is_list B E_is_list, g_is_list, E_is_list.kp, E_is_list.binds (fun _ _ _ _ _ _ us hl => match us, hl with | [_], _ => rfl)⟩
  have c_is_name : Cal P w K mg base CX0 1 "is_name" _ fd_is_name ["thing"] (spIsName K) := ⟨ok_is_name B k_LETTERS k_LONGEST_NAME E_is_name, g_is_name, E_is_name.kp, E_is_name.binds (fun _ _ _ _ _ _ us hl => match us, hl with | [_], _ => rfl)⟩
  have c_first_wrong : Cal P w K mg base CX0 2 "first_wrong" _ fd_first_wrong ["names", "most"] (spFirstWrong K) := ⟨ok_first B c_is_list c_is_name E_first_wrong, g_first_wrong, E_first_wrong.kp, E_first_wrong.binds (fun _ _ _ _ _ _ us hl => match us, hl with | [_, _], _ => rfl)⟩
  have c_choices_of : Cal P w K mg base CX0 1 "choices_of" _ fd_choices_of ["things", "many"] (spChoicesOf K) := ⟨ok_choices_of B E_choices_of, g_choices_of, E_choices_of.kp, E_choices_of.binds (fun _ _ _ _ _ _ us hl => match us, hl with | [_, _], _ => rfl)⟩
  have c_choices : Cal P w K mg base CX0 2 "choices" _ fd_choices ["things"] (spChoices K) := ⟨ok_choices B c_choices_of E_choices, g_choices, E_choices.kp, E_choices.binds (fun _ _ _ _ _ _ us hl => match us, hl with | [_], _ => rfl)⟩
  have c_rows_of_neighbours : Cal P w K mg base CX0 1 "rows_of_neighbours" _ fd_rows_of_neighbours ["names"] spNeigh := ⟨ok_neigh B E_rows_of_neighbours, g_rows_of_neighbours, E_rows_of_neighbours.kp, E_rows_of_neighbours.binds (fun _ _ _ _ _ _ us hl => match us, hl with | [_], _ => rfl)⟩
  have c__law_start : Cal P w K mg base CX0 1 "_law_start" _ fd__law_start ["_law_script"] (spStart K) := ⟨ok_start B E__law_start, g__law_start, E__law_start.kp, E__law_start.binds (fun _ _ _ _ _ _ us hl => match us, hl with | [_], _ => rfl)⟩
  have c__law_draw : Cal P w K mg base CX0 1 "_law_draw" _ fd__law_draw ["_law_stream", "_law_many"] spDraw := ⟨ok_draw B E__law_draw, g__law_draw, E__law_draw.kp, E__law_draw.binds (fun _ _ _ _ _ _ us hl => match us, hl with | [_, _], _ => rfl)⟩
  have c__law_pick : Cal P w K mg base CX0 2 "_law_pick" _ fd__law_pick ["_law_stream", "_law_some"] (spPick K) := ⟨ok_pick B c__law_draw E__law_pick, g__law_pick, E__law_pick.kp, E__law_pick.binds (fun _ _ _ _ _ _ us hl => match us, hl with | [_, _], _ => rfl)⟩
  have b_same : Binds K fd__law_same ["_law_found", "_law_due"] [] := E__law_same.binds (fun _ _ _ _ _ _ us hl => match us, hl with | [_, _], _ => rfl)
  have c__law_same : Cal P w K mg base CX0 5 "_law_same" _ fd__law_same ["_law_found", "_law_due"] (spSame K 4) := ⟨ok_same B E__law_same g__law_same b_same 4, g__law_same, E__law_same.kp, b_same⟩
  have GF := ok_folders (P := P) (w := w) (base := base) B k_MOST_FOLDERS k_MOST_IN_CHAIN T_BadFolders T (ok_BF T_BadFolders E_BadFolders_init) (E_BadFolders_init.binds (fun _ _ _ _ _ _ us hl => match us, hl with | [_, _], _ => rfl)) c_first_wrong c_choices c_rows_of_neighbours F_Folders_init
  have GE := ok_feq (P := P) (w := w) (base := base) B T E_Folders_eq
  have bE : Binds K fd_Folders_eq ["self", "other"] [] := E_Folders_eq.binds (fun _ _ _ _ _ _ us hl => match us, hl with | [_, _], _ => rfl)
  have oE : Own K _ "__eq__" _ := ⟨m_Folders_eq.at_, m_Folders_eq.fn⟩
  have c_is_integer : Cal P w K mg base CX0 1 "is_integer" _ fd_is_integer ["thing"] (spIsInt K) := ⟨ok_is_int B E_is_integer, g_is_integer, E_is_integer.kp, E_is_integer.binds (fun _ _ _ _ _ _ us hl => match us, hl with | [_], _ => rfl)⟩
  have c_lot_of : Cal P w K mg base CX0 2 "lot_of" _ fd_lot_of ["folders", "thing"] (spLotOf K _) := ⟨ok_lot_of B T c_is_list E_lot_of, g_lot_of, E_lot_of.kp, E_lot_of.binds (fun _ _ _ _ _ _ us hl => match us, hl with | [_, _], _ => rfl)⟩
  have c_numbers_by_lots : Cal P w K mg base CX0 3 "numbers_by_lots" _ fd_numbers_by_lots ["folders", "weights"] (spNums K _) := ⟨ok_nums B T c_lot_of c_is_integer E_numbers_by_lots, g_numbers_by_lots, E_numbers_by_lots.kp, E_numbers_by_lots.binds (fun _ _ _ _ _ _ us hl => match us, hl with | [_, _], _ => rfl)⟩
  have TQ : QueT K mg _ _ := ⟨g_Question, cl_Question, a_Question_folders, a_Question_table, r_Question⟩
  obtain ⟨dq0, dqv, bQ0⟩ := FunD.binds1 (ps := ["self", "folders", "weights"]) F_Question_init 3 1 (fun z => by cases z) rfl fun T kV doc pm an cdv ct us its hl hi => match us, hl, its, hi with
    | [_, _, _], _, [_], _ => ⟨_, rfl, rfl⟩
  have bQ : Binds K fd_Question_init ["self", "folders", "weights"] [] := by
    cases dqv
    exact bQ0
  have GQ := ok_quest (P := P) (w := w) (base := base) B T TQ c_numbers_by_lots F_Question_init
  have oQ : Own K _ "__eq__" _ := ⟨m_Question_eq.at_, m_Question_eq.fn⟩
  have GQE := ok_qeq (P := P) (w := w) (base := base) B T TQ (of_decide_eq_true q4) (insB_ok xi_Question cl_Question) (of_decide_eq_true m4) m8 (insB_ok xi_Folders cl_Folders) GE bE oE E_Question_eq
  have bQE : Binds K fd_Question_eq ["self", "other"] [] := E_Question_eq.binds (fun _ _ _ _ _ _ us hl => match us, hl with | [_, _], _ => rfl)
  have c_greatest_divisor : Cal P w K mg base CX0 1 "greatest_divisor" _ fd_greatest_divisor ["one", "other"] spGcd := ⟨ok_gcd E_greatest_divisor, g_greatest_divisor, E_greatest_divisor.kp, E_greatest_divisor.binds (fun _ _ _ _ _ _ us hl => match us, hl with | [_, _], _ => rfl)⟩
  have c_fraction : Cal P w K mg base CX0 2 "fraction" _ fd_fraction ["top", "bottom"] spFrac := ⟨ok_frac B c_greatest_divisor E_fraction, g_fraction, E_fraction.kp, E_fraction.binds (fun _ _ _ _ _ _ us hl => match us, hl with | [_, _], _ => rfl)⟩
  have c_plus : Cal P w K mg base CX0 3 "plus" _ fd_plus ["one", "other"] (spPlusF K) := ⟨ok_pl B c_fraction E_plus, g_plus, E_plus.kp, E_plus.binds (fun _ _ _ _ _ _ us hl => match us, hl with | [_, _], _ => rfl)⟩
  have c_times : Cal P w K mg base CX0 3 "times" _ fd_times ["one", "other"] (spTimesF K) := ⟨ok_ti B c_fraction E_times, g_times, E_times.kp, E_times.binds (fun _ _ _ _ _ _ us hl => match us, hl with | [_, _], _ => rfl)⟩
  have TNo : NoT K mg _ := ⟨g_NOTHING, fun H => pairB_ok n1 H⟩
  have c_sum_of : Cal P w K mg base CX0 4 "sum_of" _ fd_sum_of ["fractions"] (spSumF K) := ⟨ok_sum B TNo c_plus E_sum_of, g_sum_of, E_sum_of.kp, E_sum_of.binds (fun _ _ _ _ _ _ us hl => match us, hl with | [_], _ => rfl)⟩
  have c_size_of : Cal P w K mg base CX0 3 "size_of" _ fd_size_of ["thing"] (spSizeQ K) := ⟨ok_size B c_is_integer c_is_list c_fraction E_size_of, g_size_of, E_size_of.kp, E_size_of.binds (fun _ _ _ _ _ _ us hl => match us, hl with | [_], _ => rfl)⟩
  have c_by_lots : Cal P w K mg base CX0 3 "by_lots" _ fd_by_lots ["folders", "told"] (spByLots K _) := ⟨ok_by_lots B T c_lot_of E_by_lots, g_by_lots, E_by_lots.kp, E_by_lots.binds (fun _ _ _ _ _ _ us hl => match us, hl with | [_, _], _ => rfl)⟩
  have TS : StoT K mg _ _ := ⟨g_Store, cl_Store, a_Store_folders, a_Store_table, r_Store⟩
  obtain ⟨dst, dsv, bSt0⟩ := FunD.binds1 (ps := ["self", "folders", "sizes"]) F_Store_init 3 1 (fun z => by cases z) rfl fun T kV doc pm an cdv ct us its hl hi => match us, hl, its, hi with
    | [_, _, _], _, [_], _ => ⟨_, rfl, rfl⟩
  have bSt : Binds K fd_Store_init ["self", "folders", "sizes"] [] := by
    cases dsv
    exact bSt0
  have GSt := ok_store (P := P) (w := w) (base := base) B T TS TNo c_by_lots c_size_of F_Store_init
  have c_place_in : Cal P w K mg base CX0 3 "place_in" _ fd_place_in ["questions", "thing"] (spPlaceIn _ _) := ⟨ok_place_in B GQE bQE oQ q8 (insB_ok xi_Question cl_Question) E_place_in, g_place_in, E_place_in.kp, E_place_in.binds (fun _ _ _ _ _ _ us hl => match us, hl with | [_, _], _ => rfl)⟩
  have c_is_end : Cal P w K mg base CX0 2 "is_end" _ fd_is_end ["thing"] spIsEnd := ⟨ok_is_end B c_is_integer E_is_end, g_is_end, E_is_end.kp, E_is_end.binds (fun _ _ _ _ _ _ us hl => match us, hl with | [_], _ => rfl)⟩
  have c_ends_of : Cal P w K mg base CX0 3 "ends_of" _ fd_ends_of ["told"] (spEndsOf K) := ⟨ok_ends_of B c_is_integer c_is_list c_is_end E_ends_of, g_ends_of, E_ends_of.kp, E_ends_of.binds (fun _ _ _ _ _ _ us hl => match us, hl with | [_], _ => rfl)⟩
  have ca_is_end : Cal P w K mg base CX0 2 "is_end" _ fd_is_end ["thing"] spIsEndA := ⟨ok_is_endA B c_is_integer E_is_end, g_is_end, E_is_end.kp, E_is_end.binds (fun _ _ _ _ _ _ us hl => match us, hl with | [_], _ => rfl)⟩
  have cn_ends_of : Cal P w K mg base CX0 3 "ends_of" _ fd_ends_of ["told"] spEndsNo := ⟨ok_ends_no B c_is_integer c_is_list ca_is_end E_ends_of, g_ends_of, E_ends_of.kp, E_ends_of.binds (fun _ _ _ _ _ _ us hl => match us, hl with | [_], _ => rfl)⟩
  have co_ends_of : Cal P w K mg base CX0 3 "ends_of" _ fd_ends_of ["told"] (fun vs H Q E => spEndsOf K vs H Q E ∨ spEndsNo vs H Q E) := ⟨FnOk.or c_ends_of.ok cn_ends_of.ok, c_ends_of.g, c_ends_of.kp, c_ends_of.b⟩
  have c_integer_told : Cal P w K mg base CX0 1 "integer_told" _ fd_integer_told ["text"] spIntT := ⟨ok_intT B k_FIGURES E_integer_told, g_integer_told, E_integer_told.kp, E_integer_told.binds (fun _ _ _ _ _ _ us hl => match us, hl with | [_], _ => rfl)⟩
  have c_head_told : Cal P w K mg base CX0 5 "head_told" _ fd_head_told ["line"] (spHeadT _) := ⟨ok_headT B T T_BadFolders GF bK E_head_told, g_head_told, E_head_told.kp, E_head_told.binds (fun _ _ _ _ _ _ us hl => match us, hl with | [_], _ => rfl)⟩
  have c_line_of_size : Cal P w K mg base CX0 1 "line_of_size" _ fd_line_of_size ["lot", "size"] spLineS := ⟨ok_lineS B E_line_of_size, g_line_of_size, E_line_of_size.kp, E_line_of_size.binds (fun _ _ _ _ _ _ us hl => match us, hl with | [_, _], _ => rfl)⟩
  have co_size_of : Cal P w K mg base CX0 3 "size_of" _ fd_size_of ["thing"] spSizeO := ⟨ok_sizeO B c_is_integer c_is_list c_fraction E_size_of, g_size_of, E_size_of.kp, E_size_of.binds (fun _ _ _ _ _ _ us hl => match us, hl with | [_], _ => rfl)⟩
  have c_size_told : Cal P w K mg base CX0 4 "size_told" _ fd_size_told ["folders", "line"] (spSizeT _) := ⟨ok_sizeT B TNo c_integer_told c_lot_of co_size_of c_line_of_size E_size_told, g_size_told, E_size_told.kp, E_size_told.binds (fun _ _ _ _ _ _ us hl => match us, hl with | [_, _], _ => rfl)⟩
  have GBX := ok_BX (P := P) (w := w) (base := base) T_BadText E_BadText_init
  have b_BadText_init : Binds K fd_BadText_init ["self", "line"] [] := E_BadText_init.binds (fun _ _ _ _ _ _ us hl => match us, hl with | [_, _], _ => rfl)
  have c_store_told : Cal P w K mg base (L2N.CX P w) 6 "store_told" _ fd_store_told ["folders", "lines"] (spStoreT K _ _ _) := ⟨ok_storeT B T TS T_BadText GBX b_BadText_init GSt bSt c_size_told E_store_told, g_store_told, E_store_told.kp, E_store_told.binds (fun _ _ _ _ _ _ us hl => match us, hl with | [_, _], _ => rfl)⟩
  have c_weights_told : Cal P w K mg base CX0 3 "weights_told" _ fd_weights_told ["folders", "parts"] (spWeiT _) := ⟨ok_weiT B c_lot_of c_integer_told E_weights_told, g_weights_told, E_weights_told.kp, E_weights_told.binds (fun _ _ _ _ _ _ us hl => match us, hl with | [_, _], _ => rfl)⟩
  have GC := ok_counts (C := He.ga K "Folders") (P := P) (w := w) (base := base) B TQ E_Question_counts
  have b_Question_counts : Binds K fd_Question_counts ["self"] [] := E_Question_counts.binds (fun _ _ _ _ _ _ us hl => match us, hl with | [_], _ => rfl)
  have c_line_of_telling : Cal P w K mg base CX0 2 "line_of_telling" _ fd_line_of_telling ["question", "low", "high"] (spLineT _ _) := ⟨ok_lineT B cl_Question GC b_Question_counts m_Question_counts E_line_of_telling, g_line_of_telling, E_line_of_telling.kp, E_line_of_telling.binds (fun _ _ _ _ _ _ us hl => match us, hl with | [_, _, _], _ => rfl)⟩
  have TB : BooT K mg _ _ := ⟨g_Book, cl_Book, a_Book_folders, a_Book_questions, a_Book_ends, r_Book⟩
  have GBI := ok_bookI (C := (He.ga K "Folders")) (CQ := (He.ga K "Question")) (P := P) (w := w) (base := base) B TB E_Book_init
  have b_Book_init : Binds K fd_Book_init ["self", "folders"] [] := E_Book_init.binds (fun _ _ _ _ _ _ us hl => match us, hl with | [_, _], _ => rfl)
  have GBS := ok_bSet (P := P) (w := w) (base := base) B TQ TB (of_decide_eq_true m4) (insB_ok xi_Folders cl_Folders) GE bE oE m3 c_place_in c_ends_of E_Book_setitem
  have b_Book_setitem : Binds K fd_Book_setitem ["self", "at", "worth"] [] := E_Book_setitem.binds (fun _ _ _ _ _ _ us hl => match us, hl with | [_, _, _], _ => rfl)
  have GBC := ok_bIn (P := P) (w := w) (base := base) B TB c_place_in E_Book_contains
  have b_Book_contains : Binds K fd_Book_contains ["self", "x"] [] := E_Book_contains.binds (fun _ _ _ _ _ _ us hl => match us, hl with | [_, _], _ => rfl)
  have c_telling_told : Cal P w K mg base CX0 6 "telling_told" _ fd_telling_told ["folders", "line"] (spTellT _ _) := ⟨ok_tellT B TQ GQ bQ c_integer_told co_ends_of c_weights_told c_line_of_telling E_telling_told, g_telling_told, E_telling_told.kp, E_telling_told.binds (fun _ _ _ _ _ _ us hl => match us, hl with | [_, _], _ => rfl)⟩
  have c_book_told : Cal P w K mg base (L2N.CX P w) 7 "book_told" _ fd_book_told ["folders", "lines"] (spBookT _ _ _ _) := ⟨ok_bookT B TB T_BadText GBX b_BadText_init GBI b_Book_init GBS b_Book_setitem ⟨m_Book_setitem.at_, m_Book_setitem.fn⟩ b2 GBC b_Book_contains ⟨m_Book_contains.at_, m_Book_contains.fn⟩ c_telling_told E_book_told, g_book_told, E_book_told.kp, E_book_told.binds (fun _ _ _ _ _ _ us hl => match us, hl with | [_, _], _ => rfl)⟩
  have c_read : Cal P w K mg base (L2N.CX P w) 8 "read" _ fd_read ["text"] (spRead K _ _ _) := ⟨ok_read B T_BadText GBX b_BadText_init c_head_told c_book_told c_store_told E_read, g_read, E_read.kp, E_read.binds (fun _ _ _ _ _ _ us hl => match us, hl with | [_], _ => rfl)⟩
  have c__law_tried : Cal P w K mg base CX0 9 "_law_tried" _ fd__law_tried ["_law_written"] spTriedT := ⟨ok_triedT B T_BadText c_read E__law_tried, g__law_tried, E__law_tried.kp, E__law_tried.binds (fun _ _ _ _ _ _ us hl => match us, hl with | [_], _ => rfl)⟩
  have c__law_bad_heads : Cal P w K mg base CX0 1 "_law_bad_heads" _ fd__law_bad_heads [] (spTexts headsL) := ⟨ok_heads B E__law_bad_heads, g__law_bad_heads, E__law_bad_heads.kp, E__law_bad_heads.binds (fun _ _ _ _ _ _ us hl => match us, hl with | [], _ => rfl)⟩
  have c__law_bad_store_lines : Cal P w K mg base CX0 1 "_law_bad_store_lines" _ fd__law_bad_store_lines [] (spTexts slinesL) := ⟨ok_slines B E__law_bad_store_lines, g__law_bad_store_lines, E__law_bad_store_lines.kp, E__law_bad_store_lines.binds (fun _ _ _ _ _ _ us hl => match us, hl with | [], _ => rfl)⟩
  have c__law_bad_book_lines : Cal P w K mg base CX0 1 "_law_bad_book_lines" _ fd__law_bad_book_lines [] (spTexts blinesL) := ⟨ok_blines B E__law_bad_book_lines, g__law_bad_book_lines, E__law_bad_book_lines.kp, E__law_bad_book_lines.binds (fun _ _ _ _ _ _ us hl => match us, hl with | [], _ => rfl)⟩
  have c__law_are_refused : Cal P w K mg base CX0 10 "_law_are_refused" _ fd__law_are_refused ["_law_stream", "_law_written", "_law_lines", "_law_bad"] (spRefT K) := ⟨ok_refT B c__law_tried c__law_pick c__law_same E__law_are_refused, g__law_are_refused, E__law_are_refused.kp, E__law_are_refused.binds (fun _ _ _ _ _ _ us hl => match us, hl with | [_, _, _, _], _ => rfl)⟩
  have GFL := ok_flen (P := P) (w := w) (base := base) B T E_Folders_len
  have b_Folders_len : Binds K fd_Folders_len ["self"] [] := E_Folders_len.binds (fun _ _ _ _ _ _ us hl => match us, hl with | [_], _ => rfl)
  exact ok_law B TS GFL b_Folders_len ⟨m_Folders_len.at_, m_Folders_len.fn⟩ c__law_start c__law_pick c__law_same c__law_bad_heads c__law_bad_store_lines c__law_bad_book_lines c__law_tried c__law_are_refused c_read E_law
end Bk
open PySem PySem.W PySem.Calls PyProof.Rows
theorem PySem.Challenge.cw_blockshares_k55_texts_refused_holds : PySem.Challenge.rw_blockshares_k55_texts_refused.Holds := by
  w_on; o_law
  refine HandSHeadRun.head_any (r := Bk.RowL) (q := view Bk.RowL.prog [93]) (H := Bk.hkL) (ob := Bk.obL) (M := 13000) (d := HandSHeadRun.topDef Bk.RowL.prog 93) (kwd := []) Bk.obL_eq
    (by kernel_rfl) (fun s => by kernel_rfl) Bk.runL (by kernel_rfl) (by kernel_rfl) (by kernel_rfl) (by rfl) (by first | assumption | decide +kernel) (by decide +kernel) ⟨rfl, rfl, rfl, rfl, rfl, by decide +kernel⟩ ?hw ?hc
  case hw => w_witness2
  case hc =>
    refine L2.walk_ofE (l := PySem.Challenge.rw_blockshares_k55_texts_refused) (n := 63) (k := 11) (x := "_law_script") (CX := L2.CX0) rfl (by decide) (by kernel_rfl) ⟨rfl, by decide, by decide⟩ ?F (fun _ _ _ _ z => z)
    intro w mg fa h Y G hmg0
    obtain ⟨K, KX, c⟩ := Y
    have hmg : mg ("law" : PySem.Str) = some (.ref fa) := by
      have e : (HandSHeadRun.topDef Bk.RowL.prog 93).name = ("law" : PySem.Str) := by kernel_rfl
      rw [← e]
      exact hmg0
    obtain ⟨fd, hb, hF⟩ := Bk.factsL (P := (PySem.Challenge.rw_blockshares_k55_texts_refused).prog) (w := w) KX G hmg c
    exact ⟨K, fd, Bk.spLaw K, KX, hb, fun H a ns hl _ hS => ⟨a, ns, rfl, hS, fun _ => rfl⟩, hF⟩
